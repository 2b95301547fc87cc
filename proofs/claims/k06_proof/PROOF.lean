import PyProof.Rows.All
import Wide.All
import OpenK.AllK
import Wide.FinOn
import HandS.Base
import HandS.Call
import HandS.List
import HandS.Comp
import HandS.Words
import HandS.ExcInit
import HandS.Ends
import HandS.Flow
import HandS.Iter
import HandS.WordsList
import HandS.Text
import HandS.TupAny
import HandS.TupLe
import HandS.Wide
import HandS.IsInst
import HandS.Deep
import HandS.Style
import HandS.StrMore
import HandS.WordsDict
import PyProof.StrBlock2
import PyProof.Rows.RegStrFacts
import HandS.Dict
import PyProof.StrLawsIn
import PyProof.StrLawsLast
import HandS.ExcIs
import HandS.ExcValue
import KE.KExcInit
import KE.KExcIs
import HandS.Zip
import PyProof.StrLawsRepr
import HandS.Small
import PyProof.Rows.StrCut
import HandS.More
import KE.GoesMore
import PyProof.Draws
import PyProof.EnumMake
import PyProof.NeKinds
import HandS.SortOrd
import HandS.Strs
import HandS.Property
import HandS.OwnEq
import HandS.FStr
import HandS.Star
import KE.KCallOwn
import HandS.TupSets
import HandS.SetTxt0
import HandS.SortInts
import HandS.SetFor
import PyProof.ReprLen
import HandS.NoneIn
import PyProof.SetRoads
import HandS.Defaults
import HandS.MakeKwOnly
import PyProof.DictUpdate
import PyProof.DictDisplay
import KE.DataMinMax
import KE.SortData
import HandS.SetBool
import KE.DataMinKey
import HandS.SortKw
import PyProof.ListStr
import HandS.ClsMeth
import HandS.DictComp
import HandS.DictTup
import PyProof.TupleCall
import PyProof.CollectWalk
import HandS.HeadEnd
import HandS.HeadHook2
import HandS.HeadHook3
import HandS.Head2
import PySem.Challenge.RW_mayrest_k06_in_a_program
set_option Elab.async false
set_option linter.all false
set_option maxRecDepth 100000
/-! DL: a layer of data over HandS: values as trees, one state of what may change, and readings that speak of data alone. -/
namespace DL
open PySem PySem.Spec PyProof.Rows L2

/-- an exception of the class C that has been caught, at a: its dict d -/
def exr (a C : Addr) (d : Option Addr) : HO := .ext fun h => ∃ (oe : Obj) (vs : Array Value), h.get? a = some oe ∧ oe.cls = .ref C ∧ oe.dict = d ∧ oe.data = .fields vs
/-- data: what a value is, all the way down -/
inductive D where
  | non | bl (b : Bool) | int (i : Int) | str (x : Str) | lst (xs : List D) | tup (xs : List D)
  | dic (ks : List Key) (vs : List D) | ins (C : Addr) (ns : List Str) (vs : List D) | any (v : V) | fz (xs : List D) | exc (C : Addr) (ns : List Str) (vs : List D) | cau (a x : Addr) (ns : List Str) (vs : List D) | exk (C : Addr) (ns : List Str) (vs : List D)

/-- the texts that are spoken of -/
abbrev strLim : Nat := 1000000
def sOk (x : Str) : Bool := decide (x.length ≤ strLim) && x.cps.toList.all (fun c => decide (c < 0x110000))
theorem sOk_len {x : Str} (h : sOk x = true) : x.length ≤ strLim := by
  unfold sOk at h
  rw [Bool.and_eq_true] at h
  exact of_decide_eq_true h.1
theorem sOk_cps {x : Str} (h : sOk x = true) : ∀ c ∈ x.cps.toList, c < 0x110000 := fun c hc => by
  unfold sOk at h
  rw [Bool.and_eq_true] at h
  exact of_decide_eq_true (List.all_eq_true.mp h.2 c hc)
theorem sOk_of {x : Str} (h : x.length ≤ strLim) (k : ∀ c ∈ x.cps.toList, c < 0x110000) : sOk x = true := by
  unfold sOk
  rw [Bool.and_eq_true]
  exact ⟨decide_eq_true h, List.all_eq_true.mpr fun c hc => decide_eq_true (k c hc)⟩
theorem strLim_line : strLim + 2 ≤ sizeLine := by decide
mutual
/-- the value v is the data d, by what stands in F (which never changes) -/
def Rep (K : PySem.W.Frag) (F : Hp) : D → V → Prop
  | .non, v => v = .non
  | .bl b, v => v = .bl b
  | .int i, v => v = .int i
  | .str x, v => v = .str x ∧ sOk x = true
  | .lst ds, v => ∃ a vs, v = .ref a ∧ F a = some (.lst vs) ∧ vs.length ≤ sizeLine ∧ Reps K F ds vs
  | .tup ds, v => ∃ a vs, v = .ref a ∧ SqT K F a vs ∧ vs.length ≤ sizeLine ∧ Reps K F ds vs
  | .dic ks ds, v => ∃ a kvs, v = .ref a ∧ F a = some (.dK kvs) ∧ kvs.length ≤ sizeLine ∧ kvs.map (·.1) = ks ∧ Reps K F ds (kvs.map (·.2))
  | .ins C ns ds, v => ∃ a dx fs, v = .ref a ∧ F a = some (.ins C dx fs) ∧ fs.map (·.1) = ns ∧ Reps K F ds (fs.map (·.2))
  | .any w, v => v = w
  | .fz ds, v => ∃ a vs, v = .ref a ∧ SqL K F a vs ∧ vs.length ≤ sizeLine ∧ Reps K F ds vs
  | .exc C ns ds, v => ∃ a d fs, v = .ref a ∧ F a = some (exo a C d) ∧ (∀ x, d = some x → F x = some (exd x fs)) ∧ (d = none → fs = []) ∧ fs.map (·.1) = ns ∧ Reps K F ds (fs.map (·.2))
  | .cau a x ns ds, v => v = .ref a ∧ ∃ fs, F x = some (.xd fs) ∧ fs.map (·.1) = ns ∧ Reps K F ds (fs.map (·.2))
  | .exk C ns ds, v => ∃ a x fs, v = .ref a ∧ F a = some (exr a C (some x)) ∧ F x = some (.xd fs) ∧ fs.map (·.1) = ns ∧ Reps K F ds (fs.map (·.2))
def Reps (K : PySem.W.Frag) (F : Hp) : List D → List V → Prop
  | [], vs => vs = []
  | d :: ds, vs => ∃ v r, vs = v :: r ∧ Rep K F d v ∧ Reps K F ds r
end

theorem Same.seqT {K : PySem.W.Frag} {H H' : Hp} {a : Addr} {xs : List V} (e : Same H H') (h : SqT K H a xs) : SqT K H' a xs := by
  rcases h with (h | ⟨o, h⟩) | h
  · exact .inl (.inl (e _ _ h))
  · exact .inl (.inr ⟨o, e _ _ h⟩)
  · exact .inr h
mutual
theorem Rep.mono {K : PySem.W.Frag} {F F' : Hp} (s : Same F F') : ∀ (d : D) (v : V), Rep K F d v → Rep K F' d v
  | .non, _, h => h
  | .bl _, _, h => h
  | .int _, _, h => h
  | .str _, _, h => h
  | .lst ds, _, ⟨a, vs, e, h, l, r⟩ => ⟨a, vs, e, s _ _ h, l, Reps.mono s ds _ r⟩
  | .tup ds, _, ⟨a, vs, e, h, l, r⟩ => ⟨a, vs, e, Same.seqT s h, l, Reps.mono s ds _ r⟩
  | .dic _ ds, _, ⟨a, kvs, e, h, l, k, r⟩ => ⟨a, kvs, e, s _ _ h, l, k, Reps.mono s ds _ r⟩
  | .ins _ _ ds, _, ⟨a, dx, fs, e, h, k, r⟩ => ⟨a, dx, fs, e, s _ _ h, k, Reps.mono s ds _ r⟩
  | .any _, _, h => h
  | .fz ds, _, ⟨a, vs, e, h, l, r⟩ => ⟨a, vs, e, Same.seq s h, l, Reps.mono s ds _ r⟩
  | .exc _ _ ds, _, ⟨a, d, fs, e, h, h2, h3, k, r⟩ => ⟨a, d, fs, e, s _ _ h, fun x ex => s _ _ (h2 x ex), h3, k, Reps.mono s ds _ r⟩
  | .cau _ _ _ ds, _, ⟨e, fs, h, k, r⟩ => ⟨e, fs, s _ _ h, k, Reps.mono s ds _ r⟩
  | .exk _ _ ds, _, ⟨a, x, fs, e, h, h2, k, r⟩ => ⟨a, x, fs, e, s _ _ h, s _ _ h2, k, Reps.mono s ds _ r⟩
theorem Reps.mono {K : PySem.W.Frag} {F F' : Hp} (s : Same F F') : ∀ (ds : List D) (vs : List V), Reps K F ds vs → Reps K F' ds vs
  | [], _, h => h
  | d :: ds, _, ⟨v, r, e, h, t⟩ => ⟨v, r, e, Rep.mono s d v h, Reps.mono s ds r t⟩
end
theorem Reps.length {K : PySem.W.Frag} {F : Hp} : ∀ {ds : List D} {vs : List V}, Reps K F ds vs → vs.length = ds.length
  | [], _, h => by cases h; rfl
  | d :: ds, _, ⟨v, r, e, _, t⟩ => by subst e; rw [List.length_cons, List.length_cons, Reps.length t]
theorem Reps.nil {K : PySem.W.Frag} {F : Hp} : Reps K F [] [] := rfl
theorem Reps.cons {K : PySem.W.Frag} {F : Hp} {d : D} {ds : List D} {v : V} {vs : List V} (h : Rep K F d v) (t : Reps K F ds vs) : Reps K F (d :: ds) (v :: vs) := ⟨v, vs, rfl, h, t⟩
theorem Reps.get {K : PySem.W.Frag} {F : Hp} : ∀ {ds : List D} {vs : List V} {i : Nat} {d : D}, Reps K F ds vs → ds[i]? = some d → ∃ v, vs[i]? = some v ∧ Rep K F d v
  | [], _, _, _, _, e => by simp at e
  | x :: ds, _, 0, d, ⟨v, r, e, h, _⟩, q => by
    subst e
    have q' : x = d := by simpa using q
    subst q'
    exact ⟨v, rfl, h⟩
  | x :: ds, _, i + 1, d, ⟨v, r, e, _, t⟩, q => by
    subst e
    have q' : ds[i]? = some d := by simpa using q
    obtain ⟨w, h1, h2⟩ := Reps.get t q'
    exact ⟨w, by simpa using h1, h2⟩
theorem Reps.append {K : PySem.W.Frag} {F : Hp} : ∀ {ds es : List D} {vs ws : List V}, Reps K F ds vs → Reps K F es ws → Reps K F (ds ++ es) (vs ++ ws)
  | [], _, _, _, h, t => by cases h; exact t
  | d :: ds, _, _, _, ⟨v, r, e, h, t⟩, u => by subst e; exact ⟨v, _, rfl, h, Reps.append t u⟩
theorem Reps.one {K : PySem.W.Frag} {F : Hp} {d : D} {v : V} (h : Rep K F d v) : Reps K F [d] [v] := .cons h .nil
theorem Reps.take {K : PySem.W.Frag} {F : Hp} : ∀ {ds : List D} {vs : List V} (n : Nat), Reps K F ds vs → Reps K F (ds.take n) (vs.take n)
  | _, _, 0, _ => by simp; exact .nil
  | [], _, _ + 1, h => by cases h; simp; exact .nil
  | d :: ds, _, n + 1, ⟨v, r, e, h, t⟩ => by subst e; exact .cons h (Reps.take n t)
theorem Reps.drop {K : PySem.W.Frag} {F : Hp} : ∀ {ds : List D} {vs : List V} (n : Nat), Reps K F ds vs → Reps K F (ds.drop n) (vs.drop n)
  | _, _, 0, h => h
  | [], _, _ + 1, h => by cases h; simp; exact .nil
  | d :: ds, _, n + 1, ⟨v, r, e, h, t⟩ => by subst e; exact Reps.drop n t
theorem Reps.set {K : PySem.W.Frag} {F : Hp} {d : D} {v : V} (h : Rep K F d v) : ∀ {ds : List D} {vs : List V} (i : Nat), Reps K F ds vs → Reps K F (ds.set i d) (vs.set i v)
  | [], _, _, t => by cases t; exact .nil
  | _ :: _, _, 0, ⟨w, r, e, _, t⟩ => by subst e; exact .cons h t
  | _ :: _, _, i + 1, ⟨w, r, e, h', t⟩ => by subst e; exact .cons h' (Reps.set h i t)
theorem Reps.reverse {K : PySem.W.Frag} {F : Hp} : ∀ {ds : List D} {vs : List V}, Reps K F ds vs → Reps K F ds.reverse vs.reverse
  | [], _, h => by cases h; exact .nil
  | d :: ds, _, ⟨v, r, e, h, t⟩ => by
    subst e
    rw [List.reverse_cons, List.reverse_cons]
    exact (Reps.reverse t).append (.one h)
theorem Reps.split {K : PySem.W.Frag} {F : Hp} {x : D} : ∀ {pre post : List D} {vs : List V}, Reps K F (pre ++ x :: post) vs → ∃ v, vs[pre.length]? = some v ∧ Rep K F x v := fun h => h.get (by simp)
theorem reps_ints {K : PySem.W.Frag} {F : Hp} : ∀ {ns : List Int} {vs : List V}, Reps K F (ns.map D.int) vs → vs = ns.map V.int
  | [], _, h => by cases h; rfl
  | n :: ns, _, ⟨v, r, e, h, t⟩ => by subst e; cases h; rw [reps_ints t]; rfl
theorem reps_of_ints {K : PySem.W.Frag} {F : Hp} : ∀ (ns : List Int), Reps K F (ns.map D.int) (ns.map V.int)
  | [] => .nil
  | n :: ns => .cons rfl (reps_of_ints ns)
theorem reps_strs {K : PySem.W.Frag} {F : Hp} : ∀ {ns : List Str} {vs : List V}, Reps K F (ns.map D.str) vs → vs = ns.map V.str ∧ ∀ x ∈ ns, sOk x = true
  | [], _, h => by cases h; exact ⟨rfl, by simp⟩
  | n :: ns, _, ⟨v, r, e, h, t⟩ => by
    subst e
    obtain ⟨h1, h2⟩ := h
    obtain ⟨h3, h4⟩ := reps_strs t
    subst h1 h3
    exact ⟨rfl, fun x hx => by rcases List.mem_cons.mp hx with e | hx; · subst e; exact h2
                               · exact h4 x hx⟩
theorem reps_of_strs {K : PySem.W.Frag} {F : Hp} : ∀ (ns : List Str), (∀ x ∈ ns, sOk x = true) → Reps K F (ns.map D.str) (ns.map V.str)
  | [], _ => .nil
  | n :: ns, h => .cons ⟨rfl, h n List.mem_cons_self⟩ (reps_of_strs ns fun x hx => h x (List.mem_cons_of_mem _ hx))
theorem reps_bls {K : PySem.W.Frag} {F : Hp} : ∀ {ns : List Bool} {vs : List V}, Reps K F (ns.map D.bl) vs → vs = ns.map V.bl
  | [], _, h => by cases h; rfl
  | n :: ns, _, ⟨v, r, e, h, t⟩ => by subst e; cases h; rw [reps_bls t]; rfl

/-! ### what may change -/
/-- what a law's defs change: its state, how the heap bears it, where it lies -/
structure Mem where
  S : Type
  M : S → Hp → Prop
  R : S → Addr → Prop
  loc : ∀ s H H', M s H → (∀ a, R s a → H' a = H a) → M s H'
  there : ∀ s H a, M s H → R s a → H a ≠ none
/-- nothing -/
def Mem.nil : Mem := ⟨Unit, fun _ _ => True, fun _ _ => False, fun _ _ _ _ _ => trivial, fun _ _ _ _ h => h.elim⟩

/-- an object that a def has made and alone knows: it may be changed -/
inductive Ob where
  | lst (ds : List D)
  | dic (ks : List Key) (ds : List D)
  | ins (x dx C : Addr) (ns : List Str) (ds : List D)
  | box (g : Addr → HO)
  | bag (g : List (Addr × List Str) → Addr → HO) (ks : List (List Str))
inductive Sl where
  | no
  | sh (d : D)
  | ow (o : Ob)
def ObAt (K : PySem.W.Frag) (F : Hp) : Ob → Addr → HO → Prop
  | .ins x dx C ns ds, p, o => p = x ∧ ∃ fs : List (Str × V), o = .ins C dx fs ∧ fs.map (·.1) = ns ∧ Reps K F ds (fs.map (·.2))
  | .box g, p, o => o = g p
  | .bag g ks, p, o => ∃ L : List (Addr × List Str), o = g L p ∧ (L.map (·.2)).Perm ks ∧ ∀ q ∈ L, SqT K F q.1 (q.2.map V.str)
  | .lst ds, _, o => ∃ vs, o = .lst vs ∧ vs.length ≤ sizeLine ∧ Reps K F ds vs
  | .dic ks ds, _, o => ∃ kvs : List (Key × V), o = .dK kvs ∧ kvs.length ≤ sizeLine ∧ kvs.map (·.1) = ks ∧ Reps K F ds (kvs.map (·.2))
theorem ObAt.mono {K : PySem.W.Frag} {F F' : Hp} (s : Same F F') {o : Ob} {p : Addr} {ho : HO} (h : ObAt K F o p ho) : ObAt K F' o p ho := by
  cases o with
  | lst ds => obtain ⟨vs, e, l, r⟩ := h; exact ⟨vs, e, l, Reps.mono s _ _ r⟩
  | dic ks ds => obtain ⟨kvs, e, l, k, r⟩ := h; exact ⟨kvs, e, l, k, Reps.mono s _ _ r⟩
  | ins x dx C ns ds => obtain ⟨e0, fs, e, k, r⟩ := h; exact ⟨e0, fs, e, k, Reps.mono s _ _ r⟩
  | box g => exact h
  | bag g ks => obtain ⟨L, e, p, a⟩ := h; exact ⟨L, e, p, fun q hq => Same.seqT s (a q hq)⟩
/-- .. as data that does not change any more -/
def Ob.d : Ob → Option D
  | .lst ds => some (.lst ds)
  | .dic ks ds => some (.dic ks ds)
  | .ins _ _ C ns ds => some (.ins C ns ds)
  | .box _ => none
  | .bag _ _ => none
theorem ObAt.rep {K : PySem.W.Frag} {F F' : Hp} {o : Ob} {ho : HO} {a : Addr} {d : D} (h : ObAt K F o a ho) (s : Same F F') (e : F' a = some ho) (hd : o.d = some d) : Rep K F' d (.ref a) := by
  cases o with
  | lst ds => cases hd; obtain ⟨vs, rfl, l, r⟩ := h; exact ⟨a, vs, rfl, e, l, Reps.mono s _ _ r⟩
  | dic ks ds => cases hd; obtain ⟨kvs, rfl, l, k, r⟩ := h; exact ⟨a, kvs, rfl, e, l, k, Reps.mono s _ _ r⟩
  | ins x dx C ns ds => cases hd; obtain ⟨e0, fs, rfl, k, r⟩ := h; exact ⟨a, dx, fs, rfl, e, k, Reps.mono s _ _ r⟩
  | box g => cases hd
  | bag g ks => cases hd

/-- the slot i owns the object at p -/
def Owns (σ : L2.St) (ρ : List Sl) (i : Nat) (p : Addr) : Prop := (∃ o, ρ[i]? = some (Sl.ow o)) ∧ σ[i]? = some (some (V.ref p))

structure Rel (K : PySem.W.Frag) (m : Mem) (F H : Hp) (σ : L2.St) (ρ : List Sl) (s : m.S) : Prop where
  sub : Same F H
  mem : m.M s H
  reg : ∀ a, m.R s a → F a = none
  len : σ.length = ρ.length
  sh : ∀ (i : Nat) d, ρ[i]? = some (Sl.sh d) → ∃ v, σ[i]? = some (some v) ∧ Rep K F d v
  ow : ∀ (i : Nat) o, ρ[i]? = some (Sl.ow o) → ∃ p ho, σ[i]? = some (some (V.ref p)) ∧ H p = some ho ∧ ObAt K F o p ho
  owF : ∀ (i : Nat) p, Owns σ ρ i p → F p = none ∧ ¬ m.R s p
  uq : ∀ (i j : Nat) p, Owns σ ρ i p → Owns σ ρ j p → i = j

/-- from one state to a later one, the slots' values σ the same -/
structure Stp (m : Mem) (F H : Hp) (σ : L2.St) (ρ : List Sl) (s : m.S) (F' H' : Hp) (ρ' : List Sl) (s' : m.S) : Prop where
  ext : Same F F'
  keep : ∀ a o, H a = some o → ¬ m.R s a → H' a = some o
  alive : ∀ a, H a ≠ none → H' a ≠ none
  fresh : ∀ a o, F' a = some o → F a = some o ∨ H a = none ∨ ∃ i, Owns σ ρ i a
  regf : ∀ a, m.R s' a → m.R s a ∨ H a = none
  shr : ∀ (i : Nat) o, ρ'[i]? = some (Sl.ow o) → ρ[i]? = some (Sl.ow o)
theorem Stp.refl {m : Mem} {F H : Hp} {σ : L2.St} {ρ : List Sl} {s : m.S} : Stp m F H σ ρ s F H ρ s :=
  ⟨Same.refl F, fun _ _ h _ => h, fun _ h => h, fun _ _ h => .inl h, fun _ h => .inl h, fun _ _ h => h⟩
theorem Stp.owns {m : Mem} {F H F' H' : Hp} {σ : L2.St} {ρ ρ' : List Sl} {s s' : m.S} (a : Stp m F H σ ρ s F' H' ρ' s') {i : Nat} {p : Addr} (h : Owns σ ρ' i p) : Owns σ ρ i p := by
  obtain ⟨⟨o, e⟩, q⟩ := h
  exact ⟨⟨o, a.shr i o e⟩, q⟩
theorem Stp.trans {m : Mem} {F H F1 H1 F2 H2 : Hp} {σ : L2.St} {ρ ρ1 ρ2 : List Sl} {s s1 s2 : m.S} (a : Stp m F H σ ρ s F1 H1 ρ1 s1) (b : Stp m F1 H1 σ ρ1 s1 F2 H2 ρ2 s2) : Stp m F H σ ρ s F2 H2 ρ2 s2 where
  ext := a.ext.trans b.ext
  keep := fun p o h n => b.keep p o (a.keep p o h n) fun r => by
    rcases a.regf p r with r | r
    · exact n r
    · rw [r] at h; cases h
  alive := fun p h => b.alive p (a.alive p h)
  fresh := fun p o h => by
    rcases b.fresh p o h with h | h | ⟨i, h⟩
    · exact a.fresh p o h
    · refine .inr (.inl ?_)
      cases q : H p with
      | none => rfl
      | some u => exact absurd h (a.alive p (by rw [q]; simp))
    · exact .inr (.inr ⟨i, a.owns h⟩)
  regf := fun p h => by
    rcases b.regf p h with h | h
    · exact a.regf p h
    · refine .inr ?_
      cases q : H p with
      | none => rfl
      | some u => exact absurd h (a.alive p (by rw [q]; simp))
  shr := fun i o h => a.shr i o (b.shr i o h)

/-- new objects alone -/
structure Grow (F H F' H' : Hp) : Prop where
  fF : Same F F'
  hH : Same H H'
  fH : Same F' H'
  fresh : ∀ a o, F' a = some o → F a = some o ∨ H a = none
theorem Grow.refl {F H : Hp} (h : Same F H) : Grow F H F H := ⟨Same.refl _, Same.refl _, h, fun _ _ h => .inl h⟩
theorem same_upd {H : Hp} {p : Addr} {o : HO} (h : H p = none) : Same H (upd H p o) := fun b x e => by
  rw [upd_ne (ne_of_none e h)]
  exact e
theorem Grow.new {F H : Hp} {p : Addr} {o : HO} (h : Same F H) (n : H p = none) : Grow F H (upd F p o) (upd H p o) := by
  have nF : F p = none := h.free n
  refine ⟨same_upd nF, same_upd n, fun b x e => ?_, fun b x e => ?_⟩
  · by_cases hb : b = p
    · subst hb; rw [upd_same] at e ⊢; exact e
    · rw [upd_ne hb] at e ⊢; exact h _ _ e
  · by_cases hb : b = p
    · subst hb; exact .inr n
    · rw [upd_ne hb] at e; exact .inl e
theorem Grow.trans {F H F1 H1 F2 H2 : Hp} (a : Grow F H F1 H1) (b : Grow F1 H1 F2 H2) : Grow F H F2 H2 :=
  ⟨a.fF.trans b.fF, a.hH.trans b.hH, b.fH, fun p o h => by
    rcases b.fresh p o h with h | h
    · exact a.fresh p o h
    · exact .inr (a.hH.free h)⟩
section
variable {K : PySem.W.Frag} {m : Mem} {F H F' H' : Hp} {σ : L2.St} {ρ : List Sl} {s : m.S}
theorem Grow.stp (g : Grow F H F' H') : Stp m F H σ ρ s F' H' ρ s :=
  ⟨g.fF, fun a o h _ => g.hH a o h, fun a h => by
    cases q : H a with
    | none => exact absurd q h
    | some u => rw [g.hH a u q]; simp, fun a o h => (g.fresh a o h).elim .inl fun z => .inr (.inl z), fun _ h => .inl h, fun _ _ h => h⟩
theorem Rel.grow (r : Rel K m F H σ ρ s) (g : Grow F H F' H') : Rel K m F' H' σ ρ s where
  sub := g.fH
  mem := m.loc s H H' r.mem fun a ha => by
    have q := m.there s H a r.mem ha
    cases e : H a with
    | none => exact absurd e q
    | some u => exact g.hH a u e
  reg := fun a ha => by
    cases e : F' a with
    | none => rfl
    | some u =>
      rcases g.fresh a u e with z | z
      · rw [r.reg a ha] at z; cases z
      · exact absurd z (m.there s H a r.mem ha)
  len := r.len
  sh := fun i d e => by
    obtain ⟨v, h1, h2⟩ := r.sh i d e
    exact ⟨v, h1, Rep.mono g.fF _ _ h2⟩
  ow := fun i o e => by
    obtain ⟨p, ho, h1, h2, h3⟩ := r.ow i o e
    exact ⟨p, ho, h1, g.hH _ _ h2, h3.mono g.fF⟩
  owF := fun i p h => by
    obtain ⟨h1, h2⟩ := r.owF i p h
    refine ⟨?_, h2⟩
    cases e : F' p with
    | none => rfl
    | some u =>
      rcases g.fresh p u e with z | z
      · rw [h1] at z; cases z
      · obtain ⟨⟨o, q1⟩, q2⟩ := h
        obtain ⟨p', ho, e1, e2, _⟩ := r.ow i o q1
        rw [q2] at e1; cases e1
        rw [z] at e2; cases e2
  uq := r.uq
/-- an owned object is known, and changes no more -/
theorem Rel.own_at (r : Rel K m F H σ ρ s) {i : Nat} {o : Ob} (e : ρ[i]? = some (Sl.ow o)) : ∃ p ho, σ[i]? = some (some (V.ref p)) ∧ H p = some ho ∧ ObAt K F o p ho ∧ F p = none ∧ ¬ m.R s p := by
  obtain ⟨p, ho, h1, h2, h3⟩ := r.ow i o e
  obtain ⟨h4, h5⟩ := r.owF i p ⟨⟨o, e⟩, h1⟩
  exact ⟨p, ho, h1, h2, h3, h4, h5⟩
/-- an object that no slot owns becomes known -/
theorem Rel.adopt (r : Rel K m F H σ ρ s) {p : Addr} {ho : HO} (h : H p = some ho) (n : F p = none) (nr : ¬ m.R s p) (no : ∀ i, ¬ Owns σ ρ i p) : Rel K m (upd F p ho) H σ ρ s where
  sub := fun b x e => by
    by_cases hb : b = p
    · subst hb; rw [upd_same] at e; cases e; exact h
    · rw [upd_ne hb] at e; exact r.sub _ _ e
  mem := r.mem
  reg := fun a ha => by
    have hb : a ≠ p := fun z => nr (z ▸ ha)
    rw [upd_ne hb]; exact r.reg a ha
  len := r.len
  sh := fun i d e => by
    obtain ⟨v, h1, h2⟩ := r.sh i d e
    exact ⟨v, h1, Rep.mono (same_upd n) _ _ h2⟩
  ow := fun i o e => by
    obtain ⟨q, ho', h1, h2, h3⟩ := r.ow i o e
    exact ⟨q, ho', h1, h2, h3.mono (same_upd n)⟩
  owF := fun i q hq => by
    obtain ⟨h1, h2⟩ := r.owF i q hq
    have hb : q ≠ p := fun z => no i (z ▸ hq)
    exact ⟨by rw [upd_ne hb]; exact h1, h2⟩
  uq := r.uq
/-- a slot forgotten, or one that was owned now shared -/
theorem Rel.share (r : Rel K m F H σ ρ s) {i : Nat} {o : Ob} {p : Addr} {ho : HO} {d : D} (hd : o.d = some d) (e : ρ[i]? = some (Sl.ow o)) (eσ : σ[i]? = some (some (V.ref p))) (h : H p = some ho) (ob : ObAt K F o p ho) :
    Rel K m (upd F p ho) H σ (ρ.set i (.sh d)) s ∧ Stp m F H σ ρ s (upd F p ho) H (ρ.set i (.sh d)) s ∧ Rep K (upd F p ho) d (.ref p) := by
  obtain ⟨n, nr⟩ := r.owF i p ⟨⟨o, e⟩, eσ⟩
  have hi : i < ρ.length := (List.getElem?_eq_some_iff.mp e).1
  have sm : Same F (upd F p ho) := same_upd n
  have rp : Rep K (upd F p ho) d (.ref p) := ob.rep sm upd_same hd
  have back : ∀ j q, Owns σ (ρ.set i (.sh d)) j q → j ≠ i ∧ Owns σ ρ j q := fun j q ⟨⟨o', h1⟩, h2⟩ => by
    by_cases hj : i = j
    · subst hj; rw [List.getElem?_set_self hi] at h1; cases h1
    · rw [List.getElem?_set_ne hj] at h1; exact ⟨Ne.symm hj, ⟨o', h1⟩, h2⟩
  refine ⟨⟨fun b x z => ?_, r.mem, fun a ha => ?_, by rw [List.length_set]; exact r.len, fun j d' z => ?_, fun j o' z => ?_, fun j q z => ?_, fun j k q h1 h2 => r.uq j k q (back j q h1).2 (back k q h2).2⟩, ?_, rp⟩
  · by_cases hb : b = p
    · subst hb; rw [upd_same] at z; cases z; exact h
    · rw [upd_ne hb] at z; exact r.sub _ _ z
  · have hb : a ≠ p := fun z => nr (z ▸ ha)
    rw [upd_ne hb]; exact r.reg a ha
  · by_cases hj : i = j
    · subst hj
      rw [List.getElem?_set_self hi] at z
      cases z
      exact ⟨_, eσ, rp⟩
    · rw [List.getElem?_set_ne hj] at z
      obtain ⟨v, h1, h2⟩ := r.sh j d' z
      exact ⟨v, h1, Rep.mono sm _ _ h2⟩
  · by_cases hj : i = j
    · subst hj
      rw [List.getElem?_set_self hi] at z
      cases z
    · rw [List.getElem?_set_ne hj] at z
      obtain ⟨q, ho', h1, h2, h3⟩ := r.ow j o' z
      exact ⟨q, ho', h1, h2, h3.mono sm⟩
  · obtain ⟨hj, hq⟩ := back j q z
    obtain ⟨h1, h2⟩ := r.owF j q hq
    have hb : q ≠ p := fun w => hj (r.uq j i q hq (by rw [w]; exact ⟨⟨o, e⟩, eσ⟩))
    exact ⟨by rw [upd_ne hb]; exact h1, h2⟩
  · refine ⟨sm, fun _ _ z _ => z, fun _ z => z, fun a x z => ?_, fun _ z => .inl z, fun j o' z => ?_⟩
    · by_cases hb : a = p
      · subst hb; exact .inr (.inr ⟨i, ⟨o, e⟩, eσ⟩)
      · rw [upd_ne hb] at z; exact .inl z
    · by_cases hj : i = j
      · subst hj; rw [List.getElem?_set_self hi] at z; cases z
      · rw [List.getElem?_set_ne hj] at z; exact z
/-- a slot is set to known data -/
theorem Rel.put (r : Rel K m F H σ ρ s) {i : Nat} {d : D} {v : V} (h : Rep K F d v) : Rel K m F H (σ.set i (some v)) (ρ.set i (.sh d)) s := by
  have back : ∀ j q, Owns (σ.set i (some v)) (ρ.set i (.sh d)) j q → Owns σ ρ j q := fun j q ⟨⟨o', h1⟩, h2⟩ => by
    by_cases hj : i = j
    · subst hj
      by_cases hi : i < ρ.length
      · rw [List.getElem?_set_self hi] at h1; cases h1
      · rw [List.getElem?_eq_none (by simpa using hi)] at h1; cases h1
    · rw [List.getElem?_set_ne hj] at h1 h2; exact ⟨⟨o', h1⟩, h2⟩
  refine ⟨r.sub, r.mem, r.reg, by rw [List.length_set, List.length_set]; exact r.len, fun j d' z => ?_, fun j o' z => ?_, fun j q z => r.owF j q (back j q z), fun j k q h1 h2 => r.uq j k q (back j q h1) (back k q h2)⟩
  · by_cases hj : i = j
    · subst hj
      have hi : i < ρ.length := by
        have := (List.getElem?_eq_some_iff.mp z).1
        rw [List.length_set] at this; exact this
      rw [List.getElem?_set_self hi] at z
      cases z
      exact ⟨v, List.getElem?_set_self (by rw [r.len]; exact hi), h⟩
    · rw [List.getElem?_set_ne hj] at z
      obtain ⟨w, h1, h2⟩ := r.sh j d' z
      exact ⟨w, by rw [List.getElem?_set_ne hj]; exact h1, h2⟩
  · by_cases hj : i = j
    · subst hj
      have hi : i < ρ.length := by
        have := (List.getElem?_eq_some_iff.mp z).1
        rw [List.length_set] at this; exact this
      rw [List.getElem?_set_self hi] at z
      cases z
    · rw [List.getElem?_set_ne hj] at z
      obtain ⟨q, ho', h1, h2, h3⟩ := r.ow j o' z
      exact ⟨q, ho', by rw [List.getElem?_set_ne hj]; exact h1, h2, h3⟩
/-- a slot is set to a new object of its own -/
theorem Rel.putO (r : Rel K m F H σ ρ s) {i : Nat} {o : Ob} {p : Addr} {ho : HO} (n : H p = none) (ob : ObAt K F o p ho) : Rel K m F (upd H p ho) (σ.set i (some (.ref p))) (ρ.set i (.ow o)) s := by
  have nF : F p = none := r.sub.free n
  have nr : ¬ m.R s p := fun z => m.there s H p r.mem z n
  have other : ∀ j q, i ≠ j → Owns (σ.set i (some (.ref p))) (ρ.set i (.ow o)) j q → Owns σ ρ j q := fun j q hj ⟨⟨o', h1⟩, h2⟩ => by
    rw [List.getElem?_set_ne hj] at h1 h2; exact ⟨⟨o', h1⟩, h2⟩
  have old : ∀ j q, Owns σ ρ j q → q ≠ p := fun j q ⟨⟨o', h1⟩, h2⟩ z => by
    obtain ⟨q', ho', e1, e2, _⟩ := r.ow j o' h1
    rw [h2] at e1; cases e1
    rw [z, n] at e2; cases e2
  have self : ∀ q, Owns (σ.set i (some (.ref p))) (ρ.set i (.ow o)) i q → q = p := fun q ⟨⟨o', h1⟩, h2⟩ => by
    have hi : i < σ.length := by
      have := (List.getElem?_eq_some_iff.mp h2).1
      rw [List.length_set] at this; exact this
    rw [List.getElem?_set_self hi] at h2
    cases h2; rfl
  refine ⟨fun b x e => ?_, m.loc s H _ r.mem fun a ha => upd_ne fun z => nr (z ▸ ha), r.reg, by rw [List.length_set, List.length_set]; exact r.len, fun j d' z => ?_, fun j o' z => ?_, fun j q z => ?_, fun j k q h1 h2 => ?_⟩
  · have hb : b ≠ p := fun z => by subst z; rw [nF] at e; cases e
    rw [upd_ne hb]; exact r.sub _ _ e
  · by_cases hj : i = j
    · subst hj
      have hi : i < ρ.length := by
        have := (List.getElem?_eq_some_iff.mp z).1
        rw [List.length_set] at this; exact this
      rw [List.getElem?_set_self hi] at z
      cases z
    · rw [List.getElem?_set_ne hj] at z
      obtain ⟨w, h1, h2⟩ := r.sh j d' z
      exact ⟨w, by rw [List.getElem?_set_ne hj]; exact h1, h2⟩
  · by_cases hj : i = j
    · subst hj
      have hi : i < ρ.length := by
        have := (List.getElem?_eq_some_iff.mp z).1
        rw [List.length_set] at this; exact this
      rw [List.getElem?_set_self hi] at z
      cases z
      exact ⟨p, ho, List.getElem?_set_self (by rw [r.len]; exact hi), upd_same, ob⟩
    · rw [List.getElem?_set_ne hj] at z
      obtain ⟨q, ho', h1, h2, h3⟩ := r.ow j o' z
      have hq : q ≠ p := old j q ⟨⟨o', z⟩, h1⟩
      exact ⟨q, ho', by rw [List.getElem?_set_ne hj]; exact h1, by rw [upd_ne hq]; exact h2, h3⟩
  · by_cases hj : i = j
    · subst hj
      rw [self q z]; exact ⟨nF, nr⟩
    · exact r.owF j q (other j q hj z)
  · by_cases hj : i = j
    · subst hj
      by_cases hk : i = k
      · exact hk
      · exact absurd (self q h1) (old k q (other k q hk h2))
    · by_cases hk : i = k
      · subst hk
        exact absurd (self q h2) (old j q (other j q hj h1))
      · exact r.uq j k q (other j q hj h1) (other k q hk h2)
/-- an owned object is written -/
theorem Rel.write (r : Rel K m F H σ ρ s) {i : Nat} {o o' : Ob} {p : Addr} {ho : HO} (e : ρ[i]? = some (Sl.ow o)) (eσ : σ[i]? = some (some (V.ref p))) (ob : ObAt K F o' p ho) : Rel K m F (upd H p ho) σ (ρ.set i (.ow o')) s := by
  obtain ⟨nF, nr⟩ := r.owF i p ⟨⟨o, e⟩, eσ⟩
  have hi : i < ρ.length := (List.getElem?_eq_some_iff.mp e).1
  have back : ∀ j q, Owns σ (ρ.set i (.ow o')) j q → Owns σ ρ j q := fun j q ⟨⟨u, h1⟩, h2⟩ => by
    by_cases hj : i = j
    · subst hj; exact ⟨⟨o, e⟩, h2⟩
    · rw [List.getElem?_set_ne hj] at h1; exact ⟨⟨u, h1⟩, h2⟩
  refine ⟨fun b x z => ?_, m.loc s H _ r.mem fun a ha => upd_ne fun z => nr (z ▸ ha), r.reg, by rw [List.length_set]; exact r.len, fun j d' z => ?_, fun j u z => ?_, fun j q z => r.owF j q (back j q z), fun j k q h1 h2 => r.uq j k q (back j q h1) (back k q h2)⟩
  · have hb : b ≠ p := fun w => by subst w; rw [nF] at z; cases z
    rw [upd_ne hb]; exact r.sub _ _ z
  · by_cases hj : i = j
    · subst hj; rw [List.getElem?_set_self hi] at z; cases z
    · rw [List.getElem?_set_ne hj] at z; exact r.sh j d' z
  · by_cases hj : i = j
    · subst hj
      rw [List.getElem?_set_self hi] at z
      cases z
      exact ⟨p, ho, eσ, upd_same, ob⟩
    · rw [List.getElem?_set_ne hj] at z
      obtain ⟨q, ho', h1, h2, h3⟩ := r.ow j u z
      have hq : q ≠ p := fun w => hj (r.uq i j p ⟨⟨o, e⟩, eσ⟩ ⟨⟨u, z⟩, by rw [← w]; exact h1⟩)
      exact ⟨q, ho', h1, by rw [upd_ne hq]; exact h2, h3⟩
end
end DL

set_option Elab.async false
set_option linter.all false
set_option maxRecDepth 100000
/-! DG: calls that also know that no repr is under way (FnG, RoomG), from the law's call down. -/
namespace DL
open PySem PySem.Spec PyProof.Rows L2
/-- room for so many calls, and no repr around -/
structure RoomG (k : Nat) (A : Around) : Prop where
  r : Room k A
  g : A.guards = some []
theorem RoomG.mono {j k : Nat} {A : Around} (h : RoomG k A) (l : j ≤ k) : RoomG j A := ⟨h.r.mono l, h.g⟩
theorem RoomG.deeper {k : Nat} {A : Around} (h : RoomG (k + 1) A) (env : Env) : RoomG k (A.deeper env) := ⟨h.r.deeper env, h.g⟩
theorem RoomG.in1 {k : Nat} {A : Around} (h : RoomG (k + 1) A) : RoomG k A.in1 := ⟨h.r.in1, h.g⟩
theorem RoomG.make {k : Nat} {A : Around} (h : RoomG (k + 1) A) (C : Addr) (us : List Value) (kw : List (Str × Value)) : RoomG k (A.under (.builtin "type.__call__" ⟨.ref C :: us, kw⟩)) :=
  ⟨h.r.make C us kw, by
    have e : (A.under (.builtin "type.__call__" ⟨.ref C :: us, kw⟩)).guards = A.guards := by
      first | rfl | (simp [Around.under, Code.guards, Code.isGuard, pushGuards, guardIds])
    rw [e]; exact h.g⟩
/-- a def keeps its promise wherever it is called with no repr around -/
structure FnG (P : Program) (w : World) (K : PySem.W.Frag) (mg : Str → Option Value) (base : Heap) (CX : CXT) (k : Nat) (f : Addr) (fd : FuncData) (ps : List Str) (sp : Sp) : Prop where
  len : ∀ vs H Q E, sp vs H Q E → vs.length = ps.length
  run : ∀ (A : Around) (outer : List Env) (s : Shared) (H : Hp) (args : Args) (us : List Value) (vs : List V) (Q : VK) (E : XK),
    RoomG k A → Env0 P w K mg base A outer s H → BindsTo s fd args (ps.zip us) → Vals vs us → sp vs H Q E → codeAny (model P w) A (.call (.ref f) args) (CR CX outer P w H s Q E) s
section
variable {P : Program} {w : World} {K : PySem.W.Frag} {mg : Str → Option Value} {base : Heap} {CX : CXT} {k : Nat} {f : Addr} {fd : FuncData} {ps : List Str} {sp : Sp}
theorem fnG_of (F : FnOk P w K mg base CX k f fd ps sp) : FnG P w K mg base CX k f fd ps sp := ⟨F.len, fun A o s H a us vs Q E hr => F.run A o s H a us vs Q E hr.r⟩
theorem FnG.mono {j : Nat} (F : FnG P w K mg base CX j f fd ps sp) (h : j ≤ k) : FnG P w K mg base CX k f fd ps sp := ⟨F.len, fun A o s H a us vs Q E hr => F.run A o s H a us vs Q E (hr.mono h)⟩
theorem FnG.imp {sp' : Sp} (F : FnG P w K mg base CX k f fd ps sp) (h : ∀ vs H Q E, sp' vs H Q E → sp vs H Q E) : FnG P w K mg base CX k f fd ps sp' :=
  ⟨fun vs H Q E q => F.len _ _ _ _ (h vs H Q E q), fun A o s H a us vs Q E hr e b r q => F.run A o s H a us vs Q E hr e b r (h vs H Q E q)⟩
end
section
variable {X : Cx} {CX : CXT} {k : Nat} {f : Addr} {fd : FuncData} {ps : List Str} {sp : Sp} {dvs : List V} {ds : List Value} {E : XK} {x : Str} {p pos : Pos} {e : Expr} {es : List Expr} {t : TA}
theorem go_fn {pins : List (Addr × Obj)} {σ : L2.St} {H : Hp} {s : Shared} {Q : VK} {us : List Value} {vs : List V} (G : FnG X.prog X.w X.K X.mg X.base CX k f fd ps sp) (hr : RoomG k X.A) (hb : Binds X.K fd ps ds) (hd : Vals dvs ds) (hx : Passes CX X E)
    (I : Inv X pins σ H s) (rv : Vals vs us) (q : sp (vs ++ dvs) H Q E) : wpAny (model X.prog X.w) X.A (call (.ref f) us) (EP X pins σ Q) X.xe s := by
  have rr : Vals (vs ++ dvs) (us ++ ds) := rv.append hd
  have many : (us ++ ds).length = ps.length := rr.length.symm.trans (G.len _ _ _ _ q)
  refine wpAny_call (codeAny_mono (G.run X.A X.stack s H ⟨us, []⟩ (us ++ ds) (vs ++ dvs) Q E hr I.env0 (hb s us I.kIn many) rr q) fun r s' z => ?_)
  rcases r with er | (_ | _ | _ | u)
  · exact hx pins σ H s er s' I z
  · exact z.elim
  · exact z.elim
  · exact z.elim
  · exact I.after z
theorem pg_call (G : FnG X.prog X.w X.K X.mg X.base CX k f fd ps sp) (hr : RoomG k X.A) (hg : Gl X x) (hm : X.mg x = some (.ref f)) (hk : PySem.W.keepIn X.K (.ref f) = true) (hb : Binds X.K fd ps ds) (hd : Vals dvs ds) (hx : Passes CX X E) (ha : PA X (e :: es) t)
    (hdb : (x == ("__debug__" : Str)) = false := by decide) (he : starEach (e :: es) X.env = (false, eval e X.env) :: starEach es X.env := by rfl) (hpl : (backTo pos (starEach es X.env)).any (·.1) = false := by rfl) : PE X (.Call (.Name x p) (e :: es) [] pos) (tCall sp dvs E t) :=
  ⟨fun pins s σ H Q I h => wpAny_Call_Name_kw (ld_glob I hg hm (PySem.W.callWith_K (h₀ := X.base) I.ok.mod.kin hk (thn (ha.run pos pins s σ H _ I h) fun us s1 ⟨vs, H1, I1, rv, q⟩ => ⟨I1.kIn, go_fn G hr hb hd hx I1 rv q⟩) he hpl) hdb)⟩
end
section
variable {P : Program} {w : World} {K : PySem.W.Frag} {mg : Str → Option Value} {base : Heap}
/-- a def by its body -/
theorem Fun.okG {CX : CXT} {x qual : Str} {st : Stmt} {f : Addr} {fd : FuncData} {N ps : List Str} {k : Nat} {sp : Sp} (F : Fun K x qual st f fd) (S : FnScope N ps (defScope st)) (len : ∀ vs H Q E, sp vs H Q E → vs.length = ps.length)
    (body : ∀ (cdv : Value) (A : Around) (outer : List Env) (s : Shared) (H : Hp) (vs : List V) (Q : VK) (E : XK), RoomG k (A.deeper (envOfC qual (defScope st) s.heap.objs.size f cdv)) → sp vs H Q E →
      ∃ t, PSs (cxOf CX P w K mg base N qual (defScope st) f cdv A outer s H E) (defBody st) t ∧ t { nx := fun _ H' => Q .non H', rt := Q } (start N vs) H) : FnG P w K mg base CX (k + 1) f fd ps sp := by
  obtain ⟨oc, od, kV, doc, pm, an, cdv, ct, osl, rfl, lk, code⟩ := F.ex
  refine ⟨len, fun A outer s H args us vs Q E hr e0 hb rv hsp => ?_⟩
  have Kin : K.In s.heap := e0.mod.kin.keeps fun b o z => (e0.bs b o z).1
  have nl : s.heap.NoLimit := e0.mod.nolimit.keeps fun b o z => (e0.bs b o z).1
  have places : ∀ y ∈ ps.zip us, (defScope st).names.lookup y.1 = some .local ∨ ((defScope st).names.lookup y.1 = some .cell ∧ ((cellsFrom (s.heap.objs.size + 1) (defScope st).names []).lookup y.1).isSome = true) := fun y hy =>
    (S.par y.1 (List.of_mem_zip (show (y.1, y.2) ∈ ps.zip us from hy)).1).elim .inl fun q => .inr ⟨q, PySem.W.cellsFrom_some _ _ _ (.inl q)⟩
  refine codeAny_call_function hr.r.depth (Kin _ _ lk) rfl S.co S.gen rfl (PySem.W.codeRec_of Kin code) (hb _ _ _ _ (wpAny_newFunctionEnv_cells S.kind places fun env he s1 new => ?_))
  subst he
  obtain ⟨t, ht, hq⟩ := body cdv A outer s H vs Q E (hr.deeper _) hsp
  have J : Inv (cxOf CX P w K mg base N qual (defScope st) f cdv A outer s H E) [] (start N vs) H s1 := inv_start S hr.r.hd e0 (len _ _ _ _ hsp) rv new
  refine ⟨nl.keeps new.toInCall.keep, codeAny_func (wpAny_mono (ht.run [] s1 (start N vs) H _ J hq) (fun fl s' z => ?_) fun _ _ z => z)⟩
  rcases fl with _ | _ | _ | u
  · obtain ⟨σ', H', J', q⟩ := z
    exact ⟨V.non, H', J'.os, J'.bare, J'.base, J'.hok, rfl, q⟩
  · obtain ⟨_, _, _, q⟩ := z
    exact q.elim
  · obtain ⟨_, _, _, q⟩ := z
    exact q.elim
  · obtain ⟨v, σ', H', J', r', q⟩ := z
    exact ⟨v, H', J'.os, J'.bare, J'.base, J'.hok, r', q⟩
end
/-! ### the law's call -/
section
/-- the script as it is handed over: known, unless it is one of the module's own objects -/
def scrO (vs : List Value) : Obj := { cls := .type "list", data := .seq vs.toArray }
def scrH (K : PySem.W.Frag) (a : Addr) (vs : List Value) (ns : List Int) : Hp := fun b => if b = a ∧ K.lookup a = none then some (.frz (scrO vs) (.lst (ns.map V.int))) else none
theorem scrH_some {K : PySem.W.Frag} {a b : Addr} {vs : List Value} {ns : List Int} {u : HO} (h : scrH K a vs ns b = some u) : b = a ∧ K.lookup a = none ∧ u = .frz (scrO vs) (.lst (ns.map V.int)) := by
  unfold scrH at h
  split at h
  · rename_i c
    exact ⟨c.1, c.2, (Option.some.inj h).symm⟩
  · cases h
theorem scrH_ne {K : PySem.W.Frag} {a b : Addr} {vs : List Value} {ns : List Int} (h : b ≠ a) : scrH K a vs ns b = none := if_neg fun z => h z.1
theorem scrH_only {K : PySem.W.Frag} {a : Addr} {vs : List Value} {ns : List Int} : Only (scrH K a vs ns) := fun b => by
  cases e : scrH K a vs ns b with
  | none => exact .inl rfl
  | some u => exact .inr ⟨_, _, congrArg some (scrH_some e).2.2⟩
variable {P : Program} {w : World} {K : PySem.W.Frag} {mg mb : Str → Option Value} {k : Nat} {fa a : Addr} {fd : FuncData} {x : Str} {sp : Sp} {s : Shared} {vs : List Value} {ns : List Int}
theorem scr_ok (ha : s.heap.get? a = some (scrO vs)) (hi : IntsAre vs ns) (hl : ns.length ≤ sizeLine) : HOk P w (scrH K a vs ns) s.heap := fun b u e => by
  obtain ⟨rfl, _, rfl⟩ := scrH_some e
  exact ⟨ha, by rw [List.length_map]; exact hl, vs, _, vals_ints hi, ha⟩
theorem scr_seq (KX : K.In s.heap) (ha : s.heap.get? a = some (scrO vs)) (hi : IntsAre vs ns) (hl : ns.length ≤ sizeLine) : SqL K (scrH K a vs ns) a (ns.map V.int) := by
  cases hk : K.lookup a with
  | none => exact .inl (.inr ⟨scrO vs, if_pos ⟨rfl, hk⟩⟩)
  | some o =>
    have q : o = scrO vs := Option.some.inj ((KX a o hk).symm.trans ha)
    subst q
    exact .inr ⟨_, vs.toArray, _, hk, rfl, rfl, rfl, by rw [List.size_toArray, hi.length]; exact hl, by simpa using vals_ints hi⟩
theorem scr_end {H' : Hp} {s' : Shared} (ha : s.heap.get? a = some (scrO vs)) (un : Un (frs []) [] (scrH K a vs ns) H' s.heap s'.heap) (ok' : HOk P w H' s'.heap) : OldK s.heap s'.heap := OldK.of_keep fun b o e => by
  by_cases hb : b = a
  · subst hb
    cases q : scrH K b vs ns b with
    | none => exact un.keep b o e q (fun z => nomatch z) (fun z => nomatch z)
    | some u =>
      obtain ⟨_, _, rfl⟩ := scrH_some q
      have z := (ok' b _ (un.frzs b _ _ q)).1
      have e' : o = scrO vs := Option.some.inj (e.symm.trans ha)
      rw [e']
      exact z
  · exact un.keep b o e (scrH_ne hb) (fun z => nomatch z) (fun z => nomatch z)
/-- the law's def is called by the row, with no repr around -/
theorem law_goG (KX : K.In s.heap) (hns : s.heap.Ns mainGlobals mg) (hbn : s.heap.Ns builtinsNs mb) (hbb : ∀ x : Str, x ≠ "__name__" → mb x = bootBuiltins x) (nl : s.heap.NoLimit) (hg : s.gens = #[]) (ha : s.heap.get? a = some (scrO vs)) (hi : IntsAre vs ns) (hl : ns.length ≤ sizeLine) (hr : Room k callerA) (hsm : ∃ mm, s.heap.Ns sysModules mm)
    (G : ∀ base : Heap, K.In base → base.Ns mainGlobals mg → (∃ o, base.get? sysModules = some o) → FnG P w K mg base CX0 k fa fd [x] sp) (bind : ∀ (s : Shared) (u : Value), BindsTo s fd ⟨[u], []⟩ [(x, u)]) (hsp : ∀ H : Hp, Only H → SqL K H a (ns.map V.int) → sp [.ref a] H (fun v _ => v = .bl true) E0) :
    codeAny (model P w) callerA (.call (.ref fa) ⟨[.ref a], []⟩) (fun r s' => r = .ok (.ret (.bool true)) ∧ OldK s.heap s'.heap ∧ s'.os = s.os ∧ AllBare s'.gens) s := by
  have low : ∀ {b : Addr} {o : Obj}, s.heap.get? b = some o → scrH K a vs ns b = none → (hidT s.heap (scrH K a vs ns)).get? b = some o := fun e n => hidT_get e n
  have dictNe : ∀ {b : Addr} {o : Obj} {es : Array DictEntry} {ep : Nat}, s.heap.get? b = some o → o.data = .dict es ep → b ≠ a := fun {b o es ep} e q z => by
    rw [z, ha] at e
    have r := (congrArg Obj.data (Option.some.inj e)).trans q
    cases (show Data.seq vs.toArray _ = Data.dict es ep from r)
  have keepNs : ∀ {b : Addr} {m : Str → Option Value}, s.heap.Ns b m → (hidT s.heap (scrH K a vs ns)).Ns b m := fun {b m} ⟨o, es, ep, e, q, r⟩ => ⟨o, es, ep, low e (scrH_ne (dictNe e q)), q, r⟩
  have KB : K.In (hidT s.heap (scrH K a vs ns)) := fun b o e => low (KX b o e) (by
    cases q : scrH K a vs ns b with
    | none => rfl
    | some u =>
      obtain ⟨rfl, n, _⟩ := scrH_some q
      rw [n] at e
      cases e)
  have md : Mod K mg (hidT s.heap (scrH K a vs ns)) := by
    obtain ⟨mc, l1, l2⟩ := nl
    exact ⟨KB, keepNs hns, ⟨mb, keepNs hbn, hbb⟩, ⟨mc, keepNs l1, l2⟩⟩
  have sysL : ∃ o, (hidT s.heap (scrH K a vs ns)).get? sysModules = some o := by
    obtain ⟨mm, q⟩ := hsm
    obtain ⟨o, _, _, z, _⟩ := keepNs q
    exact ⟨o, z⟩
  have start : Env0 P w K mg (hidT s.heap (scrH K a vs ns)) callerA [] s (scrH K a vs ns) :=
    { frames := rfl, mod := md, bs := fun b o e => of_hidT e, bsz := Nat.le_of_eq (hidT_size _ _), funs := trivial, frf := (fun b z => nomatch z), hok := scr_ok ha hi hl, bare := .of_eq hg }
  refine codeAny_mono ((G _ KB (keepNs hns) sysL).run callerA [] s _ ⟨[.ref a], []⟩ [.ref a] [.ref a] _ _ ⟨hr, rfl⟩ start (bind s (.ref a)) (.cons rfl .nil) (hsp _ scrH_only (scr_seq KX ha hi hl))) fun r s' z => ?_
  rcases r with er | (_ | _ | _ | u)
  · exact z.elim
  · exact z.elim
  · exact z.elim
  · exact z.elim
  · obtain ⟨v, H', os, bare, un, ok', rv, q⟩ := z
    have q' : v = .bl true := q
    subst q'
    have e : u = Value.bool true := rv
    subst e
    exact ⟨rfl, scr_end ha un ok', os, bare⟩
end
end DL

set_option Elab.async false
set_option linter.all false
set_option maxRecDepth 100000
namespace DL
open PySem PySem.Spec PyProof.Rows L2

/-! ### readings over data -/
abbrev DK (m : Mem) := D → List Sl → m.S → Prop
abbrev DT (m : Mem) := List Sl → m.S → DK m → Prop
abbrev DTT (m : Mem) := List Sl → m.S → (Bool → List Sl → m.S → Prop) → Prop
abbrev DTA (m : Mem) := List Sl → m.S → (List D → List Sl → m.S → Prop) → Prop
def up (K : PySem.W.Frag) (m : Mem) (t : DT m) : TE := fun σ H Q => ∃ F ρ s Qd, Rel K m F H σ ρ s ∧ t ρ s Qd ∧ ∀ d ρ' s' v F' H', Qd d ρ' s' → Rel K m F' H' σ ρ' s' → Stp m F H σ ρ s F' H' ρ' s' → Rep K F' d v → Q v H'
def upT (K : PySem.W.Frag) (m : Mem) (t : DTT m) : TT := fun σ H Q => ∃ F ρ s Qd, Rel K m F H σ ρ s ∧ t ρ s Qd ∧ ∀ b ρ' s' F' H', Qd b ρ' s' → Rel K m F' H' σ ρ' s' → Stp m F H σ ρ s F' H' ρ' s' → Q b H'
def upA (K : PySem.W.Frag) (m : Mem) (t : DTA m) : TA := fun σ H Q => ∃ F ρ s Qd, Rel K m F H σ ρ s ∧ t ρ s Qd ∧ ∀ ds ρ' s' vs F' H', Qd ds ρ' s' → Rel K m F' H' σ ρ' s' → Stp m F H σ ρ s F' H' ρ' s' → Reps K F' ds vs → Q vs H'

section
variable {X : Cx} {e a b c : Expr} {es : List Expr} {pos : Pos}
theorem PE.imp {t t' : TE} (h : PE X e t) (w : ∀ σ H Q, t' σ H Q → t σ H Q) : PE X e t' := ⟨fun pins s σ H Q I q => h.run pins s σ H Q I (w σ H Q q)⟩
theorem PT.imp {t t' : TT} (h : PT X e t) (w : ∀ σ H Q, t' σ H Q → t σ H Q) : PT X e t' := ⟨fun pins s σ H Q I q => h.run pins s σ H Q I (w σ H Q q)⟩
theorem PW.imp {t t' : TT} (h : PW X e t) (w : ∀ σ H Q, t' σ H Q → t σ H Q) : PW X e t' := ⟨fun wh pins s σ H Q I q => h.run wh pins s σ H Q I (w σ H Q q)⟩
theorem PA.imp {t t' : TA} (h : PA X es t) (w : ∀ σ H Q, t' σ H Q → t σ H Q) : PA X es t' := ⟨fun p pins s σ H Q I q => h.run p pins s σ H Q I (w σ H Q q)⟩
theorem PS.imp {st : Stmt} {t t' : TS} (h : PS X st t) (w : ∀ D σ H, t' D σ H → t D σ H) : PS X st t' := ⟨fun pins s σ H D I q => h.run pins s σ H D I (w D σ H q)⟩
theorem PSs.imp {st : List Stmt} {t t' : TS} (h : PSs X st t) (w : ∀ D σ H, t' D σ H → t D σ H) : PSs X st t' := ⟨fun pins s σ H D I q => h.run pins s σ H D I (w D σ H q)⟩
end

/-- a way by a bool -/
def ifB (b : Bool) (x y : Prop) : Prop := match b with
  | true => x
  | false => y
theorem ifB_t {x y : Prop} (h : ifB true x y) : x := h
theorem ifB_f {x y : Prop} (h : ifB false x y) : y := h
theorem ifB2 {b : Bool} {x y : Prop} (h1 : b = true → x) (h2 : b = false → y) : ifB b x y := by
  cases b with
  | true => exact h1 rfl
  | false => exact h2 rfl
theorem ifBd {c : Prop} [Decidable c] {x y : Prop} (h1 : c → x) (h2 : ¬ c → y) : ifB (decide c) x y := ifB2 (fun h => h1 (of_decide_eq_true h)) fun h => h2 (of_decide_eq_false h)
/-! ### names and constants -/
def dVar {m : Mem} (i : Nat) : DT m := fun ρ s Q => match ρ[i]? with
  | some (.sh d) => Q d ρ s
  | some (.ow o) => match o.d with
    | some d => Q d (ρ.set i (.sh d)) s
    | none => False
  | _ => False
def dC {m : Mem} (d : D) : DT m := fun ρ s Q => Q d ρ s
section
variable {X : Cx} {m : Mem} {e a b c : Expr} {es : List Expr} {pos : Pos}
theorem up_var {K : PySem.W.Frag} {i : Nat} {σ : L2.St} {H : Hp} {Q : VK} (h : up K m (dVar i) σ H Q) : tVar i σ H Q := by
  obtain ⟨F, ρ, s, Qd, r, ht, hQ⟩ := h
  unfold dVar at ht
  cases e : ρ[i]? with
  | none => rw [e] at ht; exact ht.elim
  | some sl =>
    rw [e] at ht
    cases sl with
    | no => exact ht.elim
    | sh d =>
      obtain ⟨v, h1, h2⟩ := r.sh i d e
      exact ⟨v, h1, hQ d ρ s v F H ht r Stp.refl h2⟩
    | ow o =>
      obtain ⟨p, ho, h1, h2, h3, h4, h5⟩ := r.own_at e
      cases hd : o.d with
      | none =>
        dsimp only at ht
        rw [hd] at ht
        exact ht.elim
      | some d =>
        dsimp only at ht
        rw [hd] at ht
        obtain ⟨r', st, rp⟩ := r.share hd e h1 h2 h3
        exact ⟨_, h1, hQ _ _ _ _ _ _ ht r' st rp⟩
theorem dv (i : Nat) {x : Str} (hN : X.N[i]? = some x := by rfl) (hv : Vis X.env.scope x := by first | exact Or.inl rfl | exact Or.inr (Or.inl rfl) | exact Or.inr (Or.inr rfl)) (hd : (x == ("__debug__" : Str)) = false := by decide)
    (hcd : (x == ("__classdict__" : Str)) = false := by decide) : PE X (.Name x pos) (up X.K m (dVar i)) := PE.imp (pv i hN hv hd hcd) fun _ _ _ h => up_var h
theorem up_const {K : PySem.W.Frag} {d : D} {v : V} {σ : L2.St} {H : Hp} {Q : VK} (hr : ∀ F, Rep K F d v) (h : up K m (dC d) σ H Q) : tC v σ H Q := by
  obtain ⟨F, ρ, s, Qd, r, ht, hQ⟩ := h
  exact hQ d ρ s v F H ht r Stp.refl (hr F)
theorem de_int {i : Int} {j pos} : PE X (.Constant (.int i) j pos) (up X.K m (dC (.int i))) := PE.imp pe_int fun _ _ _ h => up_const (d := .int i) (fun _ => rfl) h
theorem de_bl {b : Bool} {j pos} : PE X (.Constant (.bool b) j pos) (up X.K m (dC (.bl b))) := PE.imp pe_bl fun _ _ _ h => up_const (d := .bl b) (fun _ => rfl) h
theorem de_non {j pos} : PE X (.Constant .none j pos) (up X.K m (dC .non)) := PE.imp pe_non fun _ _ _ h => up_const (d := .non) (fun _ => rfl) h
theorem de_str {x : Str} {j pos} (hl : sOk x = true := by decide +kernel) : PE X (.Constant (.str x) j pos) (up X.K m (dC (.str x))) := PE.imp pe_str fun _ _ _ h => up_const (d := .str x) (fun _ => ⟨rfl, hl⟩) h
/-- a module's constant -/
theorem de_glob {x : Str} {d : D} {v : V} {u : Value} (hg : Gl X x) (hm : X.mg x = some u) (r : RelV v u) (hr : ∀ F, Rep X.K F d v) (hd : (x == ("__debug__" : Str)) = false := by decide) : PE X (.Name x pos) (up X.K m (dC d)) :=
  PE.imp (pe_glob hg hm r hd) fun _ _ _ h => up_const hr h
/-- a builtin's name as a value -/
theorem de_bltn {x : Str} {v : V} {u : Value} (hg : Gl X x) (hm : X.mg x = none) (hv : bootBuiltins x = some u) (r : RelV v u) (hn : x ≠ "__name__" := by decide) (hd : (x == ("__debug__" : Str)) = false := by decide) : PE X (.Name x pos) (up X.K m (dC (.any v))) :=
  PE.imp (pe_bltn hg hm hv r hn hd) fun _ _ _ h => up_const (d := .any v) (fun _ => rfl) h

/-! ### operations by data -/
def Op2 (K : PySem.W.Frag) (r : R2) (f : D → D → (D → Prop) → Prop) : Prop := ∀ F H dx dy x y Qd Q, Same F H → Rep K F dx x → Rep K F dy y → f dx dy Qd → (∀ d v F' H', Qd d → Grow F H F' H' → Rep K F' d v → Q v H') → r x y H Q
def Op1 (K : PySem.W.Frag) (r : V → Hp → VK → Prop) (f : D → (D → Prop) → Prop) : Prop := ∀ F H dx x Qd Q, Same F H → Rep K F dx x → f dx Qd → (∀ d v F' H', Qd d → Grow F H F' H' → Rep K F' d v → Q v H') → r x H Q
def OpN (K : PySem.W.Frag) (r : List V → Hp → VK → Prop) (f : List D → (D → Prop) → Prop) : Prop := ∀ F H ds vs Qd Q, Same F H → Reps K F ds vs → f ds Qd → (∀ d v F' H', Qd d → Grow F H F' H' → Rep K F' d v → Q v H') → r vs H Q
def OpM (K : PySem.W.Frag) (r : V → List V → Hp → VK → Prop) (f : D → List D → (D → Prop) → Prop) : Prop := ∀ F H dx x ds vs Qd Q, Same F H → Rep K F dx x → Reps K F ds vs → f dx ds Qd → (∀ d v F' H', Qd d → Grow F H F' H' → Rep K F' d v → Q v H') → r x vs H Q
/-- a comparison: its answer is a bool -/
def Cm2 (K : PySem.W.Frag) (r : R2) (f : D → D → (Bool → Prop) → Prop) : Prop := ∀ F H dx dy x y Qd Q, Same F H → Rep K F dx x → Rep K F dy y → f dx dy Qd → (∀ b F' H', Qd b → Grow F H F' H' → Q (.bl b) H') → r x y H Q
def dOp {m : Mem} (f : D → D → (D → Prop) → Prop) (ta tb : DT m) : DT m := fun ρ s Q => ta ρ s fun x ρ1 s1 => tb ρ1 s1 fun y ρ2 s2 => f x y fun d => Q d ρ2 s2
def dUn {m : Mem} (f : D → (D → Prop) → Prop) (ta : DT m) : DT m := fun ρ s Q => ta ρ s fun x ρ1 s1 => f x fun d => Q d ρ1 s1
def dCm {m : Mem} (f : D → D → (Bool → Prop) → Prop) (ta tb : DT m) : DT m := fun ρ s Q => ta ρ s fun x ρ1 s1 => tb ρ1 s1 fun y ρ2 s2 => f x y fun k => Q (.bl k) ρ2 s2
def dCmT {m : Mem} (f : D → D → (Bool → Prop) → Prop) (ta tb : DT m) : DTT m := fun ρ s Q => ta ρ s fun x ρ1 s1 => tb ρ1 s1 fun y ρ2 s2 => f x y fun k => Q k ρ2 s2
/-- two expressions in a row -/
theorem up2 {K : PySem.W.Frag} {ta tb : DT m} {F H : Hp} {σ : L2.St} {ρ : List Sl} {s : m.S} {R : V → V → Hp → Prop} {Qd : D → D → List Sl → m.S → Prop} (r : Rel K m F H σ ρ s) (h : ta ρ s fun x ρ1 s1 => tb ρ1 s1 fun y ρ2 s2 => Qd x y ρ2 s2)
    (hR : ∀ dx dy x y F2 H2 ρ2 s2, Qd dx dy ρ2 s2 → Rel K m F2 H2 σ ρ2 s2 → Stp m F H σ ρ s F2 H2 ρ2 s2 → Rep K F2 dx x → Rep K F2 dy y → R x y H2) : up K m ta σ H fun x H1 => up K m tb σ H1 fun y H2 => R x y H2 :=
  ⟨F, ρ, s, _, r, h, fun dx ρ1 s1 x F1 H1 q1 r1 st1 rx => ⟨F1, ρ1, s1, _, r1, q1, fun dy ρ2 s2 y F2 H2 q2 r2 st2 ry => hR dx dy x y F2 H2 ρ2 s2 q2 r2 (st1.trans st2) (Rep.mono st2.ext _ _ rx) ry⟩⟩
theorem up_op {K : PySem.W.Frag} {r : R2} {f : D → D → (D → Prop) → Prop} {ta tb : DT m} {σ : L2.St} {H : Hp} {Q : VK} (ho : Op2 K r f) (h : up K m (dOp f ta tb) σ H Q) : tOp r (up K m ta) (up K m tb) σ H Q := by
  obtain ⟨F, ρ, s, Qd, rl, ht, hQ⟩ := h
  refine up2 (R := fun x y H2 => r x y H2 Q) rl ht fun dx dy x y F2 H2 ρ2 s2 q r2 st rx ry => ?_
  exact ho F2 H2 dx dy x y _ Q r2.sub rx ry q fun d v F' H' qd g rv => hQ d ρ2 s2 v F' H' qd (r2.grow g) (st.trans g.stp) rv
theorem up_cm {K : PySem.W.Frag} {r : R2} {f : D → D → (Bool → Prop) → Prop} {ta tb : DT m} {σ : L2.St} {H : Hp} {Q : VK} (ho : Cm2 K r f) (h : up K m (dCm f ta tb) σ H Q) : tOp r (up K m ta) (up K m tb) σ H Q := by
  obtain ⟨F, ρ, s, Qd, rl, ht, hQ⟩ := h
  refine up2 (R := fun x y H2 => r x y H2 Q) rl ht fun dx dy x y F2 H2 ρ2 s2 q r2 st rx ry => ?_
  exact ho F2 H2 dx dy x y _ Q r2.sub rx ry q fun b F' H' qd g => hQ (.bl b) ρ2 s2 _ F' H' qd (r2.grow g) (st.trans g.stp) rfl
variable {ta tb tc : DT m}
theorem de_op {op : Operator} {r : R2} {f : D → D → (D → Prop) → Prop} (ho : OpR X (binaryOp op) r) (hf : Op2 X.K r f) (ha : PE X a (up X.K m ta)) (hb : PE X b (up X.K m tb)) : PE X (.BinOp a op b pos) (up X.K m (dOp f ta tb)) :=
  PE.imp (pe_op ho ha hb) fun _ _ _ h => up_op hf h
theorem de_un {op : UnaryOp} {r : V → Hp → VK → Prop} {f : D → (D → Prop) → Prop} (ho : UnR X (unaryOp op) r) (hf : Op1 X.K r f) (ha : PE X a (up X.K m ta)) : PE X (.UnaryOp op a pos) (up X.K m (dUn f ta)) :=
  PE.imp (pe_un ho ha) fun σ H Q h => by
    obtain ⟨F, ρ, s, Qd, rl, ht, hQ⟩ := h
    exact ⟨F, ρ, s, _, rl, ht, fun dx ρ1 s1 x F1 H1 q1 r1 st1 rx => hf F1 H1 dx x _ Q r1.sub rx q1 fun d v F' H' qd g rv => hQ d ρ1 s1 v F' H' qd (r1.grow g) (st1.trans g.stp) rv⟩
theorem de_cmp {op : CmpOp} {r : R2} {f : D → D → (Bool → Prop) → Prop} (ho : OpR X (compareOp op) r) (hf : Cm2 X.K r f) (ha : PE X a (up X.K m ta)) (hb : PE X b (up X.K m tb)) (hm : behindInMarks op b = false := by first | exact nomark _ | rfl) :
    PE X (.Compare a [op] [b] pos) (up X.K m (dCm f ta tb)) := PE.imp (pe_cmpR ho ha hb hm) fun _ _ _ h => up_cm hf h
theorem dt_cmp {op : CmpOp} {r : R2} {f : D → D → (Bool → Prop) → Prop} (ho : OpR X (compareOp op) r) (hf : Cm2 X.K r f) (ha : PE X a (up X.K m ta)) (hb : PE X b (up X.K m tb)) (hm : behindInMarks op b = false := by first | exact nomark _ | rfl) :
    PT X (.Compare a [op] [b] pos) (upT X.K m (dCmT f ta tb)) := PT.imp (pt_cmpR ho ha hb hm) fun σ H Q h => by
  obtain ⟨F, ρ, s, Qd, rl, ht, hQ⟩ := h
  refine up2 (R := fun x y H2 => r x y H2 _) rl ht fun dx dy x y F2 H2 ρ2 s2 q r2 st rx ry => ?_
  exact hf F2 H2 dx dy x y _ _ r2.sub rx ry q fun b F' H' qd g => ⟨b, rfl, hQ b ρ2 s2 F' H' qd (r2.grow g) (st.trans g.stp)⟩
/-- a op1 b op2 c -/
def dCh {m : Mem} (f g : D → D → (Bool → Prop) → Prop) (ta tb tc : DT m) : DT m := fun ρ s Q => ta ρ s fun x ρ1 s1 => tb ρ1 s1 fun y ρ2 s2 => f x y fun k => ifB k (tc ρ2 s2 fun z ρ3 s3 => g y z fun k' => Q (.bl k') ρ3 s3) (Q (.bl false) ρ2 s2)
theorem de_chain {op op' : CmpOp} {r r' : R2} {f g : D → D → (Bool → Prop) → Prop} (ho : OpR X (compareOp op) r) (ho' : OpR X (compareOp op') r') (hf : Cm2 X.K r f) (hg : Cm2 X.K r' g)
    (ha : PE X a (up X.K m ta)) (hb : PE X b (up X.K m tb)) (hc : PE X c (up X.K m tc)) (hm : lastMarks [op, op'] [b, c] = false := by with_unfolding_all rfl) : PE X (.Compare a [op, op'] [b, c] pos) (up X.K m (dCh f g ta tb tc)) :=
  PE.imp (pe_chain ho ho' ha hb hc hm) fun σ H Q h => by
    obtain ⟨F, ρ, s, Qd, rl, ht, hQ⟩ := h
    refine up2 (R := fun x y H2 => r x y H2 _) rl ht fun dx dy x y F2 H2 ρ2 s2 q r2 st rx ry => ?_
    refine hf F2 H2 dx dy x y _ _ r2.sub rx ry q fun b F' H' qd gr => ⟨b, rfl, ?_⟩
    cases b with
    | false => exact iteF (hQ (.bl false) ρ2 s2 _ F' H' (ifB_f qd) (r2.grow gr) (st.trans gr.stp) rfl)
    | true =>
      have qd := ifB_t qd
      refine iteT ⟨F', ρ2, s2, _, r2.grow gr, qd, fun dz ρ3 s3 z F3 H3 q3 r3 st3 rz => ?_⟩
      exact hg F3 H3 dy dz y z _ _ r3.sub (Rep.mono (gr.fF.trans st3.ext) _ _ ry) rz q3 fun b' F4 H4 q4 g4 => hQ (.bl b') ρ3 s3 _ F4 H4 q4 (r3.grow g4) ((st.trans gr.stp).trans (st3.trans g4.stp)) rfl
/-! ### tests -/
/-- a value's truth -/
def tru : D → Option Bool
  | .non => some false
  | .bl b => some b
  | .int i => some (i != 0)
  | .str x => some ((x.length : Int) != 0)
  | .lst xs => some (!xs.isEmpty)
  | .tup xs => some (!xs.isEmpty)
  | .dic ks _ => some (!ks.isEmpty)
  | _ => none
theorem reps_empty {K : PySem.W.Frag} {F : Hp} {ds : List D} {vs : List V} (h : Reps K F ds vs) : vs.isEmpty = ds.isEmpty := by
  have := h.length
  cases ds <;> cases vs <;> simp_all
theorem tru_rep {K : PySem.W.Frag} {F H : Hp} {d : D} {v : V} {k : Bool} (h : Rep K F d v) (sub : Same F H) (e : tru d = some k) : TruV K v H k := by
  cases d with
  | non => cases h; exact (Option.some.inj e).symm
  | bl b => cases h; exact (Option.some.inj e).symm
  | int i => cases h; exact (Option.some.inj e).symm
  | str x => obtain ⟨rfl, hl⟩ := h; exact ⟨Nat.le_trans (sOk_len hl) (Nat.le_trans (Nat.le_add_right _ 2) strLim_line), (Option.some.inj e).symm⟩
  | lst xs =>
    obtain ⟨a, vs, rfl, h1, _, r⟩ := h
    exact .inl ⟨vs, .inl (.inl (sub _ _ h1)), by rw [reps_empty r]; exact (Option.some.inj e).symm⟩
  | tup xs =>
    obtain ⟨a, vs, rfl, h1, _, r⟩ := h
    exact .inr (.inl ⟨vs, Same.seqT sub h1, by rw [reps_empty r]; exact (Option.some.inj e).symm⟩)
  | dic ks ds =>
    obtain ⟨a, kvs, rfl, h1, _, r, _⟩ := h
    refine .inr (.inr ⟨kvs, sub _ _ h1, ?_⟩)
    have e' := (Option.some.inj e).symm
    rw [e', ← r]
    cases kvs <;> rfl
  | ins _ _ _ => cases e
  | any _ => cases e
  | fz _ => cases e
  | exc _ _ _ => cases e
  | cau _ _ _ _ => cases e
  | exk _ _ _ => cases e
def dTr {m : Mem} (ta : DT m) : DTT m := fun ρ s Q => ta ρ s fun x ρ1 s1 => ∃ k, tru x = some k ∧ Q k ρ1 s1
theorem dt_truth (ha : PE X a (up X.K m ta)) (he : ∀ whole, isTrue a X.env whole = (do let v ← whole; standAt a.pos; holding [v] (truthy v)) := by intro _; rfl) : PT X a (upT X.K m (dTr ta)) :=
  PT.imp (pt_truth ha he) fun σ H Q h => by
    obtain ⟨F, ρ, s, Qd, rl, ht, hQ⟩ := h
    exact ⟨F, ρ, s, _, rl, ht, fun dx ρ1 s1 x F1 H1 ⟨k, e, q1⟩ r1 st1 rx => ⟨k, tru_rep rx r1.sub e, hQ k ρ1 s1 F1 H1 q1 r1 st1⟩⟩
variable {tA tB : DTT m} {rest : List Expr}
def dAndT {m : Mem} (t u : DTT m) : DTT m := fun ρ s Q => t ρ s fun k ρ1 s1 => ifB k (u ρ1 s1 Q) (Q false ρ1 s1)
def dOrT {m : Mem} (t u : DTT m) : DTT m := fun ρ s Q => t ρ s fun k ρ1 s1 => ifB k (Q true ρ1 s1) (u ρ1 s1 Q)
def dNotT {m : Mem} (t : DTT m) : DTT m := fun ρ s Q => t ρ s fun k ρ1 s1 => Q (!k) ρ1 s1
theorem dw_and1 (ha : PT X a (upT X.K m tA)) : PW X (.BoolOp .And [a] pos) (upT X.K m tA) := pw_and1 ha
theorem dw_or1 (ha : PT X a (upT X.K m tA)) : PW X (.BoolOp .Or [a] pos) (upT X.K m tA) := pw_or1 ha
theorem dw_and (ha : PT X a (upT X.K m tA)) (hb : PW X (.BoolOp .And (b :: rest) pos) (upT X.K m tB)) : PW X (.BoolOp .And (a :: b :: rest) pos) (upT X.K m (dAndT tA tB)) :=
  PW.imp (pw_and ha hb) fun σ H Q h => by
    obtain ⟨F, ρ, s, Qd, rl, ht, hQ⟩ := h
    refine ⟨F, ρ, s, _, rl, ht, fun k ρ1 s1 F1 H1 q1 r1 st1 => ?_⟩
    cases k with
    | true =>
      have q1 := ifB_t q1
      exact iteT ⟨F1, ρ1, s1, _, r1, q1, fun k ρ2 s2 F2 H2 q2 r2 st2 => hQ k ρ2 s2 F2 H2 q2 r2 (st1.trans st2)⟩
    | false => exact iteF (hQ false ρ1 s1 F1 H1 (ifB_f q1) r1 st1)
theorem dw_or (ha : PT X a (upT X.K m tA)) (hb : PW X (.BoolOp .Or (b :: rest) pos) (upT X.K m tB)) : PW X (.BoolOp .Or (a :: b :: rest) pos) (upT X.K m (dOrT tA tB)) :=
  PW.imp (pw_or ha hb) fun σ H Q h => by
    obtain ⟨F, ρ, s, Qd, rl, ht, hQ⟩ := h
    refine ⟨F, ρ, s, _, rl, ht, fun k ρ1 s1 F1 H1 q1 r1 st1 => ?_⟩
    cases k with
    | false =>
      exact iteF ⟨F1, ρ1, s1, _, r1, ifB_f q1, fun k ρ2 s2 F2 H2 q2 r2 st2 => hQ k ρ2 s2 F2 H2 q2 r2 (st1.trans st2)⟩
    | true => exact iteT (hQ true ρ1 s1 F1 H1 (ifB_t q1) r1 st1)
theorem dt_not (ha : PT X a (upT X.K m tA)) : PT X (.UnaryOp .Not a pos) (upT X.K m (dNotT tA)) :=
  PT.imp (pt_not ha) fun σ H Q h => by
    obtain ⟨F, ρ, s, Qd, rl, ht, hQ⟩ := h
    exact ⟨F, ρ, s, _, rl, ht, fun k ρ1 s1 F1 H1 q1 r1 st1 => hQ (!k) ρ1 s1 F1 H1 q1 r1 st1⟩
/-- a if t else b -/
def dIfE {m : Mem} (t : DTT m) (ta tb : DT m) : DT m := fun ρ s Q => t ρ s fun k ρ1 s1 => ifB k (ta ρ1 s1 Q) (tb ρ1 s1 Q)
theorem de_ifExp (hc : PT X c (upT X.K m tA)) (ha : PE X a (up X.K m ta)) (hb : PE X b (up X.K m tb)) : PE X (.IfExp c a b pos) (up X.K m (dIfE tA ta tb)) :=
  PE.imp (pe_ifExp hc ha hb) fun σ H Q h => by
    obtain ⟨F, ρ, s, Qd, rl, ht, hQ⟩ := h
    refine ⟨F, ρ, s, _, rl, ht, fun k ρ1 s1 F1 H1 q1 r1 st1 => ?_⟩
    cases k with
    | true =>
      have q1 := ifB_t q1
      exact iteT ⟨F1, ρ1, s1, _, r1, q1, fun d ρ2 s2 v F2 H2 q2 r2 st2 rv => hQ d ρ2 s2 v F2 H2 q2 r2 (st1.trans st2) rv⟩
    | false => exact iteF ⟨F1, ρ1, s1, _, r1, ifB_f q1, fun d ρ2 s2 v F2 H2 q2 r2 st2 rv => hQ d ρ2 s2 v F2 H2 q2 r2 (st1.trans st2) rv⟩

/-! ### argument lists, displays, calls -/
def daNil {m : Mem} : DTA m := fun ρ s Q => Q [] ρ s
def daCons {m : Mem} (t : DT m) (u : DTA m) : DTA m := fun ρ s Q => t ρ s fun d ρ1 s1 => u ρ1 s1 fun ds ρ2 s2 => Q (d :: ds) ρ2 s2
theorem da_nil : PA X [] (upA X.K m daNil) := PA.imp pa_nil fun σ H Q h => by
  obtain ⟨F, ρ, s, Qd, rl, ht, hQ⟩ := h
  exact hQ [] ρ s [] F H ht rl Stp.refl .nil
theorem up_cons {K : PySem.W.Frag} {t : DT m} {u : DTA m} {σ : L2.St} {H : Hp} {Q : List V → Hp → Prop} (h : upA K m (daCons t u) σ H Q) : tCons (up K m t) (upA K m u) σ H Q := by
  obtain ⟨F, ρ, s, Qd, rl, ht, hQ⟩ := h
  exact ⟨F, ρ, s, _, rl, ht, fun d ρ1 s1 v F1 H1 q1 r1 st1 rv => ⟨F1, ρ1, s1, _, r1, q1, fun ds ρ2 s2 vs F2 H2 q2 r2 st2 rs => hQ (d :: ds) ρ2 s2 (v :: vs) F2 H2 q2 r2 (st1.trans st2) (.cons (Rep.mono st2.ext _ _ rv) rs)⟩⟩
theorem da_cons {t : DT m} {u : DTA m} (ha : PE X e (up X.K m t)) (hr : PA X es (upA X.K m u)) (hs : starEach (e :: es) X.env = (false, eval e X.env) :: starEach es X.env := by rfl) : PA X (e :: es) (upA X.K m (daCons t u)) :=
  PA.imp (pa_cons ha hr hs) fun _ _ _ h => up_cons h
def dTup {m : Mem} (t : DTA m) : DT m := fun ρ s Q => t ρ s fun ds ρ1 s1 => ds.length ≤ sizeLine ∧ Q (.tup ds) ρ1 s1
def dLst {m : Mem} (t : DTA m) : DT m := fun ρ s Q => t ρ s fun ds ρ1 s1 => ds.length ≤ sizeLine ∧ Q (.lst ds) ρ1 s1
variable {u : DTA m}
theorem de_tup {k : Nat} (h : PA X es (upA X.K m u)) : PE X (.Tuple es k pos) (up X.K m (dTup u)) := PE.imp (pe_tup h) fun σ H Q h => by
  obtain ⟨F, ρ, s, Qd, rl, ht, hQ⟩ := h
  refine ⟨F, ρ, s, _, rl, ht, fun ds ρ1 s1 vs F1 H1 ⟨hl, q1⟩ r1 st1 rs => ⟨by rw [rs.length]; exact hl, fun p np => ?_⟩⟩
  have g : Grow F1 H1 (upd F1 p (.tup vs)) (upd H1 p (.tup vs)) := Grow.new r1.sub np
  exact hQ _ ρ1 s1 _ _ _ q1 (r1.grow g) (st1.trans g.stp) ⟨p, vs, rfl, .inl (.inl upd_same), by rw [rs.length]; exact hl, Reps.mono g.fF _ _ rs⟩
theorem de_lst (h : PA X es (upA X.K m u)) : PE X (.List es pos) (up X.K m (dLst u)) := PE.imp (pe_lst h) fun σ H Q h => by
  obtain ⟨F, ρ, s, Qd, rl, ht, hQ⟩ := h
  refine ⟨F, ρ, s, _, rl, ht, fun ds ρ1 s1 vs F1 H1 ⟨hl, q1⟩ r1 st1 rs => ⟨by rw [rs.length]; exact hl, fun p np => ?_⟩⟩
  have g : Grow F1 H1 (upd F1 p (.lst vs)) (upd H1 p (.lst vs)) := Grow.new r1.sub np
  exact hQ _ ρ1 s1 _ _ _ q1 (r1.grow g) (st1.trans g.stp) ⟨p, vs, rfl, upd_same, by rw [rs.length]; exact hl, Reps.mono g.fF _ _ rs⟩
/-- a call of a builtin by name: by its rule over data -/
def dB {m : Mem} (f : List D → (D → Prop) → Prop) (t : DTA m) : DT m := fun ρ s Q => t ρ s fun ds ρ1 s1 => f ds fun d => Q d ρ1 s1
theorem up_b {K : PySem.W.Frag} {r : List V → Hp → VK → Prop} {f : List D → (D → Prop) → Prop} {σ : L2.St} {H : Hp} {Q : VK} (hf : OpN K r f) (h : up K m (dB f u) σ H Q) : tCB r (upA K m u) σ H Q := by
  obtain ⟨F, ρ, s, Qd, rl, ht, hQ⟩ := h
  exact ⟨F, ρ, s, _, rl, ht, fun ds ρ1 s1 vs F1 H1 q1 r1 st1 rs => hf F1 H1 ds vs _ Q r1.sub rs q1 fun d v F2 H2 q2 g rv => hQ d ρ1 s1 v F2 H2 q2 (r1.grow g) (st1.trans g.stp) rv⟩
variable {x : Str} {p : Pos} {id T : String} {r : List V → Hp → VK → Prop} {f : List D → (D → Prop) → Prop}
theorem de_callB (hc : CallR X (.builtin id) r) (hf : OpN X.K r f) (hg : Gl X x) (hm : X.mg x = none) (hv : bootBuiltins x = some (.builtin id)) (ha : PA X (e :: es) (upA X.K m u)) (hn : x ≠ "__name__" := by decide) (hdb : (x == ("__debug__" : Str)) = false := by decide)
    (he : starEach (e :: es) X.env = (false, eval e X.env) :: starEach es X.env := by rfl) (hpl : (backTo pos (starEach es X.env)).any (·.1) = false := by rfl) : PE X (.Call (.Name x p) (e :: es) [] pos) (up X.K m (dB f u)) :=
  PE.imp (pe_callB hc hg hm hv ha hn hdb he hpl) fun _ _ _ h => up_b hf h
theorem de_callTy (hc : CallR X (.type T) r) (hf : OpN X.K r f) (hg : Gl X x) (hm : X.mg x = none) (hv : bootBuiltins x = some (.type T)) (ha : PA X (e :: es) (upA X.K m u)) (hn : x ≠ "__name__" := by decide) (hdb : (x == ("__debug__" : Str)) = false := by decide)
    (he : starEach (e :: es) X.env = (false, eval e X.env) :: starEach es X.env := by rfl) (hpl : (backTo pos (starEach es X.env)).any (·.1) = false := by rfl) : PE X (.Call (.Name x p) (e :: es) [] pos) (up X.K m (dB f u)) :=
  PE.imp (pe_callTy hc hg hm hv ha hn hdb he hpl) fun _ _ _ h => up_b hf h
/-! ### methods of built-in types -/
def tyD : D → String → Bool
  | .str _, T => T == "str"
  | .lst _, T => T == "list"
  | .dic _ _, T => T == "dict"
  | _, _ => false
theorem tyD_ok {K : PySem.W.Frag} {F H : Hp} {d : D} {v : V} {T : String} (h : Rep K F d v) (sub : Same F H) (e : tyD d T = true) : tyV K T v H := by
  cases d with
  | str x => obtain ⟨rfl, _⟩ := h; exact beq_iff_eq.mp e
  | lst xs => obtain ⟨a, vs, rfl, h1, _, _⟩ := h; exact .inl ⟨beq_iff_eq.mp e, vs, .inl (.inl (sub _ _ h1))⟩
  | dic ks ds => obtain ⟨a, kvs, rfl, h1, _, _⟩ := h; exact .inr (.inr (.inl ⟨beq_iff_eq.mp e, .inl ⟨kvs, sub _ _ h1⟩⟩))
  | _ => exact absurd e (by simp [tyD])
def dMt {m : Mem} (T : String) (f : D → List D → (D → Prop) → Prop) (to : DT m) (t : DTA m) : DT m := fun ρ s Q => to ρ s fun x ρ1 s1 => tyD x T = true ∧ t ρ1 s1 fun ds ρ2 s2 => f x ds fun d => Q d ρ2 s2
def dMt0 {m : Mem} (T : String) (f : D → List D → (D → Prop) → Prop) (to : DT m) : DT m := fun ρ s Q => to ρ s fun x ρ1 s1 => tyD x T = true ∧ f x [] fun d => Q d ρ1 s1
variable {o : Expr} {to : DT m} {name : Str} {apos cpos : Pos} {rM : V → List V → Hp → VK → Prop} {fM : D → List D → (D → Prop) → Prop}
theorem de_m (pa : PlainAttrs T) (slot : Slot T name id) (hty : typeOf (.builtin id) = pure (.type "method_descriptor")) (hm : MtR X id rM) (hf : OpM X.K rM fM) (ho : PE X o (up X.K m to)) (ha : PA X (e :: es) (upA X.K m u))
    (hbase : attributeBase o name X.env (eval o X.env) = eval o X.env := by rfl)
    (hfew : ((backTo cpos (starEach (e :: es) X.env)).all (fun x => !x.1) && (backToKw cpos (keywordEach [] X.env)).all (fun x => x.1.isSome)
      && decide ((e :: es).length + ([] : List Keyword).length + (if ([] : List Keyword).isEmpty then 0 else 1) < 30)) = true := by rfl)
    (hline : (apos.endLine == cpos.line) = true := by rfl) (hs : starEach (e :: es) X.env = (false, eval e X.env) :: starEach es X.env := by rfl) (hplain : (backTo cpos (starEach es X.env)).any (·.1) = false := by rfl) :
    PE X (.Call (.Attribute o name apos) (e :: es) [] cpos) (up X.K m (dMt T fM to u)) := PE.imp (pe_bm pa slot hty hm ho ha hbase hfew hline hs hplain) fun σ H Q h => by
  obtain ⟨F, ρ, s, Qd, rl, ht, hQ⟩ := h
  refine ⟨F, ρ, s, _, rl, ht, fun dx ρ1 s1 x F1 H1 ⟨hT, q1⟩ r1 st1 rx => ⟨tyD_ok rx r1.sub hT, F1, ρ1, s1, _, r1, q1, fun ds ρ2 s2 vs F2 H2 q2 r2 st2 rs => ?_⟩⟩
  exact hf F2 H2 dx x ds vs _ Q r2.sub (Rep.mono st2.ext _ _ rx) rs q2 fun d v F3 H3 q3 g rv => hQ d ρ2 s2 v F3 H3 q3 (r2.grow g) ((st1.trans st2).trans g.stp) rv
theorem de_m0 (pa : PlainAttrs T) (slot : Slot T name id) (hty : typeOf (.builtin id) = pure (.type "method_descriptor")) (hm : MtR X id rM) (hf : OpM X.K rM fM) (ho : PE X o (up X.K m to))
    (hbase : attributeBase o name X.env (eval o X.env) = eval o X.env := by rfl) (hline : (apos.endLine == cpos.line) = true := by rfl) : PE X (.Call (.Attribute o name apos) [] [] cpos) (up X.K m (dMt0 T fM to)) :=
  PE.imp (pe_bm0 pa slot hty hm ho hbase hline) fun σ H Q h => by
    obtain ⟨F, ρ, s, Qd, rl, ht, hQ⟩ := h
    refine ⟨F, ρ, s, _, rl, ht, fun dx ρ1 s1 x F1 H1 ⟨hT, q1⟩ r1 st1 rx => ⟨tyD_ok rx r1.sub hT, ?_⟩⟩
    exact hf F1 H1 dx x [] [] _ Q r1.sub rx .nil q1 fun d v F3 H3 q3 g rv => hQ d ρ1 s1 v F3 H3 q3 (r1.grow g) (st1.trans g.stp) rv
/-! ### subscripts, slices -/
theorem de_ix {r2 : R2} {f2 : D → D → (D → Prop) → Prop} (hr : IxR X r2) (hf : Op2 X.K r2 f2) (ha : PE X a (up X.K m ta)) (hb : PE X b (up X.K m tb)) (hs : PlainIx b := by exact fun _ _ => rfl) : PE X (.Subscript a b pos) (up X.K m (dOp f2 ta tb)) :=
  PE.imp (pe_ix hr ha hb hs) fun _ _ _ h => up_op hf h
abbrev DTO (m : Mem) := List Sl → m.S → (Option Int → List Sl → m.S → Prop) → Prop
def upO (K : PySem.W.Frag) (m : Mem) (t : DTO m) : TO := fun σ H Q => ∃ F ρ s Qd, Rel K m F H σ ρ s ∧ t ρ s Qd ∧ ∀ b ρ' s' F' H', Qd b ρ' s' → Rel K m F' H' σ ρ' s' → Stp m F H σ ρ s F' H' ρ' s' → Q b H'
theorem PO.imp {eo : Option Expr} {t t' : TO} (h : PO X eo t) (w : ∀ σ H Q, t' σ H Q → t σ H Q) : PO X eo t' := ⟨fun pins s σ H Q I q => h.run pins s σ H Q I (w σ H Q q)⟩
def doNone {m : Mem} : DTO m := fun ρ s Q => Q none ρ s
def doSome {m : Mem} (t : DT m) : DTO m := fun ρ s Q => t ρ s fun d ρ1 s1 => ∃ i, d = .int i ∧ Q (some i) ρ1 s1
theorem do_none : PO X none (upO X.K m doNone) := PO.imp po_none fun σ H Q h => by
  obtain ⟨F, ρ, s, Qd, rl, ht, hQ⟩ := h
  exact hQ none ρ s F H ht rl Stp.refl
theorem do_some (he : PE X e (up X.K m ta)) : PO X (some e) (upO X.K m (doSome ta)) := PO.imp (po_some he) fun σ H Q h => by
  obtain ⟨F, ρ, s, Qd, rl, ht, hQ⟩ := h
  refine ⟨F, ρ, s, _, rl, ht, fun d ρ1 s1 x F1 H1 ⟨i, e, q1⟩ r1 st1 rx => ?_⟩
  subst e
  cases rx
  exact ⟨i, rfl, hQ (some i) ρ1 s1 F1 H1 q1 r1 st1⟩
def OpS (K : PySem.W.Frag) (r : V → Option Int → Option Int → Hp → VK → Prop) (f : D → Option Int → Option Int → (D → Prop) → Prop) : Prop := ∀ F H dx x lo hi Qd Q, Same F H → Rep K F dx x → f dx lo hi Qd → (∀ d v F' H', Qd d → Grow F H F' H' → Rep K F' d v → Q v H') → r x lo hi H Q
def dSl {m : Mem} (f : D → Option Int → Option Int → (D → Prop) → Prop) (te : DT m) (tl th : DTO m) : DT m := fun ρ s Q => te ρ s fun x ρ1 s1 => tl ρ1 s1 fun l ρ2 s2 => th ρ2 s2 fun h ρ3 s3 => f x l h fun d => Q d ρ3 s3
theorem de_slice {rs : V → Option Int → Option Int → Hp → VK → Prop} {fs : D → Option Int → Option Int → (D → Prop) → Prop} {lo hi : Option Expr} {tl th : DTO m} {p2 : Pos} (hr : SlR X rs) (hf : OpS X.K rs fs) (he : PE X e (up X.K m ta)) (hl : PO X lo (upO X.K m tl)) (hh : PO X hi (upO X.K m th)) :
    PE X (.Subscript e (.Slice lo hi none p2) pos) (up X.K m (dSl fs ta tl th)) := PE.imp (pe_slice hr he hl hh) fun σ H Q h => by
  obtain ⟨F, ρ, s, Qd, rl, ht, hQ⟩ := h
  refine ⟨F, ρ, s, _, rl, ht, fun dx ρ1 s1 x F1 H1 q1 r1 st1 rx => ⟨F1, ρ1, s1, _, r1, q1, fun l ρ2 s2 F2 H2 q2 r2 st2 => ⟨F2, ρ2, s2, _, r2, q2, fun h ρ3 s3 F3 H3 q3 r3 st3 => ?_⟩⟩⟩
  exact hf F3 H3 dx x l h _ Q r3.sub (Rep.mono (st2.ext.trans st3.ext) _ _ rx) q3 fun d v F4 H4 q4 g rv => hQ d ρ3 s3 v F4 H4 q4 (r3.grow g) ((st1.trans st2).trans (st3.trans g.stp)) rv
/-! ### and, or, not of values by truth -/
def dAndV {m : Mem} (ta tb : DT m) : DT m := fun ρ s Q => ta ρ s fun x ρ1 s1 => ∃ k, tru x = some k ∧ ifB k (tb ρ1 s1 Q) (Q x ρ1 s1)
def dOrV {m : Mem} (ta tb : DT m) : DT m := fun ρ s Q => ta ρ s fun x ρ1 s1 => ∃ k, tru x = some k ∧ ifB k (Q x ρ1 s1) (tb ρ1 s1 Q)
theorem de_one {op} (h : PE X a (up X.K m ta)) : PE X (.BoolOp op [a] pos) (up X.K m ta) := pe_one h
theorem de_and (ha : PE X a (up X.K m ta)) (hb : PE X (.BoolOp .And (b :: rest) pos) (up X.K m tb)) : PE X (.BoolOp .And (a :: b :: rest) pos) (up X.K m (dAndV ta tb)) :=
  PE.imp (pe_andT ha hb) fun σ H Q h => by
    obtain ⟨F, ρ, s, Qd, rl, ht, hQ⟩ := h
    refine ⟨F, ρ, s, _, rl, ht, fun d ρ1 s1 x F1 H1 ⟨k, ek, q1⟩ r1 st1 rx => ⟨k, tru_rep rx r1.sub ek, ?_⟩⟩
    cases k with
    | true =>
      have q1 := ifB_t q1
      exact iteT ⟨F1, ρ1, s1, _, r1, q1, fun d ρ2 s2 v F2 H2 q2 r2 st2 rv => hQ d ρ2 s2 v F2 H2 q2 r2 (st1.trans st2) rv⟩
    | false => exact iteF (hQ d ρ1 s1 x F1 H1 (ifB_f q1) r1 st1 rx)
theorem de_or (ha : PE X a (up X.K m ta)) (hb : PE X (.BoolOp .Or (b :: rest) pos) (up X.K m tb)) : PE X (.BoolOp .Or (a :: b :: rest) pos) (up X.K m (dOrV ta tb)) :=
  PE.imp (pe_orT ha hb) fun σ H Q h => by
    obtain ⟨F, ρ, s, Qd, rl, ht, hQ⟩ := h
    refine ⟨F, ρ, s, _, rl, ht, fun d ρ1 s1 x F1 H1 ⟨k, ek, q1⟩ r1 st1 rx => ⟨k, tru_rep rx r1.sub ek, ?_⟩⟩
    cases k with
    | false => exact iteF ⟨F1, ρ1, s1, _, r1, ifB_f q1, fun d ρ2 s2 v F2 H2 q2 r2 st2 rv => hQ d ρ2 s2 v F2 H2 q2 r2 (st1.trans st2) rv⟩
    | true => exact iteT (hQ d ρ1 s1 x F1 H1 (ifB_t q1) r1 st1 rx)
/-! ### a def's promise over data, its call -/
abbrev DSp (m : Mem) := List D → m.S → (D → m.S → Prop) → Prop
structure CStp (m : Mem) (F H : Hp) (s : m.S) (F' H' : Hp) (s' : m.S) : Prop where
  ext : Same F F'
  keep : ∀ a o, H a = some o → ¬ m.R s a → H' a = some o
  alive : ∀ a, H a ≠ none → H' a ≠ none
  fresh : ∀ a o, F' a = some o → F a = some o ∨ H a = none
  regf : ∀ a, m.R s' a → m.R s a ∨ H a = none
  sub : Same F' H'
  mem : m.M s' H'
  reg : ∀ a, m.R s' a → F' a = none
def lift (K : PySem.W.Frag) (m : Mem) (n : Nat) (sp : DSp m) : Sp := fun vs H Q _ => vs.length = n ∧ ∃ F ds s Qd, Same F H ∧ m.M s H ∧ (∀ a, m.R s a → F a = none) ∧ Reps K F ds vs ∧ sp ds s Qd ∧
  ∀ d s' v F' H', Qd d s' → CStp m F H s F' H' s' → Rep K F' d v → Q v H'
theorem CStp.stp {F H F' H' : Hp} {s s' : m.S} (c : CStp m F H s F' H' s') {σ : L2.St} {ρ : List Sl} : Stp m F H σ ρ s F' H' ρ s' :=
  ⟨c.ext, c.keep, c.alive, fun a o h => (c.fresh a o h).elim .inl fun z => .inr (.inl z), c.regf, fun _ _ h => h⟩
theorem Rel.call {K : PySem.W.Frag} {F H F' H' : Hp} {σ : L2.St} {ρ : List Sl} {s s' : m.S} (r : Rel K m F H σ ρ s) (c : CStp m F H s F' H' s') : Rel K m F' H' σ ρ s' where
  sub := c.sub
  mem := c.mem
  reg := c.reg
  len := r.len
  sh := fun i d e => by
    obtain ⟨v, h1, h2⟩ := r.sh i d e
    exact ⟨v, h1, Rep.mono c.ext _ _ h2⟩
  ow := fun i o e => by
    obtain ⟨p, ho, h1, h2, h3, h4, h5⟩ := r.own_at e
    exact ⟨p, ho, h1, c.keep p ho h2 h5, h3.mono c.ext⟩
  owF := fun i p h => by
    obtain ⟨⟨o, e⟩, hσ⟩ := id h
    obtain ⟨p', ho, h1, h2, h3, h4, h5⟩ := r.own_at e
    rw [hσ] at h1; cases h1
    refine ⟨?_, fun z => ?_⟩
    · cases q : F' p with
      | none => rfl
      | some u =>
        rcases c.fresh p u q with z | z
        · rw [h4] at z; cases z
        · rw [z] at h2; cases h2
    · rcases c.regf p z with z | z
      · exact h5 z
      · rw [z] at h2; cases h2
  uq := r.uq
def dCall {m : Mem} (sp : DSp m) (t : DTA m) : DT m := fun ρ s Q => t ρ s fun ds ρ1 s1 => sp ds s1 fun d s' => Q d ρ1 s'
theorem up_call {K : PySem.W.Frag} {n : Nat} {sp : DSp m} {σ : L2.St} {H : Hp} {Q : VK} {E : XK} (hn : ∀ ds s Qd, sp ds s Qd → ds.length = n) (h : up K m (dCall sp u) σ H Q) : tCall (lift K m n sp) [] E (upA K m u) σ H Q := by
  obtain ⟨F, ρ, s, Qd, rl, ht, hQ⟩ := h
  refine ⟨F, ρ, s, _, rl, ht, fun ds ρ1 s1 vs F1 H1 q1 r1 st1 rs => ?_⟩
  show lift K m n sp (vs ++ []) H1 Q E
  rw [List.append_nil]
  exact ⟨by rw [rs.length]; exact hn _ _ _ q1, F1, ds, s1, _, r1.sub, r1.mem, r1.reg, rs, q1, fun d s' v F2 H2 q2 c rv => hQ d ρ1 s' v F2 H2 q2 (r1.call c) (st1.trans c.stp) rv⟩
theorem de_call {k n : Nat} {fa : Addr} {fd : FuncData} {ps : List Str} {sp : DSp m} (G : FnG X.prog X.w X.K X.mg X.base CX0 k fa fd ps (lift X.K m n sp)) (hn : ∀ ds s Qd, sp ds s Qd → ds.length = n) (hr : RoomG k X.A) (hg : Gl X x) (hm : X.mg x = some (.ref fa)) (hk : PySem.W.keepIn X.K (.ref fa) = true) (hb : Binds X.K fd ps [])
    (ha : PA X (e :: es) (upA X.K m u)) (hdb : (x == ("__debug__" : Str)) = false := by decide) (he : starEach (e :: es) X.env = (false, eval e X.env) :: starEach es X.env := by rfl) (hpl : (backTo pos (starEach es X.env)).any (·.1) = false := by rfl) :
    PE X (.Call (.Name x p) (e :: es) [] pos) (up X.K m (dCall sp u)) := PE.imp (pg_call G hr hg hm hk hb .nil pass0 ha hdb he hpl) fun _ _ _ h => up_call hn h
end
end DL

set_option Elab.async false
set_option linter.all false
set_option maxRecDepth 100000
namespace DL
open PySem PySem.Spec PyProof.Rows L2

/-! ### statements -/
/-- the state at a def's entry -/
structure Ent (m : Mem) where
  F : Hp
  H : Hp
  s : m.S
  W : WX := fun _ _ _ _ => False
/-- what has become of it -/
structure Own (m : Mem) (E : Ent m) (F H : Hp) (σ : L2.St) (ρ : List Sl) (s : m.S) : Prop where
  ext : Same E.F F
  keep : ∀ a o, E.H a = some o → ¬ m.R E.s a → H a = some o
  alive : ∀ a, E.H a ≠ none → H a ≠ none
  fresh : ∀ a o, F a = some o → E.F a = some o ∨ E.H a = none
  regf : ∀ a, m.R s a → m.R E.s a ∨ E.H a = none
  own : ∀ (i : Nat) p, Owns σ ρ i p → E.H p = none
theorem Own.stp {m : Mem} {E : Ent m} {F H F' H' : Hp} {σ : L2.St} {ρ ρ' : List Sl} {s s' : m.S} (o : Own m E F H σ ρ s) (st : Stp m F H σ ρ s F' H' ρ' s') : Own m E F' H' σ ρ' s' where
  ext := o.ext.trans st.ext
  keep := fun a x h n => st.keep a x (o.keep a x h n) fun r => by
    rcases o.regf a r with z | z
    · exact n z
    · rw [z] at h; cases h
  alive := fun a h => st.alive a (o.alive a h)
  fresh := fun a x h => by
    rcases st.fresh a x h with z | z | ⟨i, z⟩
    · exact o.fresh a x z
    · refine .inr ?_
      cases q : E.H a with
      | none => rfl
      | some u => exact absurd z (o.alive a (by rw [q]; simp))
    · exact .inr (o.own i a z)
  regf := fun a h => by
    rcases st.regf a h with z | z
    · exact o.regf a z
    · refine .inr ?_
      cases q : E.H a with
      | none => rfl
      | some u => exact absurd z (o.alive a (by rw [q]; simp))
  own := fun i p h => o.own i p (st.owns h)
structure DEnds (m : Mem) where
  nx : List Sl → m.S → Prop
  rt : D → m.S → Prop
  bk : List Sl → m.S → Prop := fun _ _ => False
  ct : List Sl → m.S → Prop := fun _ _ => False
  ex : Addr → List Str → List D → List Sl → m.S → Prop := fun _ _ _ _ _ => False
abbrev DTS (m : Mem) := DEnds m → List Sl → m.S → Prop
structure Fits (K : PySem.W.Frag) (m : Mem) (E : Ent m) (F0 : Hp) (dd : DEnds m) (DD : Ends) : Prop where
  nx : ∀ F H σ ρ s, Same F0 F → Rel K m F H σ ρ s → Own m E F H σ ρ s → dd.nx ρ s → DD.nx σ H
  rt : ∀ F H σ ρ s d v, Same F0 F → Rel K m F H σ ρ s → Own m E F H σ ρ s → Rep K F d v → dd.rt d s → DD.rt v H
  bk : ∀ F H σ ρ s, Same F0 F → Rel K m F H σ ρ s → Own m E F H σ ρ s → dd.bk ρ s → DD.bk σ H
  ct : ∀ F H σ ρ s, Same F0 F → Rel K m F H σ ρ s → Own m E F H σ ρ s → dd.ct ρ s → DD.ct σ H
  ex : ∀ F H σ ρ s C ns ds dx fs, Same F0 F → Rel K m F H σ ρ s → Own m E F H σ ρ s → H dx = some (.xd fs) → E.H dx = none → F dx = none → ¬ m.R s dx → (∀ i, ¬ Owns σ ρ i dx) → fs.map (·.1) = ns → Reps K F ds (fs.map (·.2)) → dd.ex C ns ds ρ s → E.W (.ref C) (some dx) σ H
theorem Fits.mono {K : PySem.W.Frag} {m : Mem} {E : Ent m} {F0 F1 : Hp} {dd : DEnds m} {DD : Ends} (f : Fits K m E F0 dd DD) (h : Same F0 F1) : Fits K m E F1 dd DD :=
  ⟨fun F H σ ρ s q => f.nx F H σ ρ s (h.trans q), fun F H σ ρ s d v q => f.rt F H σ ρ s d v (h.trans q), fun F H σ ρ s q => f.bk F H σ ρ s (h.trans q), fun F H σ ρ s q => f.ct F H σ ρ s (h.trans q), fun F H σ ρ s C ns ds dx fs q => f.ex F H σ ρ s C ns ds dx fs (h.trans q)⟩
def upS (K : PySem.W.Frag) (m : Mem) (E : Ent m) (t : DTS m) : TS := fun DD σ H => ∃ F ρ s dd, Rel K m F H σ ρ s ∧ Own m E F H σ ρ s ∧ t dd ρ s ∧ Fits K m E F dd DD

section
variable {X : Cx} {m : Mem} {E : Ent m} {st : Stmt} {rest : List Stmt} {t u : DTS m} {e : Expr} {te : DT m} {pos : Pos}
def dNext {m : Mem} : DTS m := fun dd ρ s => dd.nx ρ s
def dSeq {m : Mem} (t u : DTS m) : DTS m := fun dd ρ s => t { dd with nx := u dd } ρ s
theorem dss_nil : PSs X [] (upS X.K m E dNext) := PSs.imp pss_nil fun DD σ H h => by
  obtain ⟨F, ρ, s, dd, r, o, ht, f⟩ := h
  exact f.nx F H σ ρ s (Same.refl F) r o ht
theorem dss_cons (h1 : PS X st (upS X.K m E t)) (h2 : PSs X rest (upS X.K m E u)) : PSs X (st :: rest) (upS X.K m E (dSeq t u)) := PSs.imp (pss_cons h1 h2) fun DD σ H h => by
  obtain ⟨F, ρ, s, dd, r, o, ht, f⟩ := h
  exact ⟨F, ρ, s, _, r, o, ht, ⟨fun F' H' σ' ρ' s' sm r' o' q => ⟨F', ρ', s', dd, r', o', q, f.mono sm⟩, f.rt, f.bk, f.ct, f.ex⟩⟩
theorem dss_one (h1 : PS X st (upS X.K m E t)) : PSs X [st] (upS X.K m E t) := pss_one h1
def dRet {m : Mem} (te : DT m) : DTS m := fun dd ρ s => te ρ s fun d _ s1 => dd.rt d s1
theorem ds_ret (he : PE X e (up X.K m te)) : PS X (.Return (some e) pos) (upS X.K m E (dRet te)) := PS.imp (ps_ret he) fun DD σ H h => by
  obtain ⟨F, ρ, s, dd, r, o, ht, f⟩ := h
  exact ⟨F, ρ, s, _, r, ht, fun d ρ1 s1 v F1 H1 q1 r1 st1 rv => f.rt F1 H1 σ ρ1 s1 d v st1.ext r1 (o.stp st1) rv q1⟩
def dIf {m : Mem} (c : DTT m) (t u : DTS m) : DTS m := fun dd ρ s => c ρ s fun b ρ1 s1 => ifB b (t dd ρ1 s1) (u dd ρ1 s1)
theorem ds_if {c : Expr} {a b : List Stmt} {tc : DTT m} (hc : PT X c (upT X.K m tc)) (ha : PSs X a (upS X.K m E t)) (hb : PSs X b (upS X.K m E u)) : PS X (.If c a b pos) (upS X.K m E (dIf tc t u)) := PS.imp (ps_if hc ha hb) fun DD σ H h => by
  obtain ⟨F, ρ, s, dd, r, o, ht, f⟩ := h
  refine ⟨F, ρ, s, _, r, ht, fun b ρ1 s1 F1 H1 q1 r1 st1 => ?_⟩
  cases b with
  | true =>
    have q1 := ifB_t q1
    exact iteT ⟨F1, ρ1, s1, dd, r1, o.stp st1, q1, f.mono st1.ext⟩
  | false => exact iteF ⟨F1, ρ1, s1, dd, r1, o.stp st1, ifB_f q1, f.mono st1.ext⟩

/-! ### names stored -/
theorem Own.put {K : PySem.W.Frag} {F H : Hp} {σ : L2.St} {ρ : List Sl} {s : m.S} (o : Own m E F H σ ρ s) {i : Nat} {d : D} {v : V} : Own m E F H (σ.set i (some v)) (ρ.set i (.sh d)) s :=
  ⟨o.ext, o.keep, o.alive, o.fresh, o.regf, fun j p ⟨⟨ob, h1⟩, h2⟩ => by
    by_cases hj : i = j
    · subst hj
      by_cases hi : i < ρ.length
      · rw [List.getElem?_set_self hi] at h1; cases h1
      · rw [List.getElem?_eq_none (by simpa using hi)] at h1; cases h1
    · rw [List.getElem?_set_ne hj] at h1 h2; exact o.own j p ⟨⟨ob, h1⟩, h2⟩⟩
def dSet {m : Mem} (i : Nat) (te : DT m) : DTS m := fun dd ρ s => te ρ s fun d ρ1 s1 => dd.nx (ρ1.set i (.sh d)) s1
theorem ds_set (i : Nat) {x : Str} {pos' : Pos} (hN : X.N.Nodup) (he : PE X e (up X.K m te)) (hi : X.N[i]? = some x := by rfl) (hx : Loc X.env.scope x := by first | exact Or.inl rfl | exact Or.inr rfl) (hs : swapsWith e (some (.Name x pos')) pos.line X.env = pure false := by rfl)
    (hf : X.fn x = true ∨ X.env.scope.names.lookup x = some .local := by first | exact .inl rfl | exact .inr rfl) :
    PS X (.Assign [.Name x pos'] e pos) (upS X.K m E (dSet i te)) := PS.imp (ps_set hN hi hx he hs hf) fun DD σ H h => by
  obtain ⟨F, ρ, s, dd, r, o, ht, f⟩ := h
  exact ⟨F, ρ, s, _, r, ht, fun d ρ1 s1 v F1 H1 q1 r1 st1 rv => f.nx F1 H1 _ _ s1 st1.ext (r1.put rv) ((o.stp st1).put (K := X.K)) q1⟩
/-- x = [..], the list to be changed by this def -/
theorem Own.putO {K : PySem.W.Frag} {F H : Hp} {σ : L2.St} {ρ : List Sl} {s : m.S} (r : Rel K m F H σ ρ s) (o : Own m E F H σ ρ s) {i : Nat} {ob : Ob} {p : Addr} {ho : HO} (n : H p = none) : Own m E F (upd H p ho) (σ.set i (some (.ref p))) (ρ.set i (.ow ob)) s := by
  have eH : E.H p = none := by
    cases q : E.H p with
    | none => rfl
    | some u => exact absurd n (o.alive p (by rw [q]; simp))
  refine ⟨o.ext, fun a x h nr => ?_, fun a h => ?_, o.fresh, o.regf, fun j q ⟨⟨ob', h1⟩, h2⟩ => ?_⟩
  · rw [upd_ne (ne_of_none h eH)]; exact o.keep a x h nr
  · have hp : a ≠ p := fun z => h (z ▸ eH)
    rw [upd_ne hp]; exact o.alive a h
  · by_cases hj : i = j
    · subst hj
      have hi : i < σ.length := by
        have := (List.getElem?_eq_some_iff.mp h2).1
        rw [List.length_set] at this; exact this
      rw [List.getElem?_set_self hi] at h2
      cases h2
      exact eH
    · rw [List.getElem?_set_ne hj] at h1 h2; exact o.own j q ⟨⟨ob', h1⟩, h2⟩
def dSetL {m : Mem} (i : Nat) (ta : DTA m) : DTS m := fun dd ρ s => ta ρ s fun ds ρ1 s1 => ds.length ≤ sizeLine ∧ dd.nx (ρ1.set i (.ow (.lst ds))) s1
theorem ds_setL (i : Nat) {x : Str} {es : List Expr} {pos' lpos : Pos} {ta : DTA m} (hN : X.N.Nodup) (ha : PA X es (upA X.K m ta)) (hi : X.N[i]? = some x := by rfl) (hx : Loc X.env.scope x := by first | exact Or.inl rfl | exact Or.inr rfl)
    (hs : swapsWith (.List es lpos) (some (.Name x pos')) pos.line X.env = pure false := by rfl) (hf : X.fn x = true ∨ X.env.scope.names.lookup x = some .local := by first | exact .inl rfl | exact .inr rfl) :
    PS X (.Assign [.Name x pos'] (.List es lpos) pos) (upS X.K m E (dSetL i ta)) := PS.imp (ps_set hN hi hx (pe_lst ha) hs hf) fun DD σ H h => by
  obtain ⟨F, ρ, s, dd, r, o, ht, f⟩ := h
  refine ⟨F, ρ, s, _, r, ht, fun ds ρ1 s1 vs F1 H1 ⟨hl, q1⟩ r1 st1 rs => ⟨by rw [rs.length]; exact hl, fun p np => ?_⟩⟩
  exact f.nx F1 _ _ _ s1 st1.ext (r1.putO (o := .lst ds) np ⟨vs, rfl, by rw [rs.length]; exact hl, rs⟩) (Own.putO r1 (o.stp st1) np) q1
/-- x.append(e), the list x's own -/
def dApp {m : Mem} (i : Nat) (te : DT m) : DTS m := fun dd ρ s => (∃ ds0, ρ[i]? = some (.ow (.lst ds0))) ∧ te ρ s fun d ρ1 s1 => ∃ ds, ρ1[i]? = some (.ow (.lst ds)) ∧ ds.length < sizeLine ∧ dd.nx (ρ1.set i (.ow (.lst (ds ++ [d])))) s1
theorem Own.write {K : PySem.W.Frag} {F H : Hp} {σ : L2.St} {ρ : List Sl} {s : m.S} (o : Own m E F H σ ρ s) {i : Nat} {ob ob' : Ob} {p : Addr} {ho : HO} (e : ρ[i]? = some (.ow ob)) (eσ : σ[i]? = some (some (V.ref p))) : Own m E F (upd H p ho) σ (ρ.set i (.ow ob')) s := by
  have eH : E.H p = none := o.own i p ⟨⟨ob, e⟩, eσ⟩
  refine ⟨o.ext, fun a x h nr => ?_, fun a h => ?_, o.fresh, o.regf, fun j q ⟨⟨u, h1⟩, h2⟩ => ?_⟩
  · rw [upd_ne (ne_of_none h eH)]; exact o.keep a x h nr
  · have hp : a ≠ p := fun z => h (z ▸ eH)
    rw [upd_ne hp]; exact o.alive a h
  · by_cases hj : i = j
    · subst hj; exact o.own i q ⟨⟨ob, e⟩, h2⟩
    · rw [List.getElem?_set_ne hj] at h1; exact o.own j q ⟨⟨u, h1⟩, h2⟩
theorem ds_app (i : Nat) {x : Str} {xpos apos cpos : Pos} (he : PE X e (up X.K m te)) (hN : X.N[i]? = some x := by rfl) (hv : Vis X.env.scope x := by first | exact Or.inl rfl | exact Or.inr (Or.inl rfl) | exact Or.inr (Or.inr rfl))
    (hd : (x == ("__debug__" : Str)) = false := by decide) (hcd : (x == ("__classdict__" : Str)) = false := by decide)
    (hbase : attributeBase (.Name x xpos) "append" X.env (eval (.Name x xpos) X.env) = eval (.Name x xpos) X.env := by rfl)
    (hfew : ((backTo cpos (starEach [e] X.env)).all (fun x => !x.1) && (backToKw cpos (keywordEach [] X.env)).all (fun x => x.1.isSome)
      && decide ([e].length + ([] : List Keyword).length + (if ([] : List Keyword).isEmpty then 0 else 1) < 30)) = true := by rfl)
    (hline : (apos.endLine == cpos.line) = true := by rfl) (hs : starEach [e] X.env = [(false, eval e X.env)] := by rfl)
    (hsw : swapsWith (.Call (.Attribute (.Name x xpos) "append" apos) [e] [] cpos) none pos.line X.env = pure false := by rfl) :
    PS X (.Expr (.Call (.Attribute (.Name x xpos) "append" apos) [e] [] cpos) pos) (upS X.K m E (dApp i te)) :=
  PS.imp (ps_expr (pe_bm PySem.F.plainAttrs_list PySem.F.slot_list_append PySem.F.type_list_append mt_append (pv i hN hv hd hcd) (pa_cons he pa_nil (by rw [hs]; rfl)) hbase hfew hline (by rw [hs]; rfl) rfl) hsw) fun DD σ H h => by
  obtain ⟨F, ρ, s, dd, r, o, ⟨⟨ds0, e0⟩, ht⟩, f⟩ := h
  obtain ⟨p, ho, h1, h2, ⟨vs0, rfl, hl0, rs0⟩, h4, h5⟩ := r.own_at e0
  refine ⟨_, h1, .inl ⟨rfl, vs0, .inl (.inl h2)⟩, F, ρ, s, _, r, ht, fun d ρ1 s1 v F1 H1 ⟨ds, e1, hz, q1⟩ r1 st1 rv => ?_⟩
  obtain ⟨p', ho, g1, g2, ⟨vs, rfl, hl, rs⟩, g4, g5⟩ := r1.own_at e1
  rw [h1] at g1; cases g1
  have hlen := rs.length
  refine ⟨p, vs, v, rfl, rfl, g2, by omega, ?_⟩
  refine f.nx F1 _ σ _ s1 st1.ext (r1.write (o' := .lst (ds ++ [d])) e1 h1 ⟨vs ++ [v], rfl, by rw [List.length_append]; exact (by simp; omega), rs.append (.one rv)⟩) ((o.stp st1).write (K := X.K) e1 h1) q1

/-! ### what a target is bound to -/
abbrev DG := D → List Sl → (List Sl → Prop) → Prop
/-- ts: the slots that the target stores -/
def upG (K : PySem.W.Frag) (m : Mem) (ts : List Nat) (g : DG) : TG := fun v σ H Q => ∃ F ρ s d Qd, Rel K m F H σ ρ s ∧ Rep K F d v ∧ g d ρ Qd ∧
  ∀ σ' ρ', Qd ρ' → Rel K m F H σ' ρ' s → (∀ i p, Owns σ' ρ' i p → Owns σ ρ i p) → (σ'.length = σ.length ∧ ∀ j, j ∉ ts → σ'[j]? = σ[j]?) → Q σ' H
def upGs (K : PySem.W.Frag) (m : Mem) (ts : List Nat) (g : List D → List Sl → (List Sl → Prop) → Prop) : TGs := fun vs σ H Q => ∃ F ρ s ds Qd, Rel K m F H σ ρ s ∧ Reps K F ds vs ∧ g ds ρ Qd ∧
  ∀ σ' ρ', Qd ρ' → Rel K m F H σ' ρ' s → (∀ i p, Owns σ' ρ' i p → Owns σ ρ i p) → (σ'.length = σ.length ∧ ∀ j, j ∉ ts → σ'[j]? = σ[j]?) → Q σ' H
theorem PG.imp {tg : Expr} {g g' : TG} (h : PG X tg g) (w : ∀ v σ H Q, g' v σ H Q → g v σ H Q) : PG X tg g' := ⟨fun pins s σ H v u Q I r q => h.run pins s σ H v u Q I r (w v σ H Q q)⟩
theorem PGs.imp {tg : List Expr} {g g' : TGs} (h : PGs X tg g) (w : ∀ v σ H Q, g' v σ H Q → g v σ H Q) : PGs X tg g' := ⟨fun pins s σ H v u Q I r q => h.run pins s σ H v u Q I r (w v σ H Q q)⟩
def gN (i : Nat) : DG := fun d ρ Q => Q (ρ.set i (.sh d))
theorem owns_put {σ : L2.St} {ρ : List Sl} {i : Nat} {d : D} {v : V} {j : Nat} {q : Addr} (h : Owns (σ.set i (some v)) (ρ.set i (.sh d)) j q) : Owns σ ρ j q := by
  obtain ⟨⟨o', h1⟩, h2⟩ := h
  by_cases hj : i = j
  · subst hj
    by_cases hi : i < ρ.length
    · rw [List.getElem?_set_self hi] at h1; cases h1
    · rw [List.getElem?_eq_none (by simpa using hi)] at h1; cases h1
  · rw [List.getElem?_set_ne hj] at h1 h2; exact ⟨⟨o', h1⟩, h2⟩
theorem dg_name (i : Nat) {x : Str} (hN : X.N.Nodup) (hi : X.N[i]? = some x := by rfl) (hx : Loc X.env.scope x := by first | exact Or.inl rfl | exact Or.inr rfl) (hf : X.fn x = true ∨ X.env.scope.names.lookup x = some .local := by first | exact .inl rfl | exact .inr rfl) :
    PG X (.Name x pos) (upG X.K m [i] (gN i)) := PG.imp (pg_name hN hi hx hf) fun v σ H Q h => by
  obtain ⟨F, ρ, s, d, Qd, r, rv, hg, hQ⟩ := h
  exact hQ _ _ hg (r.put rv) (fun j p h => owns_put h) ⟨by rw [List.length_set], fun j hj => List.getElem?_set_ne (by simpa using Ne.symm (by simpa using hj))⟩
def gNil' : List D → List Sl → (List Sl → Prop) → Prop := fun ds ρ Q => ds = [] ∧ Q ρ
def gCons' (g : DG) (u : List D → List Sl → (List Sl → Prop) → Prop) : List D → List Sl → (List Sl → Prop) → Prop := fun ds ρ Q => ∃ d r, ds = d :: r ∧ g d ρ fun ρ1 => u r ρ1 Q
theorem dgs_nil : PGs X [] (upGs X.K m [] gNil') := PGs.imp pgs_nil fun vs σ H Q h => by
  obtain ⟨F, ρ, s, ds, Qd, r, rv, ⟨hg, hq⟩, hQ⟩ := h
  subst hg
  cases rv
  exact ⟨rfl, hQ σ ρ hq r (fun _ _ h => h) ⟨rfl, fun _ _ => rfl⟩⟩
theorem dgs_cons {es : List Expr} {ts us : List Nat} {g : DG} {u : List D → List Sl → (List Sl → Prop) → Prop} (h1 : PG X e (upG X.K m ts g)) (h2 : PGs X es (upGs X.K m us u)) (hs : (assignEach (e :: es) X.env).map (·.2) = assign e X.env :: (assignEach es X.env).map (·.2) := by rfl) :
    PGs X (e :: es) (upGs X.K m (ts ++ us) (gCons' g u)) := PGs.imp (pgs_cons h1 h2 hs) fun vs σ H Q h => by
  obtain ⟨F, ρ, s, ds, Qd, r, rv, ⟨d, rr, hd, hg⟩, hQ⟩ := h
  subst hd
  obtain ⟨v, vr, rfl, rv1, rv2⟩ := rv
  refine ⟨v, vr, rfl, F, ρ, s, d, _, r, rv1, hg, fun σ1 ρ1 q1 r1 o1 k1 => ⟨F, ρ1, s, rr, _, r1, rv2, q1, fun σ2 ρ2 q2 r2 o2 k2 => ?_⟩⟩
  exact hQ σ2 ρ2 q2 r2 (fun i p h => o1 i p (o2 i p h)) ⟨k2.1.trans k1.1, fun j hj => (k2.2 j fun z => hj (List.mem_append_right _ z)).trans (k1.2 j fun z => hj (List.mem_append_left _ z))⟩
def gTup' (n : Nat) (u : List D → List Sl → (List Sl → Prop) → Prop) : DG := fun d ρ Q => ∃ ds, d = .tup ds ∧ ds.length = n ∧ u ds ρ Q
theorem dg_tup {es : List Expr} {k : Nat} {us : List Nat} {u : List D → List Sl → (List Sl → Prop) → Prop} {n : Nat} (hc : X.calm = true) (h : PGs X es (upGs X.K m us u)) (hn : (assignEach es X.env).length = n := by rfl) (hst : (assignEach es X.env).findIdx? (·.1) = none := by rfl) :
    PG X (.Tuple es k pos) (upG X.K m us (gTup' n u)) := PG.imp (pg_tup hc h hn hst) fun v σ H Q h => by
  obtain ⟨F, ρ, s, d, Qd, r, rv, ⟨ds, hd, hl, hg⟩, hQ⟩ := h
  subst hd
  obtain ⟨a, vs, rfl, hT, _, rs⟩ := rv
  exact ⟨a, vs, rfl, Same.seqT r.sub hT, by rw [rs.length]; exact hl, F, ρ, s, ds, Qd, r, rs, hg, hQ⟩
theorem Own.tgt {F H : Hp} {σ σ' : L2.St} {ρ ρ' : List Sl} {s : m.S} (o : Own m E F H σ ρ s) (h : ∀ i p, Owns σ' ρ' i p → Owns σ ρ i p) : Own m E F H σ' ρ' s := ⟨o.ext, o.keep, o.alive, o.fresh, o.regf, fun i p q => o.own i p (h i p q)⟩
/-- target = e, any target -/
def dAsg {m : Mem} (te : DT m) (g : DG) : DTS m := fun dd ρ s => te ρ s fun d ρ1 s1 => g d ρ1 fun ρ2 => dd.nx ρ2 s1
theorem ds_asg {tg : Expr} {ts : List Nat} {g : DG} (he : PE X e (up X.K m te)) (hg : PG X tg (upG X.K m ts g)) (hs : swapsWithSole [tg] e pos.line X.env = pure false := by rfl) (hw : swappedStores [tg] e X.env = pure none := by rfl)
    (h1 : (assignEach [tg] X.env).map (·.2) = [assign tg X.env] := by rfl) : PS X (.Assign [tg] e pos) (upS X.K m E (dAsg te g)) := PS.imp (ps_asg he hg hs hw h1) fun DD σ H h => by
  obtain ⟨F, ρ, s, dd, r, o, ht, f⟩ := h
  refine ⟨F, ρ, s, _, r, ht, fun d ρ1 s1 v F1 H1 q1 r1 st1 rv => ⟨F1, ρ1, s1, d, _, r1, rv, q1, fun σ2 ρ2 q2 r2 o2 _ => ?_⟩⟩
  exact f.nx F1 H1 σ2 ρ2 s1 st1.ext r2 ((o.stp st1).tgt o2) q2
/-! ### loops -/
/-- an iterator over known items: what it hands out is the data, in their order -/
def Walks (K : PySem.W.Frag) (F : Hp) (J : It) (ds : List D) : Prop := ∀ F' H', Same F F' → Same F' H' →
  (∀ i, ds.length ≤ i → J.stop i H') ∧ ∀ i d, ds[i]? = some d → J.go i H' ∧ ∀ x H2, J.yld i H' x H2 → ∃ F2, Grow F' H' F2 H2 ∧ Rep K F2 d x
theorem Walks.mono {K : PySem.W.Frag} {F F1 : Hp} {J : It} {ds : List D} (w : Walks K F J ds) (h : Same F F1) : Walks K F1 J ds := fun F' H' a b => w F' H' (h.trans a) b
abbrev DTI (m : Mem) := List Sl → m.S → (List D → List Sl → m.S → Prop) → Prop
def upI (K : PySem.W.Frag) (m : Mem) (t : DTI m) : TI := fun σ H R => ∃ F ρ s Qd, Rel K m F H σ ρ s ∧ t ρ s Qd ∧ ∀ ds ρ' s' J F' H', Qd ds ρ' s' → Rel K m F' H' σ ρ' s' → Stp m F H σ ρ s F' H' ρ' s' → Walks K F' J ds → R J H'
theorem PI.imp {tg iter : Expr} {t t' : TI} (h : PI X tg iter t) (w : ∀ σ H Q, t' σ H Q → t σ H Q) : PI X tg iter t' := ⟨fun pins s σ H R I q => h.run pins s σ H R I (w σ H R q)⟩
/-- a list or a tuple -/
def seqD : D → Option (List D)
  | .lst ds => some ds
  | .tup ds => some ds
  | .fz ds => some ds
  | _ => none
def diSeq {m : Mem} (te : DT m) : DTI m := fun ρ s Q => te ρ s fun d ρ1 s1 => ∃ ds, seqD d = some ds ∧ Q ds ρ1 s1
theorem walks_list {K : PySem.W.Frag} {F : Hp} {a : Addr} {ds : List D} {vs : List V} (h : SqL K F a vs) (rs : Reps K F ds vs) : Walks K F (Itl K a) ds := fun F' H' s1 s2 => by
  have q : SqL K H' a vs := Same.seq s2 (Same.seq s1 h)
  have hl := rs.length
  refine ⟨fun i hi => ⟨vs, q, by omega⟩, fun i d e => ?_⟩
  obtain ⟨v, ev, rv⟩ := rs.get e
  refine ⟨⟨vs, v, q, ev⟩, fun x H2 y => ?_⟩
  obtain ⟨e1, y⟩ := y
  subst e1
  have e2 := y vs q
  rw [ev] at e2
  cases e2
  exact ⟨F', Grow.refl s2, Rep.mono s1 _ _ rv⟩
theorem walks_tup {K : PySem.W.Frag} {F : Hp} {a : Addr} {ds : List D} {vs : List V} (h : SqT K F a vs) (rs : Reps K F ds vs) : Walks K F (Itt K a) ds := fun F' H' s1 s2 => by
  have q : SqT K H' a vs := Same.seqT s2 (Same.seqT s1 h)
  have hl := rs.length
  refine ⟨fun i hi => ⟨vs, q, by omega⟩, fun i d e => ?_⟩
  obtain ⟨v, ev, rv⟩ := rs.get e
  refine ⟨⟨vs, v, q, ev⟩, fun x H2 y => ?_⟩
  obtain ⟨e1, y⟩ := y
  subst e1
  have e2 := y vs q
  rw [ev] at e2
  cases e2
  exact ⟨F', Grow.refl s2, Rep.mono s1 _ _ rv⟩
theorem pi_seq {tg l : Expr} {tl : TE} (hl : PE X l tl) : PI X tg l (fun σ H R => tl σ H fun x H1 => ∃ a, x = .ref a ∧ (((∃ xs, SqL X.K H1 a xs) ∧ R (Itl X.K a) H1) ∨ ((∃ xs, SqT X.K H1 a xs) ∧ R (Itt X.K a) H1))) := by
  refine ⟨fun pins s σ H R I h => ?_⟩
  refine thn (hl.run pins s σ H _ I h) fun v s1 ⟨x, H1, I1, r1, q1⟩ => ?_
  obtain ⟨a, e, q⟩ := q1
  subst e
  cases r1
  rcases q with ⟨⟨xs, hq⟩, q⟩ | ⟨⟨xs, hq⟩, q⟩
  · obtain ⟨its, rv, p, hz⟩ := I1.list hq
    refine wpAny_pyIter_list p.isList ?_
    refine ⟨s1.heap.objs.size, [s1.heap.objs.size], _, _, H1, rfl, I1.kept (t' := s1.toks) fun b o e => Heap.get?_push_of_some _ e, turn_list a _, ⟨_, Heap.get?_push_size _ rfl, rfl, rfl⟩, fun b hb => ?_, q⟩
    have e : b = s1.heap.objs.size := by simpa using hb
    subst e
    exact I1.fpOk (Nat.le_refl _) (I1.hok.fresh (Nat.le_refl _))
  · obtain ⟨its, rv, p, hz⟩ := I1.tuple hq
    refine wpAny_pyIter_tuple (show s1.heap.IsTuple a its.toArray from p) ?_
    refine ⟨s1.heap.objs.size, [s1.heap.objs.size], _, _, H1, rfl, I1.kept (t' := s1.toks) fun b o e => Heap.get?_push_of_some _ e, turn_tuple a _, ⟨_, Heap.get?_push_size _ rfl, rfl, rfl⟩, fun b hb => ?_, q⟩
    have e : b = s1.heap.objs.size := by simpa using hb
    subst e
    exact I1.fpOk (Nat.le_refl _) (I1.hok.fresh (Nat.le_refl _))
theorem di_seq {tg l : Expr} (hl : PE X l (up X.K m te)) : PI X tg l (upI X.K m (diSeq te)) := PI.imp (pi_seq hl) fun σ H R h => by
  obtain ⟨F, ρ, s, Qd, r, ht, hQ⟩ := h
  refine ⟨F, ρ, s, _, r, ht, fun d ρ1 s1 v F1 H1 ⟨ds, e, q1⟩ r1 st1 rv => ?_⟩
  cases d with
  | lst es =>
    cases e
    obtain ⟨a, vs, rfl, h1, _, rs⟩ := rv
    exact ⟨a, rfl, .inl ⟨⟨vs, .inl (.inl (r1.sub _ _ h1))⟩, hQ _ ρ1 s1 _ F1 H1 q1 r1 st1 (walks_list (.inl (.inl h1)) rs)⟩⟩
  | tup es =>
    cases e
    obtain ⟨a, vs, rfl, h1, _, rs⟩ := rv
    exact ⟨a, rfl, .inr ⟨⟨vs, Same.seqT r1.sub h1⟩, hQ _ ρ1 s1 _ F1 H1 q1 r1 st1 (walks_tup h1 rs)⟩⟩
  | fz es =>
    cases e
    obtain ⟨a, vs, rfl, h1, _, rs⟩ := rv
    exact ⟨a, rfl, .inl ⟨⟨vs, Same.seq r1.sub h1⟩, hQ _ ρ1 s1 _ F1 H1 q1 r1 st1 (walks_list h1 rs)⟩⟩
  | _ => cases e
/-- lo, lo + 1, .. -/
def rngD (lo : Int) (n : Nat) : List D := (List.range n).map fun (i : Nat) => D.int (lo + (i : Int))
theorem rngD_length (lo : Int) (n : Nat) : (rngD lo n).length = n := by simp [rngD]
theorem walks_rng {K : PySem.W.Frag} {F : Hp} (lo : Int) (n : Nat) : Walks K F (Itr lo n) (rngD lo n) := fun F' H' s1 s2 => by
  refine ⟨fun i hi => by rw [rngD_length] at hi; exact hi, fun i d e => ?_⟩
  have hi : i < n := by
    have := (List.getElem?_eq_some_iff.mp e).1
    rw [rngD_length] at this; exact this
  refine ⟨hi, fun x H2 y => ?_⟩
  obtain ⟨e1, e2⟩ := y
  subst e1 e2
  refine ⟨F', Grow.refl s2, ?_⟩
  have e' : d = D.int (lo + (i : Int)) := by
    unfold rngD at e
    rw [List.getElem?_map, List.getElem?_range hi] at e
    exact (Option.some.inj e).symm
  subst e'
  rfl
def diR1 {m : Mem} (ta : DTA m) : DTI m := fun ρ s Q => ta ρ s fun ds ρ1 s1 => ∃ j : Int, ds = [.int j] ∧ -(2 ^ 62) ≤ j ∧ j < 2 ^ 62 ∧ Q (rngD 0 j.toNat) ρ1 s1
theorem di_range1 {tg a : Expr} {ta : DTA m} {p pos : Pos} (hg : Gl X "range") (hm : X.mg "range" = none) (ha : PA X [a] (upA X.K m ta)) (hs : starEach [a] X.env = [(false, eval a X.env)] := by rfl) : PI X tg (.Call (.Name "range" p) [a] [] pos) (upI X.K m (diR1 ta)) :=
  PI.imp (pi_range1 hg hm ha hs) fun σ H R h => by
    obtain ⟨F, ρ, s, Qd, r, ht, hQ⟩ := h
    refine ⟨F, ρ, s, _, r, ht, fun ds ρ1 s1 vs F1 H1 ⟨j, e, h1, h2, q1⟩ r1 st1 rs => ?_⟩
    subst e
    have e2 := reps_ints (ns := [j]) rs
    exact ⟨j, e2, h1, h2, hQ _ ρ1 s1 _ F1 H1 q1 r1 st1 (walks_rng 0 j.toNat)⟩
/-- a text, sign by sign -/
def chD (x : Str) : List D := x.cps.toList.map fun c => D.str ⟨#[c]⟩
def diStr {m : Mem} (te : DT m) : DTI m := fun ρ s Q => te ρ s fun d ρ1 s1 => ∃ x, d = .str x ∧ Q (chD x) ρ1 s1
theorem walks_str {K : PySem.W.Frag} {F : Hp} (x : Str) (hx : ∀ c ∈ x.cps.toList, c < 0x110000) : Walks K F (Its x) (chD x) := fun F' H' s1 s2 => by
  have hl : (chD x).length = x.cps.size := by simp [chD]
  refine ⟨fun i hi => by rw [hl] at hi; exact hi, fun i d e => ?_⟩
  have hi : i < x.cps.size := by
    have := (List.getElem?_eq_some_iff.mp e).1
    rw [hl] at this; exact this
  refine ⟨hi, fun y H2 q => ?_⟩
  obtain ⟨e1, c, e2, e3⟩ := q
  subst e1 e3
  refine ⟨F', Grow.refl s2, ?_⟩
  have e' : d = D.str ⟨#[c]⟩ := by
    unfold chD at e
    rw [List.getElem?_map, Array.getElem?_toList, e2] at e
    exact (Option.some.inj e).symm
  subst e'
  refine ⟨rfl, sOk_of (by show 1 ≤ strLim; decide) fun c' hc' => ?_⟩
  have hc2 : c' = c := by simpa using hc'
  subst hc2
  exact hx c' (by rw [← Array.getElem?_toList] at e2; exact List.mem_of_getElem? e2)
theorem di_str {tg l : Expr} (hl : PE X l (up X.K m te)) : PI X tg l (upI X.K m (diStr te)) := PI.imp (pi_str hl) fun σ H R h => by
  obtain ⟨F, ρ, s, Qd, r, ht, hQ⟩ := h
  refine ⟨F, ρ, s, _, r, ht, fun d ρ1 s1 v F1 H1 ⟨x, e, q1⟩ r1 st1 rv => ?_⟩
  subst e
  obtain ⟨rfl, hx⟩ := rv
  exact ⟨x, rfl, hQ _ ρ1 s1 _ F1 H1 q1 r1 st1 (walks_str x (sOk_cps hx))⟩
/-- for target in a walked thing: I says what holds when some are done -/
def dFor {m : Mem} (src : DTI m) (g : DG) (tb : DTS m) : DTS m := fun dd ρ s => src ρ s fun ds ρ1 s1 => ∃ I : List D → List Sl → m.S → Prop, I [] ρ1 s1 ∧
  (∀ pre x post ρ s, ds = pre ++ x :: post → I pre ρ s → g x ρ fun ρ2 => tb { dd with nx := I (pre ++ [x]), ct := I (pre ++ [x]), bk := dd.nx } ρ2 s) ∧ (∀ ρ s, I ds ρ s → dd.nx ρ s)
theorem for_core {K : PySem.W.Frag} {g : DG} {ts : List Nat} {tb : DTS m} {DD : Ends} {dd : DEnds m} {J : It} {σ : L2.St} {F0 F H : Hp} {ρ : List Sl} {s : m.S} {ds : List D} (r : Rel K m F H σ ρ s) (o : Own m E F H σ ρ s) (f : Fits K m E F0 dd DD) (h0 : Same F0 F) (hJ : Walks K F J ds)
    {I : List D → List Sl → m.S → Prop} (i0 : I [] ρ s) (turn : ∀ pre x post ρ s, ds = pre ++ x :: post → I pre ρ s → g x ρ fun ρ2 => tb { dd with nx := I (pre ++ [x]), ct := I (pre ++ [x]), bk := dd.nx } ρ2 s) (done : ∀ ρ s, I ds ρ s → dd.nx ρ s) :
    ∃ W : Nat → Nat → L2.St → Hp → Prop, (∃ m, W 0 m σ H) ∧ ∀ i n σ H, W i n σ H →
      (J.stop i H ∧ DD.nx σ H) ∨ (J.go i H ∧ ∃ N : L2.St → Hp → Prop, (∀ σ' H', N σ' H' → ∃ m', m' < n ∧ W (i + 1) m' σ' H') ∧ ∀ x H', J.yld i H x H' → upG K m ts g x σ H' fun σ2 H2 => upS K m E tb { DD with nx := N, ct := N, bk := DD.nx } σ2 H2) := by
  refine ⟨fun i n σ H => n = ds.length - i ∧ i ≤ ds.length ∧ ∃ F' ρ' s', Same F F' ∧ Rel K m F' H σ ρ' s' ∧ Own m E F' H σ ρ' s' ∧ I (ds.take i) ρ' s', ⟨ds.length, by simp, Nat.zero_le _, F, ρ, s, Same.refl F, r, o, by simpa using i0⟩, ?_⟩
  rintro i n σ1 H1 ⟨rfl, hi, F1, ρ1, s1, sm, r1, o1, hI⟩
  obtain ⟨hstop, hgo⟩ := hJ F1 H1 sm r1.sub
  by_cases hlt : i < ds.length
  · obtain ⟨h1, h2⟩ := hgo i _ (List.getElem?_eq_getElem hlt)
    refine .inr ⟨h1, fun σ' H' => ∃ F' ρ' s', Same F F' ∧ Rel K m F' H' σ' ρ' s' ∧ Own m E F' H' σ' ρ' s' ∧ I (ds.take (i + 1)) ρ' s', fun σ' H' ⟨F', ρ', s', q1, q2, q3, q4⟩ => ⟨ds.length - (i + 1), by omega, rfl, hlt, F', ρ', s', q1, q2, q3, q4⟩, fun x H' y => ?_⟩
    obtain ⟨F2, g2, rv⟩ := h2 x H' y
    have hsplit : ds = ds.take i ++ ds[i] :: ds.drop (i + 1) := by
      rw [List.getElem_cons_drop, List.take_append_drop]
    have etake : ds.take (i + 1) = ds.take i ++ [ds[i]] := List.take_succ_eq_append_getElem hlt
    have o2 := o1.stp (g2.stp (m := m) (s := s1) (ρ := ρ1) (σ := σ1))
    refine ⟨F2, ρ1, s1, ds[i], _, r1.grow g2, rv, turn _ _ _ _ _ hsplit hI, fun σ2 ρ2 q2 r2 o3 _ => ⟨F2, ρ2, s1, _, r2, o2.tgt o3, q2, ?_⟩⟩
    have fit : ∀ F' H' σ' ρ' s', Same F2 F' → Rel K m F' H' σ' ρ' s' → Own m E F' H' σ' ρ' s' → I (ds.take i ++ [ds[i]]) ρ' s' → ∃ F'' ρ'' s'', Same F F'' ∧ Rel K m F'' H' σ' ρ'' s'' ∧ Own m E F'' H' σ' ρ'' s'' ∧ I (ds.take (i + 1)) ρ'' s'' :=
      fun F' H' σ' ρ' s' a b c d => ⟨F', ρ', s', (sm.trans g2.fF).trans a, b, c, by rw [etake]; exact d⟩
    have f1 := f.mono ((h0.trans sm).trans g2.fF)
    exact ⟨fit, f1.rt, f1.nx, fit, f1.ex⟩
  · have e : i = ds.length := by omega
    subst e
    rw [List.take_length] at hI
    exact .inl ⟨hstop _ (Nat.le_refl _), f.nx F1 H1 σ1 ρ1 s1 (h0.trans sm) r1 o1 (done _ _ hI)⟩
theorem ds_for {tg iter : Expr} {body : List Stmt} {src : DTI m} {g : DG} {ts : List Nat} {tb : DTS m} (hc : X.calm = true) (hi : PI X tg iter (upI X.K m src)) (hg : PG X tg (upG X.K m ts g)) (hb : PSs X body (upS X.K m E tb)) (hp : PassesOwn (model X.prog X.w) X.A X.env X.xe := by exact PassesOwn.never)
    (hs : ∀ x, foldedSetIterable iter X.env x = pure x := by intro _; rfl) : PS X (.For tg iter body [] pos) (upS X.K m E (dFor src g tb)) := PS.imp (ps_for hp hc hi hg hb hs) fun DD σ H h => by
  obtain ⟨F, ρ, s, dd, r, o, ht, f⟩ := h
  exact ⟨F, ρ, s, _, r, ht, fun ds ρ1 s1 J F1 H1 ⟨I, i0, turn, done⟩ r1 st1 w => for_core r1 (o.stp st1) f st1.ext w i0 turn done⟩
/-- while: I by a number that falls -/
def dWhile {m : Mem} (c : DTT m) (tb : DTS m) : DTS m := fun dd ρ s => ∃ I : Nat → List Sl → m.S → Prop, (∃ n, I n ρ s) ∧ ∀ n ρ s, I n ρ s → c ρ s fun b ρ1 s1 => ifB b (tb { dd with nx := fun ρ' s' => ∃ n', n' < n ∧ I n' ρ' s', ct := fun ρ' s' => ∃ n', n' < n ∧ I n' ρ' s', bk := dd.nx } ρ1 s1) (dd.nx ρ1 s1)
theorem ds_while {c : Expr} {body : List Stmt} {tc : DTT m} {tb : DTS m} (hc : PT X c (upT X.K m tc)) (hb : PSs X body (upS X.K m E tb)) (hp : PassesOwn (model X.prog X.w) X.A X.env X.xe := by exact PassesOwn.never) : PS X (.While c body [] pos) (upS X.K m E (dWhile tc tb)) := PS.imp (ps_while hp hc hb) fun DD σ H h => by
  obtain ⟨F, ρ, s, dd, r, o, ⟨I, ⟨n0, i0⟩, turn⟩, f⟩ := h
  refine ⟨fun n σ H => ∃ F' ρ' s', Same F F' ∧ Rel X.K m F' H σ ρ' s' ∧ Own m E F' H σ ρ' s' ∧ I n ρ' s', ⟨n0, F, ρ, s, Same.refl F, r, o, i0⟩, ?_⟩
  rintro n σ1 H1 ⟨F1, ρ1, s1, sm, r1, o1, hI⟩
  refine ⟨F1, ρ1, s1, _, r1, turn n ρ1 s1 hI, fun b ρ2 s2 F2 H2 q2 r2 st2 => ?_⟩
  have f2 := f.mono (sm.trans st2.ext)
  cases b with
  | false => exact f2.nx F2 H2 σ1 ρ2 s2 (Same.refl _) r2 (o1.stp st2) (ifB_f q2)
  | true =>
    have q2 := ifB_t q2
    refine ⟨fun σ' H' => ∃ n', n' < n ∧ ∃ F' ρ' s', Same F F' ∧ Rel X.K m F' H' σ' ρ' s' ∧ Own m E F' H' σ' ρ' s' ∧ I n' ρ' s', fun σ' H' q => q, F2, ρ2, s2, _, r2, o1.stp st2, q2, ?_⟩
    have fit : ∀ F' H' σ' ρ' s', Same F2 F' → Rel X.K m F' H' σ' ρ' s' → Own m E F' H' σ' ρ' s' → (∃ n', n' < n ∧ I n' ρ' s') → ∃ n', n' < n ∧ ∃ F'' ρ'' s'', Same F F'' ∧ Rel X.K m F'' H' σ' ρ'' s'' ∧ Own m E F'' H' σ' ρ'' s'' ∧ I n' ρ'' s'' :=
      fun F' H' σ' ρ' s' a b c ⟨n', h1, h2⟩ => ⟨n', h1, F', ρ', s', (sm.trans st2.ext).trans a, b, c, h2⟩
    exact ⟨fit, f2.rt, f2.nx, fit, f2.ex⟩
end
end DL

set_option Elab.async false
set_option linter.all false
set_option maxRecDepth 100000
namespace DL
open PySem PySem.Spec PyProof.Rows L2

/-! ### comprehensions -/
section
variable {X : Cx} {m : Mem}
/-- from an inner state (the same heaps, other slots) the outer one is carried along -/
theorem Rel.carry {K : PySem.W.Frag} {F H F' H' : Hp} {σ σ2 : L2.St} {ρ ρ2 : List Sl} {s s' : m.S} (r : Rel K m F H σ ρ s) (st : Stp m F H σ2 ρ2 s F' H' ρ2 s') (r2 : Rel K m F' H' σ2 ρ2 s') : Rel K m F' H' σ ρ s' where
  sub := r2.sub
  mem := r2.mem
  reg := r2.reg
  len := r.len
  sh := fun i d e => by
    obtain ⟨v, h1, h2⟩ := r.sh i d e
    exact ⟨v, h1, Rep.mono st.ext _ _ h2⟩
  ow := fun i o e => by
    obtain ⟨p, ho, h1, h2, h3, h4, h5⟩ := r.own_at e
    exact ⟨p, ho, h1, st.keep p ho h2 h5, h3.mono st.ext⟩
  owF := fun i p h => by
    obtain ⟨⟨o, e⟩, hσ⟩ := id h
    obtain ⟨p', ho, h1, h2, h3, h4, h5⟩ := r.own_at e
    rw [hσ] at h1; cases h1
    refine ⟨?_, fun z => ?_⟩
    · cases q : F' p with
      | none => rfl
      | some u =>
        rcases st.fresh p u q with z | z | ⟨j, z⟩
        · rw [h4] at z; cases z
        · rw [z] at h2; cases h2
        · rw [(r2.owF j p z).1] at q; cases q
    · rcases st.regf p z with z | z
      · exact h5 z
      · rw [z] at h2; cases h2
  uq := r.uq
/-- an object that is known to nobody stays so -/
theorem Stp.hid {F H F' H' : Hp} {K : PySem.W.Frag} {σ2 : L2.St} {ρ2 : List Sl} {s s' : m.S} (st : Stp m F H σ2 ρ2 s F' H' ρ2 s') (r2 : Rel K m F' H' σ2 ρ2 s') {p : Addr} {ho : HO} (h : H p = some ho) (n : F p = none) (nr : ¬ m.R s p) : H' p = some ho ∧ F' p = none ∧ ¬ m.R s' p := by
  refine ⟨st.keep p ho h nr, ?_, fun z => ?_⟩
  · cases q : F' p with
    | none => rfl
    | some u =>
      rcases st.fresh p u q with z | z | ⟨j, z⟩
      · rw [n] at z; cases z
      · rw [z] at h; cases h
      · rw [(r2.owF j p z).1] at q; cases q
  · rcases st.regf p z with z | z
    · exact nr z
    · rw [z] at h; cases h
/-- the block's own names forgotten -/
def wipeD (ρ : List Sl) : List Nat → List Sl
  | [] => ρ
  | v :: vs => (wipeD ρ vs).set v .no
theorem wipeD_length (ρ : List Sl) : ∀ vs : List Nat, (wipeD ρ vs).length = ρ.length
  | [] => rfl
  | v :: vs => by unfold wipeD; rw [List.length_set, wipeD_length ρ vs]
theorem wipeD_some {ρ : List Sl} {i : Nat} {x : Sl} (hx : x ≠ .no) : ∀ {vs : List Nat}, (wipeD ρ vs)[i]? = some x → ρ[i]? = some x ∧ i ∉ vs
  | [], h => ⟨h, by simp⟩
  | v :: vs, h => by
    unfold wipeD at h
    by_cases hi : v = i
    · subst hi
      by_cases hv : v < (wipeD ρ vs).length
      · rw [List.getElem?_set_self hv] at h
        exact absurd (Option.some.inj h).symm hx
      · rw [List.getElem?_eq_none (by simpa using hv)] at h; cases h
    · rw [List.getElem?_set_ne hi] at h
      obtain ⟨h1, h2⟩ := wipeD_some hx h
      exact ⟨h1, by simp only [List.mem_cons, not_or]; exact ⟨fun e => hi e.symm, h2⟩⟩
theorem wipe_get {σ : L2.St} {i : Nat} : ∀ {vs : List Nat}, i ∉ vs → (wipe σ vs)[i]? = σ[i]?
  | [], _ => rfl
  | v :: vs, h => by
    have h1 : v ≠ i := fun e => h (by rw [e]; exact List.mem_cons_self)
    have h2 : i ∉ vs := fun m => h (List.mem_cons_of_mem _ m)
    unfold wipe
    rw [List.getElem?_set_ne h1]
    exact wipe_get h2
theorem wipe_in {σ : L2.St} {i : Nat} : ∀ {vs : List Nat}, i ∈ vs → i < σ.length → (wipe σ vs)[i]? = some none
  | [], h, _ => by cases h
  | v :: vs, h, hi => by
    unfold wipe
    by_cases e : v = i
    · subst e
      exact List.getElem?_set_self (by rw [wipe_length]; exact hi)
    · rw [List.getElem?_set_ne e]
      exact wipe_in ((List.mem_cons.mp h).resolve_left (Ne.symm e)) hi
theorem wipe_eq {σ σ' : L2.St} {vs ts : List Nat} (hl : σ'.length = σ.length) (h : ∀ j, j ∉ ts → σ'[j]? = σ[j]?) (hs : ∀ j ∈ ts, j ∈ vs) : wipe σ' vs = wipe σ vs := by
  refine List.ext_getElem? fun i => ?_
  by_cases hi : i ∈ vs
  · by_cases hlt : i < σ.length
    · rw [wipe_in hi (by omega), wipe_in hi hlt]
    · rw [List.getElem?_eq_none (by rw [wipe_length]; omega), List.getElem?_eq_none (by rw [wipe_length]; omega)]
  · rw [wipe_get hi, wipe_get hi]
    exact h i fun z => hi (hs i z)
theorem Rel.wipe {K : PySem.W.Frag} {F H : Hp} {σ : L2.St} {ρ : List Sl} {s : m.S} (r : Rel K m F H σ ρ s) (vs : List Nat) : Rel K m F H (L2.wipe σ vs) (wipeD ρ vs) s := by
  have back : ∀ i p, Owns (L2.wipe σ vs) (wipeD ρ vs) i p → Owns σ ρ i p := fun i p ⟨⟨o, h1⟩, h2⟩ => by
    obtain ⟨e1, n⟩ := wipeD_some (by intro z; cases z) h1
    rw [wipe_get n] at h2
    exact ⟨⟨o, e1⟩, h2⟩
  refine ⟨r.sub, r.mem, r.reg, by rw [wipe_length, wipeD_length]; exact r.len, fun i d e => ?_, fun i o e => ?_, fun i p h => r.owF i p (back i p h), fun i j p h1 h2 => r.uq i j p (back i p h1) (back j p h2)⟩
  · obtain ⟨e1, n⟩ := wipeD_some (by intro z; cases z) e
    obtain ⟨v, h1, h2⟩ := r.sh i d e1
    exact ⟨v, by rw [wipe_get n]; exact h1, h2⟩
  · obtain ⟨e1, n⟩ := wipeD_some (by intro z; cases z) e
    obtain ⟨p, ho, h1, h2, h3⟩ := r.ow i o e1
    exact ⟨p, ho, by rw [wipe_get n]; exact h1, h2, h3⟩

theorem wipe_wipe {σ : L2.St} {vs : List Nat} : wipe (wipe σ vs) vs = wipe σ vs := by
  refine List.ext_getElem? fun i => ?_
  by_cases hi : i ∈ vs
  · by_cases hlt : i < σ.length
    · rw [wipe_in hi (by rw [wipe_length]; exact hlt), wipe_in hi hlt]
    · rw [List.getElem?_eq_none (by rw [wipe_length, wipe_length]; omega), List.getElem?_eq_none (by rw [wipe_length]; omega)]
  · rw [wipe_get hi]
/-- an inner step is one for the outer slots, too -/
theorem Stp.outer {K : PySem.W.Frag} {F H F' H' : Hp} {σ σ2 : L2.St} {ρ ρ2 : List Sl} {s s' : m.S} (st : Stp m F H σ2 ρ2 s F' H' ρ2 s') (r2 : Rel K m F' H' σ2 ρ2 s') : Stp m F H σ ρ s F' H' ρ s' :=
  ⟨st.ext, st.keep, st.alive, fun a o h => by
    rcases st.fresh a o h with z | z | ⟨j, z⟩
    · exact .inl z
    · exact .inr (.inl z)
    · have z' := (r2.owF j a z).1
      rw [h] at z'
      exact absurd z' (by simp), st.regf, fun _ _ h => h⟩
/-- a hidden object is written -/
theorem Rel.hidW {K : PySem.W.Frag} {F H : Hp} {σ : L2.St} {ρ : List Sl} {s : m.S} (r : Rel K m F H σ ρ s) {p : Addr} {ho : HO} (n : F p = none) (nr : ¬ m.R s p) (no : ∀ i, ¬ Owns σ ρ i p) : Rel K m F (upd H p ho) σ ρ s := by
  refine ⟨fun b x e => ?_, m.loc s H _ r.mem fun a ha => upd_ne fun z => nr (z ▸ ha), r.reg, r.len, r.sh, fun i o e => ?_, r.owF, r.uq⟩
  · rw [upd_ne (ne_of_none e n)]; exact r.sub _ _ e
  · obtain ⟨q, ho', h1, h2, h3⟩ := r.ow i o e
    have hq : q ≠ p := fun z => no i (z ▸ ⟨⟨o, e⟩, h1⟩)
    exact ⟨q, ho', h1, by rw [upd_ne hq]; exact h2, h3⟩
theorem Stp.hidW {F H F' H' : Hp} {σ : L2.St} {ρ ρ' : List Sl} {s s' : m.S} (st : Stp m F H σ ρ s F' H' ρ' s') {p : Addr} {ho : HO} (n : H p = none) : Stp m F H σ ρ s F' (upd H' p ho) ρ' s' :=
  ⟨st.ext, fun a o h nr => by rw [upd_ne (ne_of_none h n)]; exact st.keep a o h nr, fun a h => by
    by_cases e : a = p
    · subst e; rw [upd_same]; simp
    · rw [upd_ne e]; exact st.alive a h, st.fresh, st.regf, st.shr⟩

abbrev dYes {m : Mem} : DTT m := fun ρ s Q => Q true ρ s
theorem PTs.imp {ifs : List Expr} {t t' : TT} (h : PTs X ifs t) (w : ∀ σ H Q, t' σ H Q → t σ H Q) : PTs X ifs t' := ⟨fun pins s σ H Q I q => h.run pins s σ H Q I (w σ H Q q)⟩
theorem dts_nil : PTs X [] (upT X.K m dYes) := PTs.imp pts_nil fun σ H Q h => by
  obtain ⟨F, ρ, s, Qd, r, ht, hQ⟩ := h
  exact hQ true ρ s F H ht r Stp.refl
theorem dts_one {c : Expr} {t : DTT m} (h : PT X c (upT X.K m t)) : PTs X [c] (upT X.K m t) := pts_one h
/-- [e for target in source if test], the source's items known: I says what list has been made of those that are done -/
def lcK {m : Mem} (g : DG) (tt : DTT m) (te : DT m) (vs : List Nat) (Q : DK m) : List D → List Sl → m.S → Prop := fun ds ρ1 s1 => ds.length ≤ sizeLine ∧ ∃ I : List D → List D → m.S → Prop, I [] [] s1 ∧
  (∀ pre x post acc s, ds = pre ++ x :: post → acc.length ≤ pre.length → I pre acc s → g x (wipeD ρ1 vs) fun ρ2 => tt ρ2 s fun b ρ3 s3 => ρ3 = ρ2 ∧ ifB b (te ρ2 s3 fun y ρ4 s4 => ρ4 = ρ2 ∧ I (pre ++ [x]) (acc ++ [y]) s4) (I (pre ++ [x]) acc s3)) ∧
  (∀ acc s, acc.length ≤ ds.length → I ds acc s → Q (.lst acc) ρ1 s)
/-- [e for target in source if test] -/
def dLc {m : Mem} (src : DTI m) (g : DG) (tt : DTT m) (te : DT m) (vs : List Nat) : DT m := fun ρ s Q => src ρ s (lcK g tt te vs Q)
theorem up_lc {K : PySem.W.Frag} {src : DTI m} {g : DG} {tt : DTT m} {te : DT m} {vs ts : List Nat} (hts : ∀ j ∈ ts, j ∈ vs) {σ : L2.St} {H : Hp} {Q : VK} {Qd : DK m} {F : Hp} {ρ : List Sl} {s : m.S} (r : Rel K m F H σ ρ s) (ht : dLc src g tt te vs ρ s Qd)
    (hQ : ∀ ds ρ' s' p ws F' H', Qd (.lst ds) ρ' s' → Rel K m F' H' σ ρ' s' → Stp m F H σ ρ s F' H' ρ' s' → H' p = some (.lst ws) → F' p = none → ¬ m.R s' p → (∀ i, ¬ Owns σ ρ' i p) → H p = none → ws.length ≤ sizeLine → Reps K F' ds ws → Q (.ref p) H') :
    tLc (upI K m src) (upG K m ts g) (upT K m tt) (up K m te) vs σ H Q := by
  refine ⟨F, ρ, s, _, r, ht, fun ds ρ1 s1 J F1 H1 ⟨hz, I, i0, turn, done⟩ r1 st1 w D nD => ?_⟩
  have nF : F1 D = none := r1.sub.free nD
  have nR : ¬ m.R s1 D := fun z => m.there s1 H1 D r1.mem z nD
  have nO : ∀ i, ¬ Owns σ ρ1 i D := fun i ⟨⟨o, e⟩, hσ⟩ => by
    obtain ⟨p, ho, h1, h2, _⟩ := r1.own_at e
    rw [hσ] at h1; cases h1
    rw [nD] at h2; cases h2
  have nD0 : H D = none := by
    cases q : H D with
    | none => rfl
    | some u => exact absurd nD (st1.alive D (by rw [q]; simp))
  -- the start: the new list at D
  have r0 : Rel K m F1 (upd H1 D (.lst [])) σ ρ1 s1 := by
    refine ⟨fun b x e => ?_, m.loc s1 H1 _ r1.mem fun a ha => upd_ne fun z => nR (z ▸ ha), r1.reg, r1.len, r1.sh, fun i o e => ?_, r1.owF, r1.uq⟩
    · rw [upd_ne (ne_of_none e nF)]; exact r1.sub _ _ e
    · obtain ⟨p, ho, h1, h2, h3⟩ := r1.ow i o e
      exact ⟨p, ho, h1, by rw [upd_ne (ne_of_none h2 nD)]; exact h2, h3⟩
  have st0 : Stp m F H σ ρ s F1 (upd H1 D (.lst [])) ρ1 s1 :=
    ⟨st1.ext, fun a o h n => by rw [upd_ne (ne_of_none h nD0)]; exact st1.keep a o h n, fun a h => by
      by_cases e : a = D
      · subst e; rw [upd_same]; simp
      · rw [upd_ne e]; exact st1.alive a h, st1.fresh, st1.regf, st1.shr⟩
  refine ⟨fun i n H2 => n = ds.length - i ∧ i ≤ ds.length ∧ ∃ F2 s2 acc ws, Rel K m F2 H2 σ ρ1 s2 ∧ Stp m F H σ ρ s F2 H2 ρ1 s2 ∧ Same F1 F2 ∧ H2 D = some (.lst ws) ∧ F2 D = none ∧ ¬ m.R s2 D ∧ Reps K F2 acc ws ∧ acc.length ≤ i ∧ I (ds.take i) acc s2,
    ⟨ds.length, by simp, Nat.zero_le _, F1, s1, [], [], r0, st0, Same.refl _, upd_same, nF, nR, .nil, Nat.le_refl _, by simpa using i0⟩, ?_⟩
  rintro i n H2 ⟨rfl, hi, F2, s2, acc, ws, r2, st2, sm, hD, nF2, nR2, rs, hacc, hI⟩
  obtain ⟨hstop, hgo⟩ := w F2 H2 sm r2.sub
  by_cases hlt : i < ds.length
  · obtain ⟨h1, h2⟩ := hgo i _ (List.getElem?_eq_getElem hlt)
    have hsplit : ds = ds.take i ++ ds[i] :: ds.drop (i + 1) := by
      rw [List.getElem_cons_drop, List.take_append_drop]
    have etake : ds.take (i + 1) = ds.take i ++ [ds[i]] := List.take_succ_eq_append_getElem hlt
    refine .inr ⟨h1, fun H' => ∃ F' s' acc' ws', Rel K m F' H' σ ρ1 s' ∧ Stp m F H σ ρ s F' H' ρ1 s' ∧ Same F1 F' ∧ H' D = some (.lst ws') ∧ F' D = none ∧ ¬ m.R s' D ∧ Reps K F' acc' ws' ∧ acc'.length ≤ i + 1 ∧ I (ds.take (i + 1)) acc' s',
      fun H' ⟨F', s', acc', ws', q⟩ => ⟨ds.length - (i + 1), by omega, rfl, hlt, F', s', acc', ws', q⟩, fun x H3 y => ?_⟩
    obtain ⟨F3, g3, rv⟩ := h2 x H3 y
    have r3 := r2.grow g3
    have hD3 : H3 D = some (.lst ws) := g3.hH _ _ hD
    have nF3 : F3 D = none := by
      cases q : F3 D with
      | none => rfl
      | some u =>
        rcases g3.fresh D u q with z | z
        · rw [nF2] at z; cases z
        · rw [z] at hD; cases hD
    have st3 := st2.trans (g3.stp (m := m) (s := s2) (ρ := ρ1) (σ := σ))
    have htk : (ds.take i).length = i := by rw [List.length_take]; omega
    refine ⟨F3, wipeD ρ1 vs, s2, ds[i], _, r3.wipe vs, rv, turn _ _ _ acc _ hsplit (by omega) hI, fun σ2 ρ2 q2 r4 o4 k4 => ⟨(wipe_eq k4.1 k4.2 hts).trans wipe_wipe, ?_⟩⟩
    refine ⟨F3, ρ2, s2, _, r4, q2, fun b ρ3 s3 F4 H4 ⟨e, q3⟩ r5 st5 => ?_⟩
    subst e
    obtain ⟨hD4, nF4, nR4⟩ := st5.hid r5 hD3 nF3 nR2
    have r6 := r3.carry st5 r5
    have st6 := st3.trans (st5.outer (σ := σ) (ρ := ρ1) r5)
    have sm4 : Same F1 F4 := (sm.trans g3.fF).trans st5.ext
    have rs4 := Reps.mono (g3.fF.trans st5.ext) _ _ rs
    have hlw := rs.length
    cases b with
    | false =>
      have q3 := ifB_f q3
      exact iteF ⟨F4, s3, acc, ws, r6, st6, sm4, hD4, nF4, nR4, rs4, by omega, by rw [etake]; exact q3⟩
    | true =>
      have q3 := ifB_t q3
      refine iteT ⟨F4, ρ3, s3, _, r5, q3, fun y ρ4 s4 v F5 H5 ⟨e, q4⟩ r7 st7 rvy => ?_⟩
      subst e
      obtain ⟨hD5, nF5, nR5⟩ := st7.hid r7 hD4 nF4 nR4
      have r8 := r6.carry st7 r7
      have st8 := st6.trans (st7.outer (σ := σ) (ρ := ρ1) r7)
      refine ⟨ws, hD5, by omega, F5, s4, acc ++ [y], ws ++ [v], r8.hidW nF5 nR5 nO, st8.hidW nD0, sm4.trans st7.ext, upd_same, nF5, nR5, (Reps.mono st7.ext _ _ rs4).append (.one rvy), by rw [List.length_append]; simp; omega, by rw [etake]; exact q4⟩
  · have e : i = ds.length := by omega
    subst e
    rw [List.take_length] at hI
    exact .inl ⟨hstop _ (Nat.le_refl _), hQ acc ρ1 s2 D ws F2 H2 (done acc s2 (by omega) hI) r2 st2 hD nF2 nR2 nO nD0 (by rw [rs.length]; omega) rs⟩
theorem de_lc {elt tg iter : Expr} {ifs : List Expr} {scope : Scope} {own : List (Str × Nat)} {pos : Pos} {src : DTI m} {g : DG} {ts : List Nat} {tt : DTT m} {te : DT m} (hN : X.N.Nodup) (hi : PI X tg iter (upI X.K m src)) (ok : BlkOk X.N X.env.scope scope own)
    (hg : ∀ (s : Shared) (H : Hp) (C : Addr) (cl : List (Str × Addr)) (fp : List Addr), PG (X.blk s H scope (compEnvC scope cl C X.env) fp) tg (upG X.K m ts g)) (ht : ∀ (s : Shared) (H : Hp) (C : Addr) (cl : List (Str × Addr)) (fp : List Addr), PTs (X.blk s H scope (compEnvC scope cl C X.env) fp) ifs (upT X.K m tt))
    (he : ∀ (s : Shared) (H : Hp) (C : Addr) (cl : List (Str × Addr)) (fp : List Addr), PE (X.blk s H scope (compEnvC scope cl C X.env) fp) elt (up X.K m te)) (hts : ∀ j ∈ ts, j ∈ own.map (·.2) := by decide) (hc : X.calm = true := by rfl) (hs : ∀ x, foldedSetIterable iter X.env x = pure x := by intro _; rfl) :
    PE X (.ListComp elt [⟨tg, iter, ifs, 0⟩] scope pos) (up X.K m (dLc src g tt te (own.map (·.2)))) := PE.imp (pe_lc hc hN hi ok hg ht he hs) fun σ H Q h => by
  obtain ⟨F, ρ, s, Qd, r, h, hQ⟩ := h
  refine up_lc hts r h fun ds ρ' s' p ws F' H' q r' st hp nF nR nO nH hz rs => ?_
  have sm : Same F' (upd F' p (.lst ws)) := same_upd nF
  refine hQ _ ρ' s' _ (upd F' p (.lst ws)) H' q (r'.adopt hp nF nR nO) ⟨st.ext.trans sm, st.keep, st.alive, fun a o e => ?_, st.regf, st.shr⟩ ⟨p, ws, rfl, upd_same, hz, Reps.mono sm _ _ rs⟩
  by_cases ha : a = p
  · subst ha; exact .inr (.inl nH)
  · rw [upd_ne ha] at e; exact st.fresh a o e
variable {E : Ent m}
/-- .. a list that this def will change -/
def dSetLcO {m : Mem} (i : Nat) (src : DTI m) (g : DG) (tt : DTT m) (te : DT m) (vs : List Nat) : DTS m := fun dd ρ s => dLc src g tt te vs ρ s fun d ρ1 s1 => ∃ ds, d = .lst ds ∧ dd.nx (ρ1.set i (.ow (.lst ds))) s1
theorem ds_setLcO (i : Nat) {y : Str} {py : Pos} {elt tg iter : Expr} {ifs : List Expr} {scope : Scope} {own : List (Str × Nat)} {pos spos : Pos} {src : DTI m} {g : DG} {ts : List Nat} {tt : DTT m} {te : DT m} (hN : X.N.Nodup) (hi : PI X tg iter (upI X.K m src)) (ok : BlkOk X.N X.env.scope scope own)
    (hg : ∀ (s : Shared) (H : Hp) (C : Addr) (cl : List (Str × Addr)) (fp : List Addr), PG (X.blk s H scope (compEnvC scope cl C X.env) fp) tg (upG X.K m ts g)) (ht : ∀ (s : Shared) (H : Hp) (C : Addr) (cl : List (Str × Addr)) (fp : List Addr), PTs (X.blk s H scope (compEnvC scope cl C X.env) fp) ifs (upT X.K m tt))
    (he : ∀ (s : Shared) (H : Hp) (C : Addr) (cl : List (Str × Addr)) (fp : List Addr), PE (X.blk s H scope (compEnvC scope cl C X.env) fp) elt (up X.K m te)) (hy : X.N[i]? = some y := by rfl) (hyl : X.env.scope.names.lookup y = some .local := by rfl)
    (hsw : swapsWith (.ListComp elt [⟨tg, iter, ifs, 0⟩] scope pos) (some (.Name y py)) spos.line X.env = pure true := by exact sw_true rfl rfl rfl (by decide +kernel)) (hts : ∀ j ∈ ts, j ∈ own.map (·.2) := by decide) (hc : X.calm = true := by rfl) (hs : ∀ x, foldedSetIterable iter X.env x = pure x := by intro _; rfl) :
    PS X (.Assign [.Name y py] (.ListComp elt [⟨tg, iter, ifs, 0⟩] scope pos) spos) (upS X.K m E (dSetLcO i src g tt te (own.map (·.2)))) := PS.imp (ps_setLc hc hN hy hyl hsw hi ok hg ht he hs) fun DD σ H h => by
  obtain ⟨F, ρ, s, dd, r, o, h, f⟩ := h
  refine up_lc hts r h fun ds ρ' s' p ws F' H' ⟨es, e, q⟩ r' st hp nF nR nO nH hz rs => ?_
  cases e
  have o' := o.stp st
  have eH : E.H p = none := by
    cases q : E.H p with
    | none => rfl
    | some u => exact absurd nH (o.alive p (by rw [q]; simp))
  have other : ∀ (j : Nat) q, i ≠ j → Owns (σ.set i (some (.ref p))) (ρ'.set i (.ow (.lst ds))) j q → Owns σ ρ' j q := fun j q hj ⟨⟨o', h1⟩, h2⟩ => by
    rw [List.getElem?_set_ne hj] at h1 h2; exact ⟨⟨o', h1⟩, h2⟩
  have self : ∀ q, Owns (σ.set i (some (.ref p))) (ρ'.set i (.ow (.lst ds))) i q → q = p := fun q ⟨⟨o', h1⟩, h2⟩ => by
    have hi : i < σ.length := by
      have := (List.getElem?_eq_some_iff.mp h2).1
      rw [List.length_set] at this; exact this
    rw [List.getElem?_set_self hi] at h2
    cases h2; rfl
  refine f.nx F' H' _ _ s' st.ext ⟨r'.sub, r'.mem, r'.reg, by rw [List.length_set, List.length_set]; exact r'.len, fun j d' z => ?_, fun j o' z => ?_, fun j q z => ?_, fun j k q h1 h2 => ?_⟩ ⟨o'.ext, o'.keep, o'.alive, o'.fresh, o'.regf, fun j q z => ?_⟩ q
  · by_cases hj : i = j
    · subst hj
      have hi : i < ρ'.length := by
        have := (List.getElem?_eq_some_iff.mp z).1
        rw [List.length_set] at this; exact this
      rw [List.getElem?_set_self hi] at z
      cases z
    · rw [List.getElem?_set_ne hj] at z
      obtain ⟨w, h1, h2⟩ := r'.sh j d' z
      exact ⟨w, by rw [List.getElem?_set_ne hj]; exact h1, h2⟩
  · by_cases hj : i = j
    · subst hj
      have hi : i < ρ'.length := by
        have := (List.getElem?_eq_some_iff.mp z).1
        rw [List.length_set] at this; exact this
      rw [List.getElem?_set_self hi] at z
      cases z
      exact ⟨p, _, List.getElem?_set_self (by rw [r'.len]; exact hi), hp, ws, rfl, hz, rs⟩
    · rw [List.getElem?_set_ne hj] at z
      obtain ⟨q, ho', h1, h2, h3⟩ := r'.ow j o' z
      exact ⟨q, ho', by rw [List.getElem?_set_ne hj]; exact h1, h2, h3⟩
  · by_cases hj : i = j
    · subst hj
      rw [self q z]; exact ⟨nF, nR⟩
    · exact r'.owF j q (other j q hj z)
  · by_cases hj : i = j
    · subst hj
      by_cases hk : i = k
      · exact hk
      · exact absurd ((self q h1) ▸ other k q hk h2) (nO k)
    · by_cases hk : i = k
      · subst hk
        exact absurd ((self q h2) ▸ other j q hj h1) (nO j)
      · exact r'.uq j k q (other j q hj h1) (other k q hk h2)
  · by_cases hj : i = j
    · subst hj
      rw [self q z]; exact eH
    · exact o'.own j q (other j q hj z)
end

/-! ### a def -/
/-- the slots at a def's entry -/
def startD (N : List Str) (ds : List D) : List Sl := ds.map .sh ++ List.replicate (N.length - ds.length) .no
section
variable {P : Program} {w : World} {K : PySem.W.Frag} {mg : Str → Option Value} {base : Heap} {m : Mem}
theorem rel_start {F H : Hp} {s : m.S} {N : List Str} {ds : List D} {vs : List V} (sub : Same F H) (hm : m.M s H) (hr : ∀ a, m.R s a → F a = none) (rs : Reps K F ds vs) : Rel K m F H (L2.start N vs) (startD N ds) s := by
  have hl := rs.length
  have no : ∀ (i : Nat) o, (startD N ds)[i]? ≠ some (Sl.ow o) := fun i o e => by
    unfold startD at e
    by_cases hi : i < ds.length
    · rw [List.getElem?_append_left (by simpa using hi), List.getElem?_map, List.getElem?_eq_getElem hi] at e; cases e
    · rw [List.getElem?_append_right (by simpa using hi), List.getElem?_replicate] at e
      split at e <;> cases e
  refine ⟨sub, hm, hr, by unfold L2.start startD; simp [hl], fun i d e => ?_, fun i o e => absurd e (no i o), fun i p ⟨⟨o, e⟩, _⟩ => absurd e (no i o), fun i j p ⟨⟨o, e⟩, _⟩ _ => absurd e (no i o)⟩
  unfold startD at e
  by_cases hi : i < ds.length
  · rw [List.getElem?_append_left (by simpa using hi), List.getElem?_map, List.getElem?_eq_getElem hi] at e
    cases e
    obtain ⟨v, h1, h2⟩ := rs.get (List.getElem?_eq_getElem hi)
    refine ⟨v, ?_, h2⟩
    unfold L2.start
    rw [List.getElem?_append_left (by simp; omega), List.getElem?_map, h1]
    rfl
  · rw [List.getElem?_append_right (by simpa using hi), List.getElem?_replicate] at e
    split at e <;> cases e
/-- what a def's body is to reach -/
abbrev endsOf {m : Mem} (Qd : D → m.S → Prop) : DEnds m := { nx := fun _ s' => Qd .non s', rt := Qd }
/-- THE RULE for a def, over data -/
theorem dfn {x qual : Str} {st : Stmt} {f : Addr} {fd : FuncData} {N ps : List Str} {k n : Nat} {sp : DSp m} (F : Fun K x qual st f fd) (S : FnScope N ps (defScope st)) (hn : n = ps.length)
    (hb : ∀ (cdv : Value) (A : Around) (outer : List Env) (s : Shared) (H : Hp) (E : XK) (En : Ent m), RoomG k (A.deeper (envOfC qual (defScope st) s.heap.objs.size f cdv)) →
      ∃ t, PSs (cxOf CX0 P w K mg base N qual (defScope st) f cdv A outer s H E).nox (defBody st) (upS K m En t) ∧ ∀ ds s Qd, sp ds s Qd → t (endsOf Qd) (startD N ds) s) : FnG P w K mg base CX0 (k + 1) f fd ps (lift K m n sp) := by
  subst hn
  refine Fun.okG F S (fun vs H Q E h => h.1) (fun cdv A outer s H vs Q E hr h => ?_)
  obtain ⟨hl, F0, ds, s0, Qd, sub, hm, hreg, rs, hsp, hQ⟩ := h
  obtain ⟨t, ht, hq⟩ := hb cdv A outer s H E ⟨F0, H, s0, fun _ _ _ _ => False⟩ hr
  refine ⟨_, ht.nox, F0, startD N ds, s0, _, rel_start sub hm hreg rs, ⟨Same.refl _, fun _ _ h _ => h, fun _ h => h, fun _ _ h => .inl h, fun _ h => .inl h, fun i p ⟨⟨o, e⟩, _⟩ => ?_⟩, hq ds s0 Qd hsp, ?_⟩
  · unfold startD at e
    by_cases hi : i < ds.length
    · rw [List.getElem?_append_left (by simpa using hi), List.getElem?_map, List.getElem?_eq_getElem hi] at e; cases e
    · rw [List.getElem?_append_right (by simpa using hi), List.getElem?_replicate] at e
      split at e <;> cases e
  · have cs : ∀ F' H' σ ρ s, Rel K m F' H' σ ρ s → Own m ⟨F0, H, s0, fun _ _ _ _ => False⟩ F' H' σ ρ s → CStp m F0 H s0 F' H' s := fun F' H' σ ρ s r o => ⟨o.ext, o.keep, o.alive, o.fresh, o.regf, r.sub, r.mem, r.reg⟩
    exact ⟨fun F' H' σ ρ s _ r o q => hQ .non s _ F' H' q (cs F' H' σ ρ s r o) rfl, fun F' H' σ ρ s d v _ r o rv q => hQ d s v F' H' q (cs F' H' σ ρ s r o) rv, fun _ _ _ _ _ _ _ _ q => q.elim, fun _ _ _ _ _ _ _ _ q => q.elim, fun _ _ _ _ _ _ _ _ _ _ _ _ _ _ _ _ _ _ _ _ q => q.elim⟩
end
end DL

set_option Elab.async false
set_option linter.all false
set_option maxRecDepth 100000
namespace DL
open PySem PySem.Spec PyProof.Rows L2 TL

/-! ### what operations do with data -/
section
variable {K : PySem.W.Frag} {X : Cx}
/-- + -/
def addD : D → D → (D → Prop) → Prop
  | .int i, .int j, Q => Q (.int (i + j))
  | .str a, .str b, Q => a.length + b.length ≤ strLim ∧ Q (.str (a ++ b))
  | .lst a, .lst b, Q => a.length + b.length ≤ sizeLine ∧ Q (.lst (a ++ b))
  | .tup a, .tup b, Q => a.length + b.length ≤ sizeLine ∧ Q (.tup (a ++ b))
  | _, _, _ => False
def rAddA (K : PySem.W.Frag) : R2 := fun x y H Q => (∃ i j, x = .int i ∧ y = .int j ∧ Q (.int (i + j)) H) ∨ (∃ i j, x = .str i ∧ y = .str j ∧ i.length + j.length ≤ sizeLine ∧ Q (.str (i ++ j)) H) ∨ rCat x y H Q ∨ rCatA K x y H Q
theorem op_addA : OpR X (binaryOp .Add) (rAddA X.K) := op_add.or (op_add_str.or (op_cat.or op_catA))
theorem sOk_app {a b : Str} (h : sOk a = true) (k : sOk b = true) (l : a.length + b.length ≤ strLim) : sOk (a ++ b) = true := by
  refine sOk_of ?_ fun c hc => ?_
  · rw [len_tl, tl_append, List.length_append, ← len_tl, ← len_tl]; exact l
  · rw [show (a ++ b).cps.toList = tl a ++ tl b from tl_append a b] at hc
    rcases List.mem_append.mp hc with z | z
    · exact sOk_cps h c z
    · exact sOk_cps k c z
theorem o_add : Op2 K (rAddA K) addD := by
  intro F H dx dy x y Qd Q sub rx ry h hQ
  cases dx with
  | int i =>
    cases dy with
    | int j => cases rx; cases ry; exact .inl ⟨i, j, rfl, rfl, hQ _ _ F H h (Grow.refl sub) rfl⟩
    | _ => exact False.elim h
  | str a =>
    cases dy with
    | str b =>
      obtain ⟨rfl, ha⟩ := rx
      obtain ⟨rfl, hb⟩ := ry
      obtain ⟨hl, h⟩ := h
      exact .inr (.inl ⟨a, b, rfl, rfl, Nat.le_trans hl (Nat.le_trans (Nat.le_add_right _ 2) strLim_line), hQ _ _ F H h (Grow.refl sub) ⟨rfl, sOk_app ha hb hl⟩⟩)
    | _ => exact False.elim h
  | lst a =>
    cases dy with
    | lst b =>
      obtain ⟨p, vs, rfl, h1, _, rs⟩ := rx
      obtain ⟨q, ws, rfl, h2, _, rt⟩ := ry
      obtain ⟨hl, h⟩ := h
      have l1 := rs.length
      have l2 := rt.length
      refine .inr (.inr (.inl ⟨p, q, vs, ws, rfl, rfl, sub _ _ h1, sub _ _ h2, by omega, fun n nn => ?_⟩))
      have g : Grow F H (upd F n (.lst (vs ++ ws))) (upd H n (.lst (vs ++ ws))) := Grow.new sub nn
      exact hQ _ _ _ _ h g ⟨n, _, rfl, upd_same, by rw [List.length_append]; omega, (Reps.mono g.fF _ _ rs).append (Reps.mono g.fF _ _ rt)⟩
    | _ => exact False.elim h
  | tup a =>
    cases dy with
    | tup b =>
      have rx' := rx
      have ry' := ry
      obtain ⟨p, vs, rfl, h1, _, rs⟩ := rx
      obtain ⟨q, ws, rfl, h2, _, rt⟩ := ry
      obtain ⟨hl, h⟩ := h
      have l1 := rs.length
      have l2 := rt.length
      refine .inr (.inr (.inr ⟨p, q, vs, ws, rfl, rfl, Same.seqT sub h1, Same.seqT sub h2, by omega, fun e => ?_, fun _ e => ?_, fun _ _ n nn => ?_⟩))
      · subst e
        have e' : a = [] := by cases a with | nil => rfl | cons _ _ => cases l1
        subst e'
        exact hQ _ _ F H h (Grow.refl sub) ry'
      · subst e
        have e' : b = [] := by cases b with | nil => rfl | cons _ _ => cases l2
        subst e'
        rw [List.append_nil] at h
        exact hQ _ _ F H h (Grow.refl sub) rx'
      · have g : Grow F H (upd F n (.tup (vs ++ ws))) (upd H n (.tup (vs ++ ws))) := Grow.new sub nn
        exact hQ _ _ _ _ h g ⟨n, _, rfl, .inl (.inl upd_same), by rw [List.length_append]; omega, (Reps.mono g.fF _ _ rs).append (Reps.mono g.fF _ _ rt)⟩
    | _ => exact False.elim h
  | _ => cases dy <;> exact False.elim h
/-- - -/
def subD : D → D → (D → Prop) → Prop
  | .int i, .int j, Q => Q (.int (i - j))
  | _, _, _ => False
theorem o_ints {C : Int → Int → Prop} {g : Int → Int → Int} {f : D → D → (D → Prop) → Prop} (h : ∀ x y Qd, f x y Qd → ∃ i j, x = .int i ∧ y = .int j ∧ C i j ∧ Qd (.int (g i j))) : Op2 K (rI C fun i j => .int (g i j)) f := by
  intro F H dx dy x y Qd Q sub rx ry q hQ
  obtain ⟨i, j, rfl, rfl, c, q2⟩ := h _ _ _ q
  cases rx
  cases ry
  exact ⟨i, j, rfl, rfl, c, hQ _ _ F H q2 (Grow.refl sub) rfl⟩
theorem o_ints0 {g : Int → Int → Int} {f : D → D → (D → Prop) → Prop} (h : ∀ x y Qd, f x y Qd → ∃ i j, x = .int i ∧ y = .int j ∧ Qd (.int (g i j))) : Op2 K (rI0 fun i j => .int (g i j)) f := by
  intro F H dx dy x y Qd Q sub rx ry q hQ
  obtain ⟨i, j, rfl, rfl, q2⟩ := h _ _ _ q
  cases rx
  cases ry
  exact ⟨i, j, rfl, rfl, hQ _ _ F H q2 (Grow.refl sub) rfl⟩
theorem o_sub : Op2 K (rI0 fun i j => .int (i - j)) subD := o_ints0 fun x y Qd h => by
  cases x with
  | int i => cases y with
    | int j => exact ⟨i, j, rfl, rfl, h⟩
    | _ => exact False.elim h
  | _ => cases y <;> exact False.elim h
/-- *: of ints, one of them below 2 ^ 64; a text or a list some times -/
def mulD : D → D → (D → Prop) → Prop
  | .int i, .int j, Q => CMul i j ∧ Q (.int (i * j))
  | .str a, .int n, Q => (0 ≤ n ∧ n ≤ strLim ∧ a.length * n.toNat ≤ strLim) ∧ Q (.str ⟨((List.replicate n.toNat a.cps.toList).flatten).toArray⟩)
  | .lst a, .int n, Q => (0 ≤ n ∧ n < 2 ^ 62 ∧ a.length * n.toNat ≤ sizeLine) ∧ Q (.lst (List.replicate n.toNat a).flatten)
  | _, _, _ => False
theorem mul_txt {a : Str} {n : Int} (h0 : 0 ≤ n) : Txt.mul a n = ⟨((List.replicate n.toNat a.cps.toList).flatten).toArray⟩ := by
  have fold : ∀ (k : Nat) (acc : Array Nat), ((List.replicate k a.cps).foldl (· ++ ·) acc).toList = acc.toList ++ (List.replicate k a.cps.toList).flatten := by
    intro k
    induction k with
    | zero => intro acc; simp
    | succ k ih => intro acc; rw [List.replicate_succ, List.foldl_cons, ih, List.replicate_succ, List.flatten_cons, Array.toList_append, List.append_assoc]
  refine ext_tl ?_
  show tl (Txt.mul a n) = (List.replicate n.toNat a.cps.toList).flatten
  unfold Txt.mul
  by_cases h1 : n < 1
  · rw [if_pos h1]
    have e : n.toNat = 0 := by omega
    rw [e]
    rfl
  · rw [if_neg h1]
    by_cases h2 : (n == 1 || a.length == 0) = true
    · rw [if_pos h2]
      rw [Bool.or_eq_true] at h2
      rcases h2 with h2 | h2
      · have e : n = 1 := by simpa using h2
        subst e
        show tl a = (List.replicate 1 (tl a)).flatten
        simp
      · have e : tl a = [] := by
          have : a.length = 0 := by simpa using h2
          exact List.eq_nil_of_length_eq_zero (by rw [← len_tl]; exact this)
        show tl a = (List.replicate n.toNat (tl a)).flatten
        rw [e]
        simp
    · rw [if_neg h2]
      show ((List.replicate n.toNat a.cps).foldl (· ++ ·) #[]).toList = _
      rw [fold]
      simp
theorem op_mul_str : OpR X (binaryOp .Mult) (fun x y H Q => ∃ a n, x = .str a ∧ y = .int n ∧ (0 ≤ n ∧ n ≤ strLim ∧ a.length * n.toNat ≤ strLim) ∧ Q (.str ⟨((List.replicate n.toNat a.cps.toList).flatten).toArray⟩) H) := by
  intro pins s σ H x y v u Q I rx ry h
  obtain ⟨a, n, rfl, rfl, ⟨h0, h1, h2⟩, q⟩ := h
  obtain ⟨t, rfl⟩ := rx
  obtain ⟨t', rfl⟩ := ry
  have hs : strLim = 1000000 := rfl
  refine PySem.SB.mul ⟨?_, fun _ _ => ?_, fun _ _ => ?_⟩ fun t' k => ⟨.str _, H, I.tok _, ⟨t', by rw [mul_txt h0]⟩, q⟩
  · rw [decide_eq_false (by omega), decide_eq_false (by omega)]; rfl
  · have hn : 0 < n := by omega
    have : (a.length : Int) * n ≤ strLim := by
      have e : (n.toNat : Int) = n := by omega
      have : ((a.length * n.toNat : Nat) : Int) ≤ ((strLim : Nat) : Int) := by exact_mod_cast h2
      rw [Int.natCast_mul, e] at this
      exact this
    have q2 : (a.length : Int) ≤ (2 ^ 63 - 1) / n := (Int.le_ediv_iff_mul_le hn).mpr (Int.le_trans this (by decide))
    omega
  · unfold Builtin.Str.tooLong
    have := strLim_line
    exact decide_eq_false (by omega)
def rMulA : R2 := fun x y H Q => (∃ i j, x = .int i ∧ y = .int j ∧ CMul i j ∧ Q (.int (i * j)) H) ∨ (∃ a n, x = .str a ∧ y = .int n ∧ (0 ≤ n ∧ n ≤ strLim ∧ a.length * n.toNat ≤ strLim) ∧ Q (.str ⟨((List.replicate n.toNat a.cps.toList).flatten).toArray⟩) H) ∨ rRep x y H Q
theorem op_mulA : OpR X (binaryOp .Mult) rMulA := op_mul.or (op_mul_str.or op_rep)
theorem flat_rep_len {α : Type} (l : List α) : ∀ n : Nat, (List.replicate n l).flatten.length = l.length * n
  | 0 => by simp
  | n + 1 => by rw [List.replicate_succ, List.flatten_cons, List.length_append, flat_rep_len l n, Nat.mul_succ, Nat.add_comm]
theorem Reps.rep {K : PySem.W.Frag} {F : Hp} {ds : List D} {vs : List V} (h : Reps K F ds vs) : ∀ n : Nat, Reps K F (List.replicate n ds).flatten (List.replicate n vs).flatten
  | 0 => .nil
  | n + 1 => by rw [List.replicate_succ, List.replicate_succ, List.flatten_cons, List.flatten_cons]; exact h.append (Reps.rep h n)
theorem o_mul : Op2 K rMulA mulD := by
  intro F H dx dy x y Qd Q sub rx ry h hQ
  cases dx with
  | int i =>
    cases dy with
    | int j => cases rx; cases ry; exact .inl ⟨i, j, rfl, rfl, h.1, hQ _ _ F H h.2 (Grow.refl sub) rfl⟩
    | _ => exact False.elim h
  | str a =>
    cases dy with
    | int n =>
      obtain ⟨rfl, ha⟩ := rx
      cases ry
      refine .inr (.inl ⟨a, n, rfl, rfl, h.1, hQ _ _ F H h.2 (Grow.refl sub) ⟨rfl, sOk_of ?_ fun c hc => ?_⟩⟩)
      · show (((List.replicate n.toNat a.cps.toList).flatten).toArray).size ≤ strLim
        rw [List.size_toArray, flat_rep_len, Array.length_toList]
        exact h.1.2.2
      · have hc' : c ∈ (List.replicate n.toNat a.cps.toList).flatten := hc
        obtain ⟨l, hl, hcl⟩ := List.mem_flatten.mp hc'
        rw [(List.mem_replicate.mp hl).2] at hcl
        exact sOk_cps ha c hcl
    | _ => exact False.elim h
  | lst a =>
    cases dy with
    | int n =>
      obtain ⟨p, vs, rfl, h1, _, rs⟩ := rx
      cases ry
      obtain ⟨⟨h0, h2, h3⟩, h⟩ := h
      have l1 := rs.length
      refine .inr (.inr ⟨p, n, vs, rfl, rfl, sub _ _ h1, by omega, by omega, by rw [l1]; exact h3, fun q nq => ?_⟩)
      have g : Grow F H (upd F q (.lst (List.replicate n.toNat vs).flatten)) (upd H q (.lst (List.replicate n.toNat vs).flatten)) := Grow.new sub nq
      exact hQ _ _ _ _ h g ⟨q, _, rfl, upd_same, by rw [flat_rep_len, l1]; exact h3, (Reps.mono g.fF _ _ rs).rep _⟩
    | _ => exact False.elim h
  | _ => cases dy <;> exact False.elim h
/-- -x -/
def negD : D → (D → Prop) → Prop
  | .int i, Q => Q (.int (-i))
  | _, _ => False
theorem o_neg : Op1 K (rU fun i => .int (-i)) negD := by
  intro F H dx x Qd Q sub rx h hQ
  cases dx with
  | int i => cases rx; exact ⟨i, rfl, hQ _ _ F H h (Grow.refl sub) rfl⟩
  | _ => exact False.elim h

/-! ### comparisons -/
def ltS (a b : Str) : Bool := decide (a.cps.toList < b.cps.toList)
def ltD : D → D → (Bool → Prop) → Prop
  | .int i, .int j, Q => Q (decide (i < j))
  | .str a, .str b, Q => Q (ltS a b)
  | _, _, _ => False
def leD : D → D → (Bool → Prop) → Prop
  | .int i, .int j, Q => Q (decide (i ≤ j))
  | .str a, .str b, Q => Q (!ltS b a)
  | _, _, _ => False
def gtD : D → D → (Bool → Prop) → Prop
  | .int i, .int j, Q => Q (decide (j < i))
  | .str a, .str b, Q => Q (ltS b a)
  | _, _, _ => False
def rIS (f : Int → Int → Bool) (g : Str → Str → Bool) : R2 := fun x y H Q => (∃ i j, x = .int i ∧ y = .int j ∧ Q (.bl (f i j)) H) ∨ (∃ i j, x = .str i ∧ y = .str j ∧ Q (.bl (g i j)) H)
theorem op_ltA : OpR X (compareOp .Lt) (rIS (fun i j => decide (i < j)) ltS) := op_lt.or op_lt_str
theorem op_leA : OpR X (compareOp .LtE) (rIS (fun i j => decide (i ≤ j)) fun a b => !ltS b a) := op_le.or op_le_str
theorem op_gtA : OpR X (compareOp .Gt) (rIS (fun i j => decide (j < i)) fun a b => ltS b a) := op_gt.or op_gt_str
theorem o_is {f : Int → Int → Bool} {g : Str → Str → Bool} {c : D → D → (Bool → Prop) → Prop} (h : ∀ x y Qd, c x y Qd → (∃ i j, x = .int i ∧ y = .int j ∧ Qd (f i j)) ∨ ∃ i j, x = .str i ∧ y = .str j ∧ Qd (g i j)) : Cm2 K (rIS f g) c := by
  intro F H dx dy x y Qd Q sub rx ry q hQ
  rcases h _ _ _ q with ⟨i, j, rfl, rfl, q2⟩ | ⟨i, j, rfl, rfl, q2⟩
  · cases rx; cases ry; exact .inl ⟨i, j, rfl, rfl, hQ _ F H q2 (Grow.refl sub)⟩
  · obtain ⟨rfl, _⟩ := rx
    obtain ⟨rfl, _⟩ := ry
    exact .inr ⟨i, j, rfl, rfl, hQ _ F H q2 (Grow.refl sub)⟩
theorem o_lt : Cm2 K (rIS (fun i j => decide (i < j)) ltS) ltD := o_is fun x y Qd h => by
  cases x <;> cases y <;> first | exact False.elim h | exact .inl ⟨_, _, rfl, rfl, h⟩ | exact .inr ⟨_, _, rfl, rfl, h⟩
theorem o_le : Cm2 K (rIS (fun i j => decide (i ≤ j)) fun a b => !ltS b a) leD := o_is fun x y Qd h => by
  cases x <;> cases y <;> first | exact False.elim h | exact .inl ⟨_, _, rfl, rfl, h⟩ | exact .inr ⟨_, _, rfl, rfl, h⟩
theorem o_gt : Cm2 K (rIS (fun i j => decide (j < i)) fun a b => ltS b a) gtD := o_is fun x y Qd h => by
  cases x <;> cases y <;> first | exact False.elim h | exact .inl ⟨_, _, rfl, rfl, h⟩ | exact .inr ⟨_, _, rfl, rfl, h⟩
/-- is None, is not None -/
def isNo : D → Bool
  | .non => true
  | _ => false
def isD : D → D → (Bool → Prop) → Prop
  | x, .non, Q => Q (isNo x)
  | _, _, _ => False
def isntD : D → D → (Bool → Prop) → Prop
  | x, .non, Q => Q (!isNo x)
  | _, _, _ => False
theorem rep_no {F : Hp} {d : D} {v : V} (h : Rep K F d v) (n : ∀ w, d ≠ .any w) : decide (v = .non) = isNo d := by
  cases d with
  | non => cases h; rfl
  | bl b => cases h; rfl
  | int i => cases h; rfl
  | str x => obtain ⟨rfl, _⟩ := h; rfl
  | lst xs => obtain ⟨a, vs, rfl, _⟩ := h; rfl
  | tup xs => obtain ⟨a, vs, rfl, _⟩ := h; rfl
  | dic ks ds => obtain ⟨a, vs, rfl, _⟩ := h; rfl
  | ins C ns ds => obtain ⟨a, dx, fs, rfl, _⟩ := h; rfl
  | any w => exact absurd rfl (n w)
  | fz xs => obtain ⟨a, vs, rfl, _⟩ := h; rfl
  | exc C ns ds => obtain ⟨a, d, fs, rfl, _⟩ := h; rfl
  | cau a x ns ds => obtain ⟨rfl, _⟩ := h; rfl
  | exk C ns ds => obtain ⟨a, x, fs, rfl, _⟩ := h; rfl
def isD' (x y : D) (Q : Bool → Prop) : Prop := (∀ w, x ≠ .any w) ∧ isD x y Q
def isntD' (x y : D) (Q : Bool → Prop) : Prop := (∀ w, x ≠ .any w) ∧ isntD x y Q
theorem o_isN : Cm2 K (fun x y H Q => y = .non ∧ Q (.bl (decide (x = .non))) H) isD' := by
  intro F H dx dy x y Qd Q sub rx ry h hQ
  obtain ⟨n, h⟩ := h
  cases dy with
  | non => cases ry; exact ⟨rfl, by rw [rep_no rx n]; exact hQ _ F H h (Grow.refl sub)⟩
  | _ => cases dx <;> exact False.elim h
theorem o_notN : Cm2 K (fun x y H Q => y = .non ∧ Q (.bl (!decide (x = .non))) H) isntD' := by
  intro F H dx dy x y Qd Q sub rx ry h hQ
  obtain ⟨n, h⟩ := h
  cases dy with
  | non => cases ry; exact ⟨rfl, by rw [rep_no rx n]; exact hQ _ F H h (Grow.refl sub)⟩
  | _ => cases dx <;> exact False.elim h

/-! ### == and != -/
mutual
/-- data without dicts, objects and the like, at most so deep -/
def plainD : Nat → D → Bool
  | _, .non => true
  | _, .bl _ => true
  | _, .int _ => true
  | _, .str _ => true
  | n, .lst xs => match n with
    | 0 => false
    | k + 1 => plainDs k xs
  | n, .tup xs => match n with
    | 0 => false
    | k + 1 => plainDs k xs
  | _, _ => false
def plainDs : Nat → List D → Bool
  | _, [] => true
  | n, d :: ds => plainD n d && plainDs n ds
end
mutual
def eqD : D → D → Bool
  | .non, .non => true
  | .bl a, .bl b => a == b
  | .bl a, .int j => (if a then 1 else 0) == j
  | .int i, .bl b => i == (if b then 1 else 0)
  | .int i, .int j => i == j
  | .str x, .str y => x == y
  | .lst xs, .lst ys => eqDs xs ys
  | .tup xs, .tup ys => eqDs xs ys
  | _, _ => false
def eqDs : List D → List D → Bool
  | [], [] => true
  | x :: xs, y :: ys => eqD x y && eqDs xs ys
  | _, _ => false
end
mutual
def toPy : D → PyData
  | .non => .none
  | .bl b => .bool b
  | .int i => .int i
  | .str x => .str x
  | .lst xs => .list (toPys xs)
  | .tup xs => .tuple (toPys xs)
  | _ => .none
def toPys : List D → List PyData
  | [] => []
  | d :: ds => toPy d :: toPys ds
end
mutual
theorem rep_dp {F H : Hp} (sub : Same F H) : ∀ (n : Nat) (d : D) (v : V), plainD n d = true → Rep K F d v → Dp K H v (toPy d)
  | _, .non, _, _, h => by cases h; exact .non
  | _, .bl b, _, _, h => by cases h; exact .bl b
  | _, .int i, _, _, h => by cases h; exact .int i
  | _, .str x, _, _, h => by obtain ⟨rfl, _⟩ := h; exact .str x
  | 0, .lst xs, _, p, _ => by simp [plainD] at p
  | n + 1, .lst xs, _, p, h => by
    obtain ⟨a, vs, rfl, h1, _, r⟩ := h
    exact .lst (.inl (.inl (sub _ _ h1))) (reps_dp sub n xs vs (by simpa [plainD] using p) r)
  | 0, .tup xs, _, p, _ => by simp [plainD] at p
  | n + 1, .tup xs, _, p, h => by
    obtain ⟨a, vs, rfl, h1, _, r⟩ := h
    exact .tup (Same.seqT sub h1) (reps_dp sub n xs vs (by simpa [plainD] using p) r)
  | _, .dic _ _, _, p, _ => by simp [plainD] at p
  | _, .ins _ _ _, _, p, _ => by simp [plainD] at p
  | _, .any _, _, p, _ => by simp [plainD] at p
  | _, .fz _, _, p, _ => by simp [plainD] at p
  | _, .exc _ _ _, _, p, _ => by simp [plainD] at p
  | _, .cau _ _ _ _, _, p, _ => by simp [plainD] at p
  | _, .exk _ _ _, _, p, _ => by simp [plainD] at p
theorem reps_dp {F H : Hp} (sub : Same F H) : ∀ (n : Nat) (ds : List D) (vs : List V), plainDs n ds = true → Reps K F ds vs → DpAll K H vs (toPys ds)
  | _, [], _, _, h => by cases h; exact .nil
  | n, d :: ds, _, p, ⟨v, r, e, h, t⟩ => by
    subst e
    rw [plainDs, Bool.and_eq_true] at p
    exact .cons (rep_dp sub n d v p.1 h) (reps_dp sub n ds r p.2 t)
end
theorem strOk_of {x : Str} (h : sOk x = true) : PyData.strOk x = true := by
  unfold PyData.strOk
  rw [← Array.all_toList]
  exact List.all_eq_true.mpr fun c hc => decide_eq_true (sOk_cps h c hc)
mutual
theorem lay_of {F : Hp} : ∀ (n : Nat) (d : D) (v : V), plainD n d = true → Rep K F d v → (toPy d).canLay0 = true ∧ (toPy d).depth ≤ n
  | _, .non, _, _, _ => ⟨rfl, Nat.zero_le _⟩
  | _, .bl b, _, _, _ => ⟨rfl, Nat.zero_le _⟩
  | _, .int i, _, _, _ => ⟨rfl, Nat.zero_le _⟩
  | _, .str x, _, _, h => by obtain ⟨_, h⟩ := h; exact ⟨by simpa [toPy, PyData.canLay0] using strOk_of h, by simp [toPy, PyData.depth]⟩
  | 0, .lst xs, _, p, _ => by simp [plainD] at p
  | n + 1, .lst xs, _, p, h => by
    obtain ⟨a, vs, rfl, h1, _, r⟩ := h
    obtain ⟨q1, q2⟩ := lay_ofs n xs vs (by simpa [plainD] using p) r
    exact ⟨by simpa [toPy, PyData.canLay0] using q1, by simp only [toPy, PyData.depth]; omega⟩
  | 0, .tup xs, _, p, _ => by simp [plainD] at p
  | n + 1, .tup xs, _, p, h => by
    obtain ⟨a, vs, rfl, h1, _, r⟩ := h
    obtain ⟨q1, q2⟩ := lay_ofs n xs vs (by simpa [plainD] using p) r
    exact ⟨by simpa [toPy, PyData.canLay0] using q1, by simp only [toPy, PyData.depth]; omega⟩
  | _, .dic _ _, _, p, _ => by simp [plainD] at p
  | _, .ins _ _ _, _, p, _ => by simp [plainD] at p
  | _, .any _, _, p, _ => by simp [plainD] at p
  | _, .fz _, _, p, _ => by simp [plainD] at p
  | _, .exc _ _ _, _, p, _ => by simp [plainD] at p
  | _, .cau _ _ _ _, _, p, _ => by simp [plainD] at p
  | _, .exk _ _ _, _, p, _ => by simp [plainD] at p
theorem lay_ofs {F : Hp} : ∀ (n : Nat) (ds : List D) (vs : List V), plainDs n ds = true → Reps K F ds vs → PyData.canLayAll0 (toPys ds) = true ∧ PyData.depthAll (toPys ds) ≤ n
  | _, [], _, _, _ => ⟨rfl, Nat.zero_le _⟩
  | n, d :: ds, _, p, ⟨v, r, e, h, t⟩ => by
    rw [plainDs, Bool.and_eq_true] at p
    obtain ⟨q1, q2⟩ := lay_of n d v p.1 h
    obtain ⟨q3, q4⟩ := lay_ofs n ds r p.2 t
    exact ⟨by simp only [toPys, PyData.canLayAll0, q1, q3, Bool.and_self], by simp only [toPys, PyData.depthAll]; omega⟩
end
mutual
theorem eqv_of : ∀ (n m : Nat) (d e : D), plainD n d = true → plainD m e = true → PyData.eqv (toPy d) (toPy e) = eqD d e
  | _, _, .non, e, _, q => by cases e <;> simp_all [toPy, eqD, PyData.eqv, plainD]
  | _, _, .bl b, e, _, q => by cases e <;> simp_all [toPy, eqD, PyData.eqv, plainD]
  | _, _, .int i, e, _, q => by cases e <;> simp_all [toPy, eqD, PyData.eqv, plainD]
  | _, _, .str x, e, _, q => by cases e <;> simp_all [toPy, eqD, PyData.eqv, plainD]
  | n, m, .lst xs, e, p, q => by
    cases e with
    | lst ys =>
      cases n with
      | zero => simp [plainD] at p
      | succ n =>
        cases m with
        | zero => simp [plainD] at q
        | succ m => simpa only [toPy, eqD, PyData.eqv] using eqv_ofs n m xs ys (by simpa [plainD] using p) (by simpa [plainD] using q)
    | _ => simp_all [toPy, eqD, PyData.eqv, plainD]
  | n, m, .tup xs, e, p, q => by
    cases e with
    | tup ys =>
      cases n with
      | zero => simp [plainD] at p
      | succ n =>
        cases m with
        | zero => simp [plainD] at q
        | succ m => simpa only [toPy, eqD, PyData.eqv] using eqv_ofs n m xs ys (by simpa [plainD] using p) (by simpa [plainD] using q)
    | _ => simp_all [toPy, eqD, PyData.eqv, plainD]
  | _, _, .dic _ _, _, p, _ => by simp [plainD] at p
  | _, _, .ins _ _ _, _, p, _ => by simp [plainD] at p
  | _, _, .any _, _, p, _ => by simp [plainD] at p
  | _, _, .fz _, _, p, _ => by simp [plainD] at p
  | _, _, .exc _ _ _, _, p, _ => by simp [plainD] at p
  | _, _, .cau _ _ _ _, _, p, _ => by simp [plainD] at p
  | _, _, .exk _ _ _, _, p, _ => by simp [plainD] at p
theorem eqv_ofs : ∀ (n m : Nat) (d e : List D), plainDs n d = true → plainDs m e = true → PyData.eqvAll (toPys d) (toPys e) = eqDs d e
  | _, _, [], [], _, _ => rfl
  | _, _, [], _ :: _, _, _ => rfl
  | _, _, _ :: _, [], _, _ => rfl
  | n, m, d :: ds, e :: es, p, q => by
    rw [plainDs, Bool.and_eq_true] at p q
    simp only [toPys, PyData.eqvAll, eqDs]
    rw [eqv_of n m d e p.1 q.1, eqv_ofs n m ds es p.2 q.2]
end
def eqC (x y : D) (Q : Bool → Prop) : Prop := plainD 60 x = true ∧ plainD 60 y = true ∧ Q (eqD x y)
def neC (x y : D) (Q : Bool → Prop) : Prop := plainD 60 x = true ∧ plainD 60 y = true ∧ Q (!eqD x y)
theorem shaped_of {F : Hp} {d : D} {v : V} (p : plainD 60 d = true) (h : Rep K F d v) : SeqAt.shaped (toPy d) = true := by
  obtain ⟨h1, h2⟩ := lay_of 60 d v p h
  unfold SeqAt.shaped
  rw [h1, decide_eq_true (by omega)]
  rfl
theorem o_eq : Cm2 K (rEqD K) eqC := by
  intro F H dx dy x y Qd Q sub rx ry h hQ
  obtain ⟨p1, p2, h⟩ := h
  refine ⟨toPy dx, toPy dy, rep_dp sub 60 dx x p1 rx, rep_dp sub 60 dy y p2 ry, shaped_of p1 rx, shaped_of p2 ry, ?_⟩
  rw [eqv_of 60 60 dx dy p1 p2]
  exact hQ _ F H h (Grow.refl sub)
theorem o_ne : Cm2 K (rNeD K) neC := by
  intro F H dx dy x y Qd Q sub rx ry h hQ
  obtain ⟨p1, p2, h⟩ := h
  refine ⟨toPy dx, toPy dy, rep_dp sub 60 dx x p1 rx, rep_dp sub 60 dy y p2 ry, shaped_of p1 rx, shaped_of p2 ry, ?_⟩
  rw [eqv_of 60 60 dx dy p1 p2]
  exact hQ _ F H h (Grow.refl sub)
/-! ### in, not in -/
def strIn (a z : Str) : Bool := !(Builtin.Str.occurrences z a 0 z.length 1).isEmpty
def notInD : D → D → (Bool → Prop) → Prop
  | .str a, .str z, Q => Q (!strIn a z)
  | x, .lst ys, Q => plainD 58 x = true ∧ plainDs 58 ys = true ∧ Q (!ys.any fun y => eqD y x)
  | _, _, _ => False
def rNotInA (K : PySem.W.Frag) : R2 := fun x y H Q => (∃ i j, x = .str i ∧ y = .str j ∧ Q (.bl (!strIn i j)) H) ∨ rNotInD K x y H Q
theorem op_notInA (hu : X.A.units + 65 < cLine) : OpR X (compareOp .NotIn) (rNotInA X.K) := op_notin_str.or (op_notInD hu)
theorem any_eqv (n m : Nat) (x : D) (hx : plainD n x = true) : ∀ (ys : List D), plainDs m ys = true → (toPys ys).any (fun z => PyData.eqv z (toPy x)) = ys.any fun y => eqD y x
  | [], _ => rfl
  | y :: ys, h => by
    rw [plainDs, Bool.and_eq_true] at h
    rw [toPys, List.any_cons, List.any_cons, eqv_of m n y x h.1 hx, any_eqv n m x hx ys h.2]
mutual
theorem plain_mono : ∀ (n m : Nat) (d : D), n ≤ m → plainD n d = true → plainD m d = true
  | _, _, .non, _, _ => by simp [plainD]
  | _, _, .bl _, _, _ => by simp [plainD]
  | _, _, .int _, _, _ => by simp [plainD]
  | _, _, .str _, _, _ => by simp [plainD]
  | 0, _, .lst xs, _, p => by simp [plainD] at p
  | n + 1, 0, .lst xs, h, _ => absurd h (by omega)
  | n + 1, m + 1, .lst xs, h, p => by simpa [plainD] using plain_monos n m xs (by omega) (by simpa [plainD] using p)
  | 0, _, .tup xs, _, p => by simp [plainD] at p
  | n + 1, 0, .tup xs, h, _ => absurd h (by omega)
  | n + 1, m + 1, .tup xs, h, p => by simpa [plainD] using plain_monos n m xs (by omega) (by simpa [plainD] using p)
  | _, _, .dic _ _, _, p => by simp [plainD] at p
  | _, _, .ins _ _ _, _, p => by simp [plainD] at p
  | _, _, .any _, _, p => by simp [plainD] at p
  | _, _, .fz _, _, p => by simp [plainD] at p
theorem plain_monos : ∀ (n m : Nat) (d : List D), n ≤ m → plainDs n d = true → plainDs m d = true
  | _, _, [], _, _ => by simp [plainDs]
  | n, m, d :: ds, h, p => by
    rw [plainDs, Bool.and_eq_true] at p ⊢
    exact ⟨plain_mono n m d h p.1, plain_monos n m ds h p.2⟩
end
theorem in_core {F H : Hp} {dx : D} {ys : List D} {x y : V} (sub : Same F H) (rx : Rep K F dx x) (ry : Rep K F (.lst ys) y) (p1 : plainD 58 dx = true) (p2 : plainDs 58 ys = true) :
    ∃ d ds, Dp K H x d ∧ Dp K H y (.list ds) ∧ SeqAt.shaped d = true ∧ SeqAt.shaped (.list ds) = true ∧ (ds.any fun z => PyData.eqv z d) = ys.any fun y => eqD y dx := by
  have q1 := plain_mono 58 60 dx (by omega) p1
  have q2 : plainD 60 (.lst ys) = true := by
    have := plain_monos 58 59 ys (by omega) p2
    simpa [plainD] using this
  exact ⟨toPy dx, toPys ys, rep_dp sub 60 dx x q1 rx, rep_dp sub 60 _ y q2 ry, shaped_of q1 rx, shaped_of q2 ry, any_eqv 58 58 dx p1 ys p2⟩
theorem o_notIn : Cm2 K (rNotInA K) notInD := by
  intro F H dx dy x y Qd Q sub rx ry h hQ
  cases dy with
  | lst ys =>
    have h' : plainD 58 dx = true ∧ plainDs 58 ys = true ∧ Qd (!ys.any fun y => eqD y dx) := by cases dx <;> exact h
    obtain ⟨p1, p2, q⟩ := h'
    obtain ⟨d, ds, a1, a2, a3, a4, e⟩ := in_core sub rx ry p1 p2
    exact .inr ⟨d, ds, a1, a2, a3, a4, by rw [e]; exact hQ _ F H q (Grow.refl sub)⟩
  | str z =>
    cases dx with
    | str a =>
      obtain ⟨rfl, _⟩ := rx
      obtain ⟨rfl, _⟩ := ry
      exact .inl ⟨a, z, rfl, rfl, hQ _ F H h (Grow.refl sub)⟩
    | _ => exact False.elim h
  | _ => cases dx <;> exact False.elim h

/-! ### subscripts and slices -/
def ixD : D → D → (D → Prop) → Prop
  | .lst ds, .int i, Q => ∃ d, atI ds i = some d ∧ Q d
  | .tup ds, .int i, Q => ∃ d, atI ds i = some d ∧ Q d
  | .str z, .int i, Q => ∃ c, atI z.cps.toList i = some c ∧ Q (.str ⟨#[c]⟩)
  | _, _, _ => False
theorem Reps.atI {F : Hp} {ds : List D} {vs : List V} {i : Int} {d : D} (h : Reps K F ds vs) (e : L2.atI ds i = some d) : ∃ v, L2.atI vs i = some v ∧ Rep K F d v := by
  unfold L2.atI at e ⊢
  rw [h.length]
  cases q : ixN ds.length i with
  | none => rw [q] at e; cases e
  | some j =>
    rw [q] at e
    exact h.get e
theorem sOk_one {c : Nat} (h : c < 0x110000) : sOk ⟨#[c]⟩ = true := sOk_of (by show 1 ≤ strLim; decide) fun c' hc' => by
  have e : c' = c := by simpa using hc'
  subst e
  exact h
theorem o_ix : Op2 K (rIx K) ixD := by
  intro F H dx dy x y Qd Q sub rx ry h hQ
  cases dx with
  | lst ds =>
    cases dy with
    | int i =>
      obtain ⟨a, vs, rfl, h1, _, rs⟩ := rx
      cases ry
      obtain ⟨d, e, q⟩ := h
      obtain ⟨v, e2, rv⟩ := rs.atI e
      exact .inl ⟨a, vs, i, v, rfl, rfl, .inl (.inl (sub _ _ h1)), e2, hQ d v F H q (Grow.refl sub) rv⟩
    | _ => exact False.elim h
  | tup ds =>
    cases dy with
    | int i =>
      obtain ⟨a, vs, rfl, h1, _, rs⟩ := rx
      cases ry
      obtain ⟨d, e, q⟩ := h
      obtain ⟨v, e2, rv⟩ := rs.atI e
      exact .inr (.inl ⟨a, vs, i, v, rfl, rfl, Same.seqT sub h1, e2, hQ d v F H q (Grow.refl sub) rv⟩)
    | _ => exact False.elim h
  | str z =>
    cases dy with
    | int i =>
      obtain ⟨rfl, hz⟩ := rx
      cases ry
      obtain ⟨c, e, q⟩ := h
      obtain ⟨j, _, hj, _, _, _⟩ := atI_get e
      exact .inr (.inr ⟨z, i, c, rfl, rfl, Nat.le_trans (sOk_len hz) (Nat.le_trans (Nat.le_add_right _ 2) strLim_line), e, hQ _ _ F H q (Grow.refl sub) ⟨rfl, sOk_one (sOk_cps hz c (List.mem_of_getElem? hj))⟩⟩)
    | _ => exact False.elim h
  | _ => cases dy <;> exact False.elim h
def cutD (xs : List D) (lo hi : Option Int) : List D := (xs.drop (HT.sIx xs.length 0 lo)).take (HT.sIx xs.length xs.length hi - HT.sIx xs.length 0 lo)
theorem Reps.cut {F : Hp} {ds : List D} {vs : List V} (h : Reps K F ds vs) (lo hi : Option Int) : Reps K F (cutD ds lo hi) (cutV vs lo hi) := by
  unfold cutD cutV
  rw [h.length]
  exact (h.drop _).take _
def slD : D → Option Int → Option Int → (D → Prop) → Prop
  | .lst ds, lo, hi, Q => Q (.lst (cutD ds lo hi))
  | .tup ds, lo, hi, Q => Q (.tup (cutD ds lo hi))
  | .str z, lo, hi, Q => Q (.str (cutS z lo hi))
  | _, _, _, _ => False
def rSlAll (K : PySem.W.Frag) : V → Option Int → Option Int → Hp → VK → Prop := fun x lo hi H Q => rSlL K x lo hi H Q ∨ rSlA K x lo hi H Q ∨ rSlS x lo hi H Q
theorem sl_all : SlR X (rSlAll X.K) := sl_list.or (sl_tupA.or sl_str)
theorem sOk_cut {z : Str} (h : sOk z = true) (lo hi : Option Int) : sOk (cutS z lo hi) = true := sOk_of (Nat.le_trans (cutS_length z lo hi) (sOk_len h)) fun c hc => by
  have hc' : c ∈ (z.cps.toList.drop (HT.sIx z.length 0 lo)).take (HT.sIx z.length z.length hi - HT.sIx z.length 0 lo) := hc
  exact sOk_cps h c (List.mem_of_mem_drop (List.mem_of_mem_take hc'))
theorem o_sl : OpS K (rSlAll K) slD := by
  intro F H dx x lo hi Qd Q sub rx h hQ
  cases dx with
  | lst ds =>
    obtain ⟨a, vs, rfl, h1, hl, rs⟩ := rx
    refine .inl ⟨a, vs, rfl, .inl (.inl (sub _ _ h1)), fun p np => ?_⟩
    have g : Grow F H (upd F p (.lst (cutV vs lo hi))) (upd H p (.lst (cutV vs lo hi))) := Grow.new sub np
    exact hQ _ _ _ _ h g ⟨p, _, rfl, upd_same, Nat.le_trans (cutV_length vs lo hi) hl, (Reps.mono g.fF _ _ rs).cut lo hi⟩
  | tup ds =>
    have rx' := rx
    obtain ⟨a, vs, rfl, h1, hl, rs⟩ := rx
    refine .inr (.inl ⟨a, vs, rfl, Same.seqT sub h1, fun e => ?_, fun _ p np => ?_⟩)
    · have e2 : cutD ds lo hi = ds := by
        unfold cutD
        rw [rs.length] at e
        rw [e.1, e.2, List.drop_zero, Nat.sub_zero, List.take_length]
      have h' : Qd (.tup (cutD ds lo hi)) := h
      rw [e2] at h'
      exact hQ _ _ F H h' (Grow.refl sub) rx'
    · have g : Grow F H (upd F p (.tup (cutV vs lo hi))) (upd H p (.tup (cutV vs lo hi))) := Grow.new sub np
      exact hQ _ _ _ _ h g ⟨p, _, rfl, .inl (.inl upd_same), Nat.le_trans (cutV_length vs lo hi) hl, (Reps.mono g.fF _ _ rs).cut lo hi⟩
  | str z =>
    obtain ⟨rfl, hz⟩ := rx
    exact .inr (.inr ⟨z, rfl, Nat.le_trans (sOk_len hz) (Nat.le_trans (Nat.le_add_right _ 2) strLim_line), hQ _ _ F H h (Grow.refl sub) ⟨rfl, sOk_cut hz lo hi⟩⟩)
  | _ => exact False.elim h
/-! ### built-in functions -/
def lenOf : D → Option Nat
  | .lst ds => some ds.length
  | .tup ds => some ds.length
  | .str z => some z.length
  | .dic ks _ => some ks.length
  | _ => none
def lenD (ds : List D) (Q : D → Prop) : Prop := ∃ d n, ds = [d] ∧ lenOf d = some n ∧ Q (.int (n : Nat))
def rLenA (K : PySem.W.Frag) : List V → Hp → VK → Prop := fun xs H Q => (∃ x n, xs = [x] ∧ LenV K x H n ∧ Q (.int n) H) ∨ (∃ a kvs, xs = [V.ref a] ∧ H a = some (.dK kvs) ∧ Q (.int kvs.length) H)
theorem CallR.or {f : Value} {r r' : List V → Hp → VK → Prop} (h : CallR X f r) (h' : CallR X f r') : CallR X f (fun xs H Q => r xs H Q ∨ r' xs H Q) := by
  intro pins s σ H xs us Q I rx q
  rcases q with q | q
  · exact h pins s σ H xs us Q I rx q
  · exact h' pins s σ H xs us Q I rx q
theorem o_len : OpN K (rLenA K) lenD := by
  intro F H ds vs Qd Q sub rs h hQ
  obtain ⟨d, n, rfl, e, q⟩ := h
  obtain ⟨v, _, rfl, rv, rn⟩ := rs
  cases rn
  have fin : Q (.int (n : Nat)) H := hQ _ _ F H q (Grow.refl sub) rfl
  cases d with
  | lst xs =>
    obtain ⟨a, ws, rfl, h1, _, r⟩ := rv
    cases e
    exact .inl ⟨_, xs.length, rfl, .inl ⟨ws, .inl (.inl (sub _ _ h1)), r.length.symm⟩, fin⟩
  | tup xs =>
    obtain ⟨a, ws, rfl, h1, _, r⟩ := rv
    cases e
    exact .inl ⟨_, xs.length, rfl, .inr ⟨ws, Same.seqT sub h1, r.length.symm⟩, fin⟩
  | str z =>
    obtain ⟨rfl, hz⟩ := rv
    cases e
    exact .inl ⟨_, z.length, rfl, ⟨Nat.le_trans (sOk_len hz) (Nat.le_trans (Nat.le_add_right _ 2) strLim_line), rfl⟩, fin⟩
  | dic ks xs =>
    obtain ⟨a, kvs, rfl, h1, _, ek, r⟩ := rv
    cases e
    refine .inr ⟨a, kvs, rfl, sub _ _ h1, ?_⟩
    have e2 : kvs.length = ks.length := by rw [← ek, List.length_map]
    rw [e2]
    exact fin
  | _ => cases e
theorem int2 {F : Hp} {i j : Int} {vs : List V} (h : Reps K F [.int i, .int j] vs) : vs = [.int i, .int j] := reps_ints (ns := [i, j]) h
def minD (ds : List D) (Q : D → Prop) : Prop := ∃ i j, ds = [.int i, .int j] ∧ Q (.int (if j < i then j else i))
theorem o_min : OpN K (fun xs H Q => ∃ i j, xs = [.int i, .int j] ∧ Q (.int (if j < i then j else i)) H) minD := by
  intro F H ds vs Qd Q sub rs h hQ
  obtain ⟨i, j, rfl, q⟩ := h
  exact ⟨i, j, int2 rs, hQ _ _ F H q (Grow.refl sub) rfl⟩
def allD (ds : List D) (Q : D → Prop) : Prop := ∃ bs : List Bool, ds = [.lst (bs.map .bl)] ∧ Q (.bl (bs.all id))
def anyD (ds : List D) (Q : D → Prop) : Prop := ∃ bs : List Bool, ds = [.lst (bs.map .bl)] ∧ Q (.bl (bs.any id))
theorem o_all : OpN K (rAll K) allD := by
  intro F H ds vs Qd Q sub rs h hQ
  obtain ⟨bs, rfl, q⟩ := h
  obtain ⟨v, _, rfl, ⟨a, ws, rfl, h1, _, r⟩, rn⟩ := rs
  cases rn
  have e := reps_bls r
  subst e
  exact ⟨a, bs, rfl, .inl (.inl (sub _ _ h1)), hQ _ _ F H q (Grow.refl sub) rfl⟩
theorem o_any : OpN K (rAny K) anyD := by
  intro F H ds vs Qd Q sub rs h hQ
  obtain ⟨bs, rfl, q⟩ := h
  obtain ⟨v, _, rfl, ⟨a, ws, rfl, h1, _, r⟩, rn⟩ := rs
  cases rn
  have e := reps_bls r
  subst e
  exact ⟨a, bs, rfl, .inl (.inl (sub _ _ h1)), hQ _ _ F H q (Grow.refl sub) rfl⟩
/-- tuple(xs), list(xs) -/
def tupD (ds : List D) (Q : D → Prop) : Prop := ∃ d xs, ds = [d] ∧ seqD d = some xs ∧ Q (.tup xs)
def listD (ds : List D) (Q : D → Prop) : Prop := ∃ d xs, ds = [d] ∧ seqD d = some xs ∧ Q (.lst xs)
theorem o_tuple : OpN K (fun xs H Q => ∃ p ys, xs = [.ref p] ∧ ((SqL K H p ys ∧ ∀ l, H l = none → Q (.ref l) (upd H l (.tup ys))) ∨ (SqT K H p ys ∧ Q (.ref p) H))) tupD := by
  intro F H ds vs Qd Q sub rs h hQ
  obtain ⟨d, xs, rfl, e, q⟩ := h
  obtain ⟨v, _, rfl, rv, rn⟩ := rs
  cases rn
  cases d with
  | lst xs =>
    cases e
    obtain ⟨a, ws, rfl, h1, hl, r⟩ := rv
    refine ⟨a, ws, rfl, .inl ⟨.inl (.inl (sub _ _ h1)), fun p np => ?_⟩⟩
    have g : Grow F H (upd F p (.tup ws)) (upd H p (.tup ws)) := Grow.new sub np
    exact hQ _ _ _ _ q g ⟨p, _, rfl, .inl (.inl upd_same), hl, Reps.mono g.fF _ _ r⟩
  | tup xs =>
    cases e
    have rv' := rv
    obtain ⟨a, ws, rfl, h1, hl, r⟩ := rv
    exact ⟨a, ws, rfl, .inr ⟨Same.seqT sub h1, hQ _ _ F H q (Grow.refl sub) rv'⟩⟩
  | fz xs =>
    cases e
    obtain ⟨a, ws, rfl, h1, hl, r⟩ := rv
    refine ⟨a, ws, rfl, .inl ⟨Same.seq sub h1, fun p np => ?_⟩⟩
    have g : Grow F H (upd F p (.tup ws)) (upd H p (.tup ws)) := Grow.new sub np
    exact hQ _ _ _ _ q g ⟨p, _, rfl, .inl (.inl upd_same), hl, Reps.mono g.fF _ _ r⟩
  | _ => cases e
theorem o_list : OpN K (fun xs H Q => ∃ p ys, xs = [.ref p] ∧ (SqL K H p ys ∨ SqT K H p ys) ∧ ∀ l, H l = none → Q (.ref l) (upd H l (.lst ys))) listD := by
  intro F H ds vs Qd Q sub rs h hQ
  obtain ⟨d, xs, rfl, e, q⟩ := h
  obtain ⟨v, _, rfl, rv, rn⟩ := rs
  cases rn
  cases d with
  | lst xs =>
    cases e
    obtain ⟨a, ws, rfl, h1, hl, r⟩ := rv
    refine ⟨a, ws, rfl, .inl (.inl (.inl (sub _ _ h1))), fun p np => ?_⟩
    have g : Grow F H (upd F p (.lst ws)) (upd H p (.lst ws)) := Grow.new sub np
    exact hQ _ _ _ _ q g ⟨p, _, rfl, upd_same, hl, Reps.mono g.fF _ _ r⟩
  | tup xs =>
    cases e
    obtain ⟨a, ws, rfl, h1, hl, r⟩ := rv
    refine ⟨a, ws, rfl, .inr (Same.seqT sub h1), fun p np => ?_⟩
    have g : Grow F H (upd F p (.lst ws)) (upd H p (.lst ws)) := Grow.new sub np
    exact hQ _ _ _ _ q g ⟨p, _, rfl, upd_same, hl, Reps.mono g.fF _ _ r⟩
  | fz xs =>
    cases e
    obtain ⟨a, ws, rfl, h1, hl, r⟩ := rv
    refine ⟨a, ws, rfl, .inl (Same.seq sub h1), fun p np => ?_⟩
    have g : Grow F H (upd F p (.lst ws)) (upd H p (.lst ws)) := Grow.new sub np
    exact hQ _ _ _ _ q g ⟨p, _, rfl, upd_same, hl, Reps.mono g.fF _ _ r⟩
  | _ => cases e
/-- isinstance(x, T), T a built-in type -/
inductive Tg where
  | non | bl | int | str | lst | tup | dic
def tgS : Tg → String
  | .non => "NoneType"
  | .bl => "bool"
  | .int => "int"
  | .str => "str"
  | .lst => "list"
  | .tup => "tuple"
  | .dic => "dict"
def tyT : D → Option Tg
  | .non => some .non
  | .bl _ => some .bl
  | .int _ => some .int
  | .str _ => some .str
  | .lst _ => some .lst
  | .tup _ => some .tup
  | .dic _ _ => some .dic
  | _ => none
/-- what isinstance says -/
def isTg : Tg → Tg → Bool
  | .non, .non => true
  | .bl, .bl => true
  | .bl, .int => true
  | .int, .int => true
  | .str, .str => true
  | .lst, .lst => true
  | .tup, .tup => true
  | .dic, .dic => true
  | _, _ => false
theorem kitB_ok (t T : Tg) (h : T ≠ .non) : kitB (tgS t) (tgS T) = some (isTg t T) := by
  cases T with
  | non => exact absurd rfl h
  | bl => cases t <;> decide +kernel
  | int => cases t <;> decide +kernel
  | str => cases t <;> decide +kernel
  | lst => cases t <;> decide +kernel
  | tup => cases t <;> decide +kernel
  | dic => cases t <;> decide +kernel
def isiD (ds : List D) (Q : D → Prop) : Prop := ∃ x T t, ds = [x, .any (.ty (tgS T))] ∧ tyT x = some t ∧ T ≠ .non ∧ Q (.bl (isTg t T))
theorem ty_of {F H : Hp} {d : D} {v : V} {t : Tg} (sub : Same F H) (h : Rep K F d v) (e : tyT d = some t) : TyX K H v (.type (tgS t)) := by
  cases d with
  | non => cases e; cases h; exact .base .non
  | bl b => cases e; cases h; exact .base (.bl b)
  | int i => cases e; cases h; exact .base (.int i)
  | str x => cases e; obtain ⟨rfl, _⟩ := h; exact .base (.str x)
  | lst xs => cases e; obtain ⟨a, vs, rfl, h1, _, _⟩ := h; exact .base (.lst (sub _ _ h1))
  | tup xs =>
    cases e
    obtain ⟨a, vs, rfl, h1, _, _⟩ := h
    rcases h1 with (h1 | ⟨o, h1⟩) | ⟨o, its, n, h1, h2, _⟩
    · exact .base (.tup (sub _ _ h1))
    · exact .fTuple (sub _ _ h1)
    · exact .kTuple h1 h2
  | dic ks ds => cases e; obtain ⟨a, vs, rfl, h1, _⟩ := h; exact .base (.dK (sub _ _ h1))
  | ins _ _ _ => cases e
  | any _ => cases e
  | fz _ => cases e
  | exc _ _ _ => cases e
  | cau _ _ _ _ => cases e
  | exk _ _ _ => cases e
theorem o_isi : OpN K (rIsi K) isiD := by
  intro F H ds vs Qd Q sub rs h hQ
  obtain ⟨x, T, t, rfl, e1, e2, q⟩ := h
  obtain ⟨v, _, rfl, rv, w, _, rfl, rw', rn⟩ := rs
  cases rn
  cases rw'
  exact ⟨v, .ty (tgS T), .type (tgS t), .type (tgS T), _, rfl, .ty _, ty_of sub rv e1, kit_ty (kitB_ok t T e2), hQ _ _ F H q (Grow.refl sub) rfl⟩
/-! ### methods of texts -/
theorem line2 {a : Str} (h : sOk a = true) : a.length + 2 ≤ sizeLine := Nat.le_trans (Nat.add_le_add_right (sOk_len h) 2) strLim_line
theorem line0 {a : Str} (h : sOk a = true) : a.length ≤ sizeLine := Nat.le_trans (Nat.le_add_right _ 2) (line2 h)
/-- a text cut at a text of one sign: its parts -/
theorem spl_mem {S : List Nat} : ∀ (k : Nat) (acc l : List Nat), ∀ p ∈ spl S k acc l, p.length ≤ acc.length + l.length ∧ ∀ c ∈ p, c ∈ acc ∨ c ∈ l
  | _, acc, [], p, hp => by
    rw [spl_nil] at hp
    have e : p = acc := by simpa using hp
    subst e
    exact ⟨by simp, fun c hc => .inl hc⟩
  | 0, acc, c :: r, p, hp => by
    cases h : pre S (c :: r) with
    | true =>
      rw [spl_hit h] at hp
      rcases List.mem_cons.mp hp with e | hp
      · subst e; exact ⟨by simp, fun c hc => .inl hc⟩
      · obtain ⟨h1, h2⟩ := spl_mem (S.length - 1) [] r p hp
        exact ⟨by simp at h1 ⊢; omega, fun c' hc => .inr (List.mem_cons_of_mem _ ((h2 c' hc).resolve_left (by simp)))⟩
    | false =>
      rw [spl_miss h] at hp
      obtain ⟨h1, h2⟩ := spl_mem 0 (acc ++ [c]) r p hp
      refine ⟨by simp at h1 ⊢; omega, fun c' hc => ?_⟩
      rcases h2 c' hc with z | z
      · rcases List.mem_append.mp z with z | z
        · exact .inl z
        · exact .inr (by have : c' = c := by simpa using z
                         subst this
                         exact List.mem_cons_self)
      · exact .inr (List.mem_cons_of_mem _ z)
  | k + 1, acc, c :: r, p, hp => by
    have e : spl S (k + 1) acc (c :: r) = spl S k acc r := rfl
    rw [e] at hp
    obtain ⟨h1, h2⟩ := spl_mem k acc r p hp
    exact ⟨by simp; omega, fun c' hc => (h2 c' hc).elim .inl fun z => .inr (List.mem_cons_of_mem _ z)⟩
/-- the parts of a text between signs c -/
def splS (c : Nat) (x : Str) : List Str := (spl [c] 0 [] (tl x)).map fun l => ⟨l.toArray⟩
theorem split_splS {c : Nat} (hc : c < 256) (x : Str) : Txt.split x ⟨#[c]⟩ = splS c x := by
  refine map_tl_inj ?_
  rw [split_spl x ⟨#[c]⟩ (by simp) (kind_ok (by simpa using hc))]
  unfold splS
  rw [List.map_map]
  show spl [c] 0 [] (tl x) = (spl [c] 0 [] (tl x)).map (fun l => l)
  rw [List.map_id']
theorem sOk_spl {c : Nat} {x : Str} (h : sOk x = true) : ∀ y ∈ splS c x, sOk y = true := fun y hy => by
  obtain ⟨l, hl, rfl⟩ := List.mem_map.mp hy
  obtain ⟨h1, h2⟩ := spl_mem 0 [] (tl x) l hl
  refine sOk_of ?_ fun c' hc => sOk_cps h c' ((h2 c' hc).resolve_left (by simp))
  have := sOk_len h
  rw [len_tl] at this
  show l.toArray.size ≤ strLim
  rw [List.size_toArray]
  rw [List.length_nil, Nat.zero_add] at h1
  exact Nat.le_trans h1 this
def splitD : D → List D → (D → Prop) → Prop := fun x ds Q => ∃ z c, x = .str z ∧ ds = [.str ⟨#[c]⟩] ∧ c < 256 ∧ Q (.lst ((splS c z).map .str))
theorem new_strs {F H : Hp} {ys : List Str} {Qd : D → Prop} {Q : VK} (sub : Same F H) (hl : ys.length ≤ sizeLine) (hy : ∀ y ∈ ys, sOk y = true) (h : Qd (.lst (ys.map .str))) (hQ : ∀ d v F' H', Qd d → Grow F H F' H' → Rep K F' d v → Q v H') : rNewStrs ys H Q := fun p np => by
  have g : Grow F H (upd F p (.lst (ys.map V.str))) (upd H p (.lst (ys.map V.str))) := Grow.new sub np
  exact hQ _ _ _ _ h g ⟨p, _, rfl, upd_same, by rw [List.length_map]; exact hl, reps_of_strs ys hy⟩
theorem o_split : OpM K (fun x xs H Q => ∃ a b, x = .str a ∧ xs = [.str b] ∧ (b.length == 0) = false ∧ a.length + 2 ≤ sizeLine ∧ rNewStrs (Txt.split a b) H Q) splitD := by
  intro F H dx x ds vs Qd Q sub rx rs h hQ
  obtain ⟨z, c, rfl, rfl, hc, q⟩ := h
  obtain ⟨rfl, hz⟩ := rx
  obtain ⟨v, _, rfl, ⟨rfl, _⟩, rn⟩ := rs
  cases rn
  refine ⟨z, ⟨#[c]⟩, rfl, rfl, rfl, line2 hz, ?_⟩
  have hl := PyProof.Rows.split_le z ⟨#[c]⟩
  have h2 := line2 hz
  rw [split_splS hc] at hl ⊢
  exact new_strs sub (by omega) (sOk_spl hz) q hQ
def joinS (z : Str) (ys : List Str) : Str := Str.join z ys
theorem joinL_len (S : List Nat) : ∀ ps : List (List Nat), (joinL S ps).length ≤ (ps.map List.length).sum + ps.length * S.length
  | [] => by simp [joinL]
  | [p] => by simp [joinL]
  | p :: q :: r => by
    have ih := joinL_len S (q :: r)
    have e : joinL S (p :: q :: r) = p ++ S ++ joinL S (q :: r) := (List.append_assoc _ _ _).symm
    rw [e]
    simp only [List.length_append, List.map_cons, List.sum_cons, List.length_cons] at ih ⊢
    have e2 : (r.length + 1 + 1) * S.length = (r.length + 1) * S.length + S.length := Nat.succ_mul _ _
    omega
theorem joinL_mem (S : List Nat) {c : Nat} : ∀ ps : List (List Nat), c ∈ joinL S ps → c ∈ S ∨ ∃ p ∈ ps, c ∈ p
  | [], h => by simp [joinL] at h
  | [p], h => .inr ⟨p, by simp, h⟩
  | p :: q :: r, h => by
    have e : joinL S (p :: q :: r) = p ++ S ++ joinL S (q :: r) := (List.append_assoc _ _ _).symm
    rw [e] at h
    rcases List.mem_append.mp h with h | h
    · rcases List.mem_append.mp h with h | h
      · exact .inr ⟨p, by simp, h⟩
      · exact .inl h
    · rcases joinL_mem S (q :: r) h with h | ⟨u, hu, hc⟩
      · exact .inl h
      · exact .inr ⟨u, List.mem_cons_of_mem _ hu, hc⟩
def joinD : D → List D → (D → Prop) → Prop := fun x ds Q => ∃ z ys, x = .str z ∧ (ds = [.lst (ys.map .str)] ∨ ds = [.tup (ys.map .str)]) ∧ (ys.map (·.length)).sum + ys.length * z.length ≤ strLim ∧ Q (.str (joinS z ys))
theorem o_join : OpM K (fun x xs H Q => ∃ a p, ∃ ys : List Str, x = .str a ∧ xs = [.ref p] ∧ (SqL K H p (ys.map V.str) ∨ SqT K H p (ys.map V.str)) ∧
    (ys.map (·.length)).sum + ys.length * a.length ≤ 16777216 ∧ Q (.str (Txt.join a ys)) H) joinD := by
  intro F H dx x ds vs Qd Q sub rx rs h hQ
  obtain ⟨z, ys, rfl, hd, hl, q⟩ := h
  obtain ⟨rfl, hz⟩ := rx
  have hs : strLim = 1000000 := rfl
  have fin : ∀ (hy : ∀ y ∈ ys, sOk y = true), Q (.str (Txt.join z ys)) H := fun hy => by
    rw [join_eq]
    refine hQ _ _ F H q (Grow.refl sub) ⟨rfl, sOk_of ?_ fun c hc => ?_⟩
    · rw [len_tl]
      show (tl (Str.join z ys)).length ≤ strLim
      rw [tl_join]
      refine Nat.le_trans (joinL_len _ _) ?_
      rw [List.map_map, List.length_map, ← len_tl]
      have e : ys.map (List.length ∘ tl) = ys.map (·.length) := List.map_congr_left fun y _ => (len_tl y).symm
      rw [e]
      exact hl
    · have hc' : c ∈ tl (Str.join z ys) := hc
      rw [tl_join] at hc'
      rcases joinL_mem _ _ hc' with h | ⟨p, hp, hcp⟩
      · exact sOk_cps hz c h
      · obtain ⟨y, hy', rfl⟩ := List.mem_map.mp hp
        exact sOk_cps (hy y hy') c hcp
  rcases hd with rfl | rfl
  · obtain ⟨v, _, rfl, ⟨a, ws, rfl, h1, _, r⟩, rn⟩ := rs
    cases rn
    obtain ⟨rfl, hy⟩ := reps_strs r
    exact ⟨z, a, ys, rfl, rfl, .inl (.inl (.inl (sub _ _ h1))), by omega, fin hy⟩
  · obtain ⟨v, _, rfl, ⟨a, ws, rfl, h1, _, r⟩, rn⟩ := rs
    cases rn
    obtain ⟨rfl, hy⟩ := reps_strs r
    exact ⟨z, a, ys, rfl, rfl, .inr (Same.seqT sub h1), by omega, fin hy⟩
def swD : D → List D → (D → Prop) → Prop := fun x ds Q => ∃ a b, x = .str a ∧ ds = [.str b] ∧ Q (.bl (Txt.startswith a b))
theorem o_sw : OpM K (fun x xs H Q => ∃ a b, x = .str a ∧ xs = [.str b] ∧ Q (.bl (Txt.startswith a b)) H) swD := by
  intro F H dx x ds vs Qd Q sub rx rs h hQ
  obtain ⟨a, b, rfl, rfl, q⟩ := h
  obtain ⟨rfl, _⟩ := rx
  obtain ⟨v, _, rfl, ⟨rfl, _⟩, rn⟩ := rs
  cases rn
  exact ⟨a, b, rfl, rfl, hQ _ _ F H q (Grow.refl sub) rfl⟩
/-- rpartition -/
theorem mt_rpartition : MtR X "str.rpartition" (fun x xs H Q => ∃ a b, x = .str a ∧ xs = [.str b] ∧ (b.length == 0) = false ∧ a.length ≤ sizeLine ∧
    ∀ p, H p = none → Q (.ref p) (upd H p (.tup [.str (Txt.rpartition a b).1, .str (Txt.rpartition a b).2.1, .str (Txt.rpartition a b).2.2]))) := by
  intro pins s σ H x xs v us Q I rx rs h
  obtain ⟨a, b, rfl, rfl, hb, hz, h⟩ := h
  obtain ⟨t, rfl⟩ := rx
  cases rs with
  | cons r1 rs =>
    cases rs
    obtain ⟨u, rfl⟩ := r1
    refine call_meets PySem.F.slot_str_rpartition (typeIs_str _ _ _) PySem.F.entry_str_rpartition (PySem.F.args_str_rpartition_2 _ _) (meets_str_rpartition a b t u hb hz) ?_
    unfold Txt.rpartition at h
    revert h
    cases Builtin.Str.lastOccurrence a b 0 a.length with
    | none => intro h; exact laid_parts I h
    | some i => intro h; exact laid_parts I h
def rpartD : D → List D → (D → Prop) → Prop := fun x ds Q => ∃ z c, x = .str z ∧ ds = [.str ⟨#[c]⟩] ∧ c < 0x110000 ∧ Q (.tup [.str (Txt.rpartition z ⟨#[c]⟩).1, .str (Txt.rpartition z ⟨#[c]⟩).2.1, .str (Txt.rpartition z ⟨#[c]⟩).2.2])
theorem sOk_sub {z : Str} (h : sOk z = true) (i j : Nat) : sOk (Builtin.Str.strSub z i j) = true := by
  refine sOk_of ?_ fun c hc => ?_
  · rw [len_tl, tl_strSub, List.length_take, List.length_drop]
    have := sOk_len h
    rw [len_tl] at this
    omega
  · have hc' : c ∈ tl (Builtin.Str.strSub z i j) := hc
    rw [tl_strSub] at hc'
    exact sOk_cps h c (List.mem_of_mem_drop (List.mem_of_mem_take hc'))
theorem sOk_rpart {z : Str} {b : Str} (h : sOk z = true) (hb : sOk b = true) : sOk (Txt.rpartition z b).1 = true ∧ sOk (Txt.rpartition z b).2.1 = true ∧ sOk (Txt.rpartition z b).2.2 = true := by
  unfold Txt.rpartition
  cases Builtin.Str.lastOccurrence z b 0 z.length with
  | none => exact ⟨by show sOk Str.empty = true; decide, by show sOk Str.empty = true; decide, h⟩
  | some i => exact ⟨sOk_sub h _ _, hb, sOk_sub h _ _⟩
theorem o_rpart : OpM K (fun x xs H Q => ∃ a b, x = .str a ∧ xs = [.str b] ∧ (b.length == 0) = false ∧ a.length ≤ sizeLine ∧
    ∀ p, H p = none → Q (.ref p) (upd H p (.tup [.str (Txt.rpartition a b).1, .str (Txt.rpartition a b).2.1, .str (Txt.rpartition a b).2.2]))) rpartD := by
  intro F H dx x ds vs Qd Q sub rx rs h hQ
  obtain ⟨z, c, rfl, rfl, hc, q⟩ := h
  obtain ⟨rfl, hz⟩ := rx
  obtain ⟨v, _, rfl, ⟨rfl, hb⟩, rn⟩ := rs
  cases rn
  obtain ⟨k1, k2, k3⟩ := sOk_rpart hz hb
  refine ⟨z, ⟨#[c]⟩, rfl, rfl, rfl, line0 hz, fun p np => ?_⟩
  have g : Grow F H (upd F p (.tup [.str (Txt.rpartition z ⟨#[c]⟩).1, .str (Txt.rpartition z ⟨#[c]⟩).2.1, .str (Txt.rpartition z ⟨#[c]⟩).2.2])) (upd H p (.tup [.str (Txt.rpartition z ⟨#[c]⟩).1, .str (Txt.rpartition z ⟨#[c]⟩).2.1, .str (Txt.rpartition z ⟨#[c]⟩).2.2])) := Grow.new sub np
  exact hQ _ _ _ _ q g ⟨p, _, rfl, .inl (.inl upd_same), by show 3 ≤ sizeLine; decide, .cons ⟨rfl, k1⟩ (.cons ⟨rfl, k2⟩ (.one ⟨rfl, k3⟩))⟩
def upperD : D → List D → (D → Prop) → Prop := fun x ds Q => ∃ z, x = .str z ∧ ds = [] ∧ sOk (Txt.upper z) = true ∧ Q (.str (Txt.upper z))
theorem o_upper : OpM K (fun x xs H Q => ∃ a, x = .str a ∧ xs = [] ∧ a.length ≤ 5592405 ∧ Q (.str (Txt.upper a)) H) upperD := by
  intro F H dx x ds vs Qd Q sub rx rs h hQ
  obtain ⟨z, rfl, rfl, hu, q⟩ := h
  obtain ⟨rfl, hz⟩ := rx
  cases rs
  have := sOk_len hz
  have hs : strLim = 1000000 := rfl
  exact ⟨z, rfl, rfl, by omega, hQ _ _ F H q (Grow.refl sub) ⟨rfl, hu⟩⟩
end
end DL

set_option Elab.async false
set_option linter.all false
set_option maxRecDepth 100000
namespace DL
open PySem PySem.Spec PyProof.Rows L2 TL

/-! ### a list that is a def's own: its items read and stored, its length -/
section
variable {X : Cx} {m : Mem} {E : Ent m} {e b : Expr} {te tb : DT m} {pos : Pos}
def dIxO {m : Mem} (i : Nat) (tb : DT m) : DT m := fun ρ s Q => (∃ ds0, ρ[i]? = some (.ow (.lst ds0))) ∧ tb ρ s fun y ρ1 s1 => ∃ k ds d, y = .int k ∧ ρ1[i]? = some (.ow (.lst ds)) ∧ atI ds k = some d ∧ Q d ρ1 s1
theorem de_ixO (i : Nat) {x : Str} {xpos : Pos} (hb : PE X b (up X.K m tb)) (hN : X.N[i]? = some x := by rfl) (hv : Vis X.env.scope x := by first | exact Or.inl rfl | exact Or.inr (Or.inl rfl) | exact Or.inr (Or.inr rfl))
    (hd : (x == ("__debug__" : Str)) = false := by decide) (hcd : (x == ("__classdict__" : Str)) = false := by decide) (hs : PlainIx b := by exact fun _ _ => rfl) : PE X (.Subscript (.Name x xpos) b pos) (up X.K m (dIxO i tb)) :=
  PE.imp (pe_ix ix_list (pv i hN hv hd hcd) hb hs) fun σ H Q h => by
    obtain ⟨F, ρ, s, Qd, r, ⟨⟨ds0, e0⟩, ht⟩, hQ⟩ := h
    obtain ⟨p, ho, h1, h2, ⟨vs0, rfl, hl0, rs0⟩, h4, h5⟩ := r.own_at e0
    refine ⟨_, h1, F, ρ, s, _, r, ht, fun y ρ1 s1 v F1 H1 ⟨k, ds, d, ey, e1, ea, q1⟩ r1 st1 rv => ?_⟩
    subst ey
    cases rv
    obtain ⟨p', ho, g1, g2, ⟨vs, rfl, hl, rs⟩, g4, g5⟩ := r1.own_at e1
    rw [h1] at g1; cases g1
    obtain ⟨w, ew, rw'⟩ := rs.atI ea
    exact ⟨p, vs, k, w, rfl, rfl, .inl (.inl g2), ew, hQ d ρ1 s1 w F1 H1 q1 r1 st1 rw'⟩
/-- x[i] = e -/
def dStO {m : Mem} (i : Nat) (te tb : DT m) : DTS m := fun dd ρ s => te ρ s fun d ρ1 s1 => (∃ ds0, ρ1[i]? = some (.ow (.lst ds0))) ∧ tb ρ1 s1 fun y ρ2 s2 => ∃ k ds j, y = .int k ∧ ρ2[i]? = some (.ow (.lst ds)) ∧ ixN ds.length k = some j ∧ dd.nx (ρ2.set i (.ow (.lst (ds.set j d)))) s2
theorem ds_stO (i : Nat) {x : Str} {xpos spos : Pos} (he : PE X e (up X.K m te)) (hb : PE X b (up X.K m tb)) (hN : X.N[i]? = some x := by rfl) (hv : Vis X.env.scope x := by first | exact Or.inl rfl | exact Or.inr (Or.inl rfl) | exact Or.inr (Or.inr rfl))
    (hd : (x == ("__debug__" : Str)) = false := by decide) (hcd : (x == ("__classdict__" : Str)) = false := by decide)
    (ha : ∀ v, assign (.Subscript (.Name x xpos) b spos) X.env v = (do
      let ov ← holding [v] (eval (.Name x xpos) X.env)
      let iv ← holding [v, ov] (eval b X.env)
      standAt spos
      holding [v, ov, iv] (setItem ov iv v)
      release [v, ov, iv] []) := by intro _; rfl)
    (hs : swapsWithSole [.Subscript (.Name x xpos) b spos] e pos.line X.env = pure false := by rfl) (hw : swappedStores [.Subscript (.Name x xpos) b spos] e X.env = pure none := by rfl)
    (h1 : (assignEach [.Subscript (.Name x xpos) b spos] X.env).map (·.2) = [assign (.Subscript (.Name x xpos) b spos) X.env] := by rfl) :
    PS X (.Assign [.Subscript (.Name x xpos) b spos] e pos) (upS X.K m E (dStO i te tb)) :=
  PS.imp (ps_asg he (pg_sub (pv i hN hv hd hcd) hb set_list ha) hs hw h1) fun DD σ H h => by
    obtain ⟨F, ρ, s, dd, r, o, ht, f⟩ := h
    refine ⟨F, ρ, s, _, r, ht, fun d ρ1 s1 v F1 H1 ⟨⟨ds0, e0⟩, q1⟩ r1 st1 rv => ?_⟩
    obtain ⟨p, ho, h1, h2, ⟨vs0, rfl, hl0, rs0⟩, h4, h5⟩ := r1.own_at e0
    refine ⟨_, h1, F1, ρ1, s1, _, r1, q1, fun y ρ2 s2 u F2 H2 ⟨k, ds, j, ey, e2, ej, q2⟩ r2 st2 ru => ?_⟩
    subst ey
    cases ru
    obtain ⟨p', ho, g1, g2, ⟨vs, rfl, hl, rs⟩, g4, g5⟩ := r2.own_at e2
    rw [h1] at g1; cases g1
    refine ⟨p, vs, k, j, rfl, rfl, g2, by rw [rs.length]; exact ej, ?_⟩
    refine f.nx F2 _ σ _ s2 (st1.ext.trans st2.ext) (r2.write (o' := .lst (ds.set j d)) e2 h1 ⟨vs.set j v, rfl, by rw [List.length_set]; exact hl, rs.set (Rep.mono st2.ext _ _ rv) j⟩) (((o.stp st1).stp st2).write (K := X.K) e2 h1) q2
end

/-! ### further -/
section
variable {X : Cx} {m : Mem} {E : Ent m}
def dNever {m : Mem} : DTS m := fun _ _ _ => False
theorem ds_never {st : Stmt} : PS X st (upS X.K m E dNever) := PS.imp ps_never fun DD σ H h => by
  obtain ⟨F, ρ, s, dd, r, o, ht, f⟩ := h
  exact ht.elim
def powD : D → D → (D → Prop) → Prop
  | .int i, .int j, Q => CPow i j ∧ Q (.int (i ^ j.toNat))
  | _, _, _ => False
theorem o_pow {K : PySem.W.Frag} : Op2 K (rI CPow fun i j => .int (i ^ j.toNat)) powD := o_ints fun x y Qd h => by
  cases x with
  | int i => cases y with
    | int j => exact ⟨i, j, rfl, rfl, h.1, h.2⟩
    | _ => exact False.elim h
  | _ => cases y <;> exact False.elim h
theorem u64R {A : Around} {k : Nat} (hr : Room k A) : A.units + 64 < cLine := by have := hr.un; omega
theorem u1 {A : Around} {k : Nat} (hr : RoomG k A) : A.units + 1 < cLine := by have := hr.r.un; omega
theorem u64 {A : Around} {k : Nat} (hr : RoomG k A) : A.units + 64 < cLine := by have := hr.r.un; omega
theorem u65 {A : Around} {k : Nat} (hr : RoomG k A) : A.units + 65 < cLine := by have := hr.r.un; omega
end

/-! ### the deck: the draws of a script -/
structure DkS where
  adr : Option (Addr × Addr × Addr)
  n : Nat
def DkAt (H : Hp) (a b c : Addr) (n : Nat) : Prop := a ≠ b ∧ a ≠ c ∧ b ≠ c ∧ ∃ (big all : List Int) (t : Int), H a = some (.lst [.ref b, .ref c, .int t]) ∧ H b = some (.lst (big.map V.int)) ∧ H c = some (.lst (all.map V.int)) ∧ all ≠ [] ∧ all.length ≤ 1000 ∧ big.length ≤ 1000 ∧ 0 ≤ t ∧ t ≤ n
def Mem.deck : Mem where
  S := DkS
  M := fun s H => ∀ a b c, s.adr = some (a, b, c) → DkAt H a b c s.n
  R := fun s x => ∃ a b c, s.adr = some (a, b, c) ∧ (x = a ∨ x = b ∨ x = c)
  loc := fun s H H' h k a b c e => by
    obtain ⟨n1, n2, n3, big, all, t, h1, h2, h3, r⟩ := h a b c e
    exact ⟨n1, n2, n3, big, all, t, (k a ⟨a, b, c, e, .inl rfl⟩).trans h1, (k b ⟨a, b, c, e, .inr (.inl rfl)⟩).trans h2, (k c ⟨a, b, c, e, .inr (.inr rfl)⟩).trans h3, r⟩
  there := fun s H x h ⟨a, b, c, e, hx⟩ => by
    obtain ⟨n1, n2, n3, big, all, t, h1, h2, h3, r⟩ := h a b c e
    rcases hx with rfl | rfl | rfl
    · rw [h1]; simp
    · rw [h2]; simp
    · rw [h3]; simp
/-- how many draws there may be -/
abbrev drawLim : Nat := 2 ^ 60
/-- a draw: a number below many -/
def spNext : DSp Mem.deck := fun ds s Q => ∃ a b c n, s.adr = some (a, b, c) ∧ ds = [.any (.ref a), .int n] ∧ 0 < n ∧ n < 1073741824 ∧ s.n < drawLim ∧ ∀ (r : Int) (k : Nat), 0 ≤ r → r < n → k = s.n + 1 → Q (.int r) ⟨s.adr, k⟩
theorem spNext_len : ∀ ds s Qd, spNext ds s Qd → ds.length = 2 := fun ds s Qd ⟨_, _, _, _, _, e, _⟩ => by rw [e]; rfl
/-- the deck of a script -/
def spDeck : DSp Mem.deck := fun ds s Q => ∃ ns : List Int, ds = [.fz (ns.map .int)] ∧ ns.length ≤ 63 ∧ s.adr = none ∧ ∀ a b c, Q (.any (.ref a)) ⟨some (a, b, c), s.n⟩
theorem spDeck_len : ∀ ds s Qd, spDeck ds s Qd → ds.length = 1 := fun ds s Qd ⟨_, e, _⟩ => by rw [e]; rfl
def absI (i : Int) : Int := if i < 0 then -i else i
theorem ix0 (x : Int) (bg : List Int) : ixN (((x :: bg).map V.int).length) 0 = some 0 := by
  unfold ixN
  rw [if_pos (by decide), if_pos (by rw [List.length_map, List.length_cons]; omega)]
  rfl
end DL

set_option Elab.async false
set_option linter.all false
set_option maxRecDepth 100000
namespace DL
open PySem PySem.Spec PyProof.Rows L2 TL

section
variable {X : Cx} {m : Mem} {pos : Pos}
theorem de_globI {x : Str} {i : Int} (hg : Gl X x) (hm : ∃ t, X.mg x = some (.int i t)) (hd : (x == ("__debug__" : Str)) = false := by decide) : PE X (.Name x pos) (up X.K m (dC (.int i))) := by
  obtain ⟨t, hm⟩ := hm
  exact de_glob (v := .int i) hg hm ⟨_, rfl⟩ (fun _ => rfl) hd
end
/-- the law's own promise -/
def spLaw : DSp Mem.deck := fun ds s Q => ∃ ns : List Int, ds = [.fz (ns.map .int)] ∧ ns.length ≤ 63 ∧ s.adr = none ∧ s.n = 0 ∧ ∀ s', Q (.bl true) s'
theorem law_start {K : PySem.W.Frag} {H : Hp} {a : Addr} {ns : List Int} {E : XK} (hl : ns.length ≤ 63) (hO : Only H) (hS : SqL K H a (ns.map V.int)) : lift K Mem.deck 1 spLaw [.ref a] H (fun v _ => v = .bl true) E := by
  refine ⟨rfl, H, [.fz (ns.map .int)], ⟨none, 0⟩, fun d _ => d = .bl true, Same.refl H, (fun _ _ _ e => by cases e), (fun x ⟨_, _, _, e, _⟩ => by cases e), .one ⟨a, _, rfl, hS, ?_, reps_of_ints ns⟩, ⟨ns, rfl, hl, rfl, rfl, fun _ => rfl⟩, fun d s' v F' H' e _ rv => ?_⟩
  · rw [List.length_map]; exact Nat.le_of_lt (small1000 (by omega))
  · subst e; exact rv

/-! ### small facts -/
theorem pick_ints (l : List Int) (r : Int) (h0 : 0 ≤ r) (h1 : r < (l.length : Nat)) : ∃ k ∈ l, atI (l.map D.int) r = some (.int k) := by
  obtain ⟨j, hj⟩ : ∃ j : Nat, r = (j : Int) := ⟨r.toNat, by omega⟩
  subst hj
  have hj2 : j < l.length := by omega
  exact ⟨l[j], List.getElem_mem hj2, atI_nat (by rw [List.getElem?_map, List.getElem?_eq_getElem hj2]; rfl)⟩
theorem pick_any {α : Type} (l : List α) (r : Int) (h0 : 0 ≤ r) (h1 : r < (l.length : Nat)) : ∃ k ∈ l, atI l r = some k := by
  obtain ⟨j, hj⟩ : ∃ j : Nat, r = (j : Int) := ⟨r.toNat, by omega⟩
  subst hj
  have hj2 : j < l.length := by omega
  exact ⟨l[j], List.getElem_mem hj2, atI_nat (List.getElem?_eq_getElem hj2)⟩
theorem pick_map {α : Type} (f : α → D) (l : List α) (r : Int) (h0 : 0 ≤ r) (h1 : r < (l.length : Nat)) : ∃ k ∈ l, atI (l.map f) r = some (f k) := by
  obtain ⟨d, hd, e⟩ := pick_any (l.map f) r h0 (by rw [List.length_map]; exact h1)
  obtain ⟨k, hk, rfl⟩ := List.mem_map.mp hd
  exact ⟨k, hk, e⟩
/-- one letter -/
def one (c : Nat) : Str := ⟨#[c]⟩
theorem join0 (ls : List Nat) : tl (joinS ⟨#[]⟩ (ls.map one)) = ls := by
  show tl (Str.join ⟨#[]⟩ (ls.map one)) = ls
  rw [tl_join, List.map_map]
  show joinL [] (ls.map fun c => [c]) = ls
  have h : ∀ l : List Nat, joinL [] (l.map fun c => [c]) = l := fun l => by
    induction l with
    | nil => rfl
    | cons a r ih =>
      cases r with
      | nil => rfl
      | cons b t =>
        show [a] ++ ([] ++ joinL [] ((b :: t).map fun c => [c])) = a :: b :: t
        rw [ih]
        rfl
  exact h ls
theorem letters_tl : tl ("abcdefghijklmnopqrstuvwxyz" : Str) = [97, 98, 99, 100, 101, 102, 103, 104, 105, 106, 107, 108, 109, 110, 111, 112, 113, 114, 115, 116, 117, 118, 119, 120, 121, 122] := by decide +kernel
theorem letter_at {r : Int} (h0 : 0 ≤ r) (h1 : r < 26) : ∃ c, 97 ≤ c ∧ c ≤ 122 ∧ atI (tl ("abcdefghijklmnopqrstuvwxyz" : Str)) r = some c := by
  rw [letters_tl]
  obtain ⟨c, hc, e⟩ := pick_any [97, 98, 99, 100, 101, 102, 103, 104, 105, 106, 107, 108, 109, 110, 111, 112, 113, 114, 115, 116, 117, 118, 119, 120, 121, 122] r h0 h1
  have hall : ∀ c ∈ [97, 98, 99, 100, 101, 102, 103, 104, 105, 106, 107, 108, 109, 110, 111, 112, 113, 114, 115, 116, 117, 118, 119, 120, 121, 122], 97 ≤ c ∧ c ≤ 122 := by decide
  exact ⟨c, (hall c hc).1, (hall c hc).2, e⟩
/-- a name: one to eight letters -/
def NameOk (x : Str) : Prop := 1 ≤ x.length ∧ x.length ≤ 8 ∧ ∀ c ∈ tl x, 97 ≤ c ∧ c ≤ 122
theorem nameOk_of {ls : List Nat} (h1 : 1 ≤ ls.length) (h8 : ls.length ≤ 8) (h : ∀ c ∈ ls, 97 ≤ c ∧ c ≤ 122) : NameOk (joinS ⟨#[]⟩ (ls.map one)) := by
  have e := join0 ls
  exact ⟨by rw [len_tl, e]; exact h1, by rw [len_tl, e]; exact h8, by rw [e]; exact h⟩
theorem sum_ones (ls : List Nat) : ((ls.map one).map (·.length)).sum = ls.length := by
  induction ls with
  | nil => rfl
  | cons a r ih => rw [List.map_cons, List.map_cons, List.sum_cons, ih, List.length_cons]; show 1 + r.length = _; omega

/-! ### what the law's own defs promise -/
def spName : DSp Mem.deck := fun ds s Q => ∃ a b c, s.adr = some (a, b, c) ∧ ds = [.any (.ref a)] ∧ s.n + 20 < drawLim ∧ ∀ x k, NameOk x → k ≤ s.n + 20 → Q (.str x) ⟨s.adr, k⟩
theorem spName_len : ∀ ds s Qd, spName ds s Qd → ds.length = 1 := fun ds s Qd ⟨_, _, _, _, e, _⟩ => by rw [e]; rfl
def spPool : DSp Mem.deck := fun ds s Q => ∃ a b c n, s.adr = some (a, b, c) ∧ ds = [.any (.ref a), .int n] ∧ 2 ≤ n ∧ n ≤ 10 ∧ s.n + 300 < drawLim ∧ ∀ (xs : List Str) k, (xs.length : Nat) = n.toNat → (∀ x ∈ xs, NameOk x) → k ≤ s.n + 300 → Q (.lst (xs.map .str)) ⟨s.adr, k⟩
theorem spPool_len : ∀ ds s Qd, spPool ds s Qd → ds.length = 2 := fun ds s Qd ⟨_, _, _, _, _, e, _⟩ => by rw [e]; rfl
/-- a path: names of a pool with dots between -/
def PathOf (pool : List Str) (most : Int) (x : Str) : Prop := ∃ ns : List Str, 1 ≤ ns.length ∧ (ns.length : Int) ≤ most ∧ (∀ y ∈ ns, y ∈ pool) ∧ x = joinS ⟨#[46]⟩ ns
def spPath : DSp Mem.deck := fun ds s Q => ∃ a b c pool most, s.adr = some (a, b, c) ∧ ds = [.any (.ref a), .lst (pool.map .str), .int most] ∧ 1 ≤ most ∧ most ≤ 10 ∧ 0 < pool.length ∧ pool.length ≤ 100 ∧ (∀ x ∈ pool, x.length ≤ 8) ∧ s.n + 20 < drawLim ∧
  ∀ x k, PathOf pool most x → k ≤ s.n + 20 → Q (.str x) ⟨s.adr, k⟩
theorem spPath_len : ∀ ds s Qd, spPath ds s Qd → ds.length = 3 := fun ds s Qd ⟨_, _, _, _, _, _, e, _⟩ => by rw [e]; rfl
theorem sum_le8 {ns : List Str} (h : ∀ y ∈ ns, y.length ≤ 8) : (ns.map (·.length)).sum ≤ 8 * ns.length := by
  induction ns with
  | nil => exact Nat.zero_le _
  | cons a r ih =>
    have h1 := h a List.mem_cons_self
    have h2 := ih fun y hy => h y (List.mem_cons_of_mem _ hy)
    rw [List.map_cons, List.sum_cons, List.length_cons]
    omega
theorem joinS_len {z : Str} {ns : List Str} : (joinS z ns).length ≤ (ns.map (·.length)).sum + ns.length * z.length := by
  rw [len_tl]
  show (tl (Str.join z ns)).length ≤ _
  rw [tl_join]
  refine Nat.le_trans (joinL_len _ _) ?_
  rw [List.map_map, List.length_map, ← len_tl]
  have e : ns.map (List.length ∘ tl) = ns.map (·.length) := List.map_congr_left fun y _ => (len_tl y).symm
  rw [e]
  exact Nat.le_refl _
theorem PathOf.len {pool : List Str} {most : Int} {x : Str} (h : PathOf pool most x) (hp : ∀ y ∈ pool, y.length ≤ 8) (hm : most ≤ 10) : x.length ≤ 90 := by
  obtain ⟨ns, h1, h2, h3, rfl⟩ := h
  have q1 := joinS_len (z := ⟨#[46]⟩) (ns := ns)
  have q2 := sum_le8 fun y hy => hp y (h3 y hy)
  have q3 : (⟨#[46]⟩ : Str).length = 1 := rfl
  rw [q3] at q1
  omega

/-! ### paths of the program -/
def dot : Str := ⟨#[46]⟩
def coversS (p o : Str) : Bool := o == p || Txt.startswith o (p ++ dot)
/-- .. as the law reads it -/
def lcov (p o : Str) : Bool := (splS 46 o).take (splS 46 p).length == splS 46 p
def spCovers {m : Mem} : DSp m := fun ds s Q => ∃ p o : Str, ds = [.str p, .str o] ∧ p.length ≤ 1000 ∧ Q (.bl (coversS p o)) s
theorem spCovers_len {m : Mem} : ∀ ds s Qd, (spCovers : DSp m) ds s Qd → ds.length = 2 := fun ds s Qd ⟨_, _, e, _⟩ => by rw [e]; rfl
def spLcov {m : Mem} : DSp m := fun ds s Q => ∃ p o : Str, ds = [.str p, .str o] ∧ Q (.bl (lcov p o)) s
theorem spLcov_len {m : Mem} : ∀ ds s Qd, (spLcov : DSp m) ds s Qd → ds.length = 2 := fun ds s Qd ⟨_, _, e, _⟩ => by rw [e]; rfl
def optS : Option Str → D
  | none => .non
  | some x => .str x
end DL

set_option Elab.async false
set_option linter.all false
set_option maxRecDepth 100000
namespace DL
open PySem PySem.Spec PyProof.Rows L2 TL

/-! ### texts cut at one sign -/
def cutL (c : Nat) : List Nat → List Nat → List (List Nat)
  | acc, [] => [acc]
  | acc, x :: r => if x = c then acc :: cutL c [] r else cutL c (acc ++ [x]) r
theorem spl_cut (c : Nat) : ∀ (l acc : List Nat), spl [c] 0 acc l = cutL c acc l
  | [], acc => spl_nil _ _ _
  | x :: r, acc => by
    by_cases h : x = c
    · subst h
      have e : pre [x] (x :: r) = true := pre_self [x] r
      rw [spl_hit e, cutL, if_pos rfl]
      show acc :: spl [x] 0 [] r = _
      rw [spl_cut x r []]
    · rw [spl_miss (pre_of_head [] r h), cutL, if_neg h, spl_cut c r]
theorem cutL_ne (c : Nat) : ∀ (l acc : List Nat), cutL c acc l ≠ []
  | [], acc => by simp [cutL]
  | x :: r, acc => by
    rw [cutL]
    by_cases h : x = c
    · rw [if_pos h]; simp
    · rw [if_neg h]; exact cutL_ne c r _
theorem cutL_app (c : Nat) (b : List Nat) : ∀ (a acc : List Nat), cutL c acc (a ++ c :: b) = cutL c acc a ++ cutL c [] b
  | [], acc => by
    show (if c = c then acc :: cutL c [] b else cutL c (acc ++ [c]) b) = acc :: cutL c [] b
    rw [if_pos rfl]
  | x :: r, acc => by
    show cutL c acc (x :: (r ++ c :: b)) = _
    rw [cutL, cutL]
    by_cases h : x = c
    · rw [if_pos h, if_pos h, cutL_app c b r]; rfl
    · rw [if_neg h, if_neg h, cutL_app c b r]
theorem joinL_cons (S p : List Nat) {q : List (List Nat)} (h : q ≠ []) : joinL S (p :: q) = p ++ (S ++ joinL S q) := by
  cases q with
  | nil => exact absurd rfl h
  | cons a r => rfl
theorem joinL_app (S : List Nat) {B : List (List Nat)} (hB : B ≠ []) : ∀ {A : List (List Nat)}, A ≠ [] → joinL S (A ++ B) = joinL S A ++ (S ++ joinL S B)
  | [], h => absurd rfl h
  | [p], _ => by
    show joinL S (p :: B) = p ++ _
    rw [joinL_cons S p hB]
  | p :: q :: r, _ => by
    show joinL S (p :: ((q :: r) ++ B)) = _
    rw [joinL_cons S p (by simp), joinL_app S hB (by simp), joinL_cons S p (by simp)]
    simp only [List.append_assoc]
theorem joinL_cut (c : Nat) : ∀ (l acc : List Nat), joinL [c] (cutL c acc l) = acc ++ l
  | [], acc => by simp [cutL, joinL]
  | x :: r, acc => by
    rw [cutL]
    by_cases h : x = c
    · rw [if_pos h, joinL_cons _ _ (cutL_ne c r []), joinL_cut c r, h]; simp
    · rw [if_neg h, joinL_cut c r]; simp
/-- the parts of a text, and the text again -/
theorem tl_splS (c : Nat) (x : Str) : (splS c x).map tl = cutL c [] (tl x) := by
  unfold splS
  rw [spl_cut, List.map_map]
  exact List.map_id' _
theorem splS_ne (c : Nat) (x : Str) : splS c x ≠ [] := fun h => by
  have := tl_splS c x
  rw [h] at this
  exact cutL_ne c _ _ this.symm
theorem join_splS (c : Nat) (x : Str) : joinS ⟨#[c]⟩ (splS c x) = x := by
  refine ext_tl ?_
  show tl (Str.join _ _) = _
  rw [tl_join, tl_splS]
  exact joinL_cut c _ _
theorem splS_inj {c : Nat} {x y : Str} (h : splS c x = splS c y) : x = y := by rw [← join_splS c x, h, join_splS]
theorem splS_app (c : Nat) (x y : Str) : splS c (x ++ ⟨#[c]⟩ ++ y) = splS c x ++ splS c y := by
  refine map_tl_inj ?_
  rw [List.map_append, tl_splS, tl_splS, tl_splS, tl_append, tl_append]
  show cutL c [] (tl x ++ [c] ++ tl y) = _
  rw [List.append_assoc]
  exact cutL_app c _ _ _
theorem splS_join {c : Nat} {ns : List Str} (h : ns ≠ []) (hf : ∀ x ∈ ns, c ∉ tl x) : splS c (joinS ⟨#[c]⟩ ns) = ns := by
  refine map_tl_inj ?_
  rw [tl_splS, ← spl_cut]
  show spl [c] 0 [] (tl (Str.join _ _)) = _
  rw [tl_join]
  exact spl_join (by simpa using h) fun p hp => by
    obtain ⟨x, hx, rfl⟩ := List.mem_map.mp hp
    exact hf x hx
/-- a text begins with another -/
theorem sw_iff (x y : Str) : Txt.startswith x y = true ↔ ∃ r, x = y ++ r := by
  have key : Txt.startswith x y = true ↔ (tl x).take (tl y).length = tl y := by
    show (decide (0 + y.length ≤ x.length) && Builtin.Str.subAt x y 0) = true ↔ _
    rw [Bool.and_eq_true, StrLaws.subAt_eq, List.drop_zero, len_tl, len_tl]
    constructor
    · rintro ⟨_, h⟩; exact eq_of_beq h
    · intro h
      refine ⟨decide_eq_true ?_, by rw [h]; exact beq_self_eq_true _⟩
      have := congrArg List.length h
      rw [List.length_take] at this
      omega
  rw [key]
  constructor
  · intro h
    refine ⟨⟨((tl x).drop (tl y).length).toArray⟩, ext_tl ?_⟩
    rw [tl_append]
    show tl x = tl y ++ (tl x).drop (tl y).length
    have e := List.take_append_drop (tl y).length (tl x)
    rw [h] at e
    exact e.symm
  · rintro ⟨r, rfl⟩
    rw [tl_append, List.take_left]
/-- the two ways to say: p covers o -/
theorem cov_eq (p o : Str) : coversS p o = lcov p o := by
  have key : coversS p o = true ↔ lcov p o = true := by
    unfold coversS lcov
    rw [Bool.or_eq_true, sw_iff, beq_iff_eq, beq_iff_eq]
    constructor
    · rintro (rfl | ⟨r, rfl⟩)
      · rw [List.take_length]
      · rw [show p ++ dot ++ r = p ++ ⟨#[46]⟩ ++ r from rfl, splS_app, List.take_left]
    · intro h
      have e := List.take_append_drop (splS 46 p).length (splS 46 o)
      rw [h] at e
      cases q : (splS 46 o).drop (splS 46 p).length with
      | nil => rw [q, List.append_nil] at e; exact .inl (splS_inj e).symm
      | cons a r =>
        rw [q] at e
        refine .inr ⟨joinS dot (a :: r), ?_⟩
        have e2 := join_splS 46 o
        rw [← e] at e2
        rw [← e2]
        refine ext_tl ?_
        show tl (Str.join _ _) = tl (p ++ dot ++ Str.join _ _)
        rw [tl_join, List.map_append, joinL_app _ (by simp) (by simpa using splS_ne 46 p), tl_append, tl_append, tl_join, List.append_assoc]
        have e3 := congrArg tl (join_splS 46 p)
        have e4 : tl (joinS ⟨#[46]⟩ (splS 46 p)) = joinL [46] ((splS 46 p).map tl) := tl_join _ _
        rw [e4] at e3
        show joinL [46] _ ++ _ = _
        rw [e3]
        rfl
  cases h1 : coversS p o <;> cases h2 : lcov p o
  · rfl
  · rw [key.mpr h2] at h1; cases h1
  · rw [key.mp h1] at h2; cases h2
  · rfl
end DL

set_option Elab.async false
set_option linter.all false
set_option maxRecDepth 100000
namespace DL
open PySem PySem.Spec PyProof.Rows L2 TL
theorem eqs (a b : Str) : eqD (.str a) (.str b) = decide (a = b) := by
  show (a == b) = _
  by_cases h : a = b
  · rw [decide_eq_true h, h]; simp
  · rw [decide_eq_false h]; exact beq_eq_false_iff_ne.mpr h
theorem eqss : ∀ (xs ys : List Str), eqDs (xs.map .str) (ys.map .str) = (xs == ys)
  | [], [] => rfl
  | [], _ :: _ => rfl
  | _ :: _, [] => rfl
  | x :: xs, y :: ys => by
    show (eqD (.str x) (.str y) && eqDs (xs.map .str) (ys.map .str)) = (x == y && xs == ys)
    rw [eqss xs ys]
    rfl
theorem plain_strs : ∀ (n : Nat) (xs : List Str), plainDs n (xs.map .str) = true
  | _, [] => by simp [plainDs]
  | n, x :: xs => by
    have := plain_strs n xs
    simp only [List.map_cons, plainDs, this, Bool.and_true]
    simp [plainD]
theorem plain_lst (xs : List Str) : plainD 60 (.lst (xs.map .str)) = true := by
  simp only [plainD]
  exact plain_strs 59 xs
theorem beq_dec (a b : Str) : (a == b) = decide (a = b) := by
  by_cases h : a = b
  · rw [decide_eq_true h, h]; simp
  · rw [decide_eq_false h]; exact beq_eq_false_iff_ne.mpr h

theorem map_str_inj : ∀ {xs ys : List Str}, xs.map D.str = ys.map D.str → xs = ys
  | [], [], _ => rfl
  | [], _ :: _, h => by cases h
  | _ :: _, [], h => by cases h
  | x :: xs, y :: ys, h => by
    rw [List.map_cons, List.map_cons] at h
    injection h with h1 h2
    injection h1 with h1
    rw [h1, map_str_inj h2]
theorem cut_take (xs : List D) (n : Nat) : cutD xs none (some (n : Int)) = xs.take n := by
  unfold cutD
  rw [HT.sIx_none, List.drop_zero, Nat.sub_zero, show HT.sIx xs.length xs.length (some (n : Int)) = min n xs.length from HT.sIx_nat _ _ n]
  by_cases h : n ≤ xs.length
  · rw [Nat.min_eq_left h]
  · rw [Nat.min_eq_right (by omega), List.take_length, List.take_of_length_le (by omega)]
theorem ixN_n {n j : Nat} (hj : j < n) : ixN n (j : Int) = some j := by
  unfold ixN
  rw [if_pos (by omega), if_pos (by omega)]
  simp
theorem tl_cut (x : Str) (n : Nat) : tl (cutS x none (some (n : Int))) = (tl x).take n := by
  show (((x.cps.toList.drop (HT.sIx x.length 0 none)).take (HT.sIx x.length x.length (some (n : Int)) - HT.sIx x.length 0 none)).toArray).toList = (tl x).take n
  rw [HT.sIx_none, List.drop_zero, Nat.sub_zero, show HT.sIx x.length x.length (some (n : Int)) = min n x.length from HT.sIx_nat _ _ n]
  show (tl x).take (min n x.length) = (tl x).take n
  by_cases h : n ≤ x.length
  · rw [Nat.min_eq_left h]
  · rw [Nat.min_eq_right (by omega), len_tl, List.take_length, List.take_of_length_le (by rw [← len_tl]; omega)]
theorem rng_pre {lo : Int} {n : Nat} {pre : List D} {x : D} {post : List D} (h : rngD lo n = pre ++ x :: post) : pre.length < n ∧ x = .int (lo + (pre.length : Int)) := by
  have hl := congrArg List.length h
  rw [rngD_length, List.length_append, List.length_cons] at hl
  have hp : pre.length < n := by omega
  refine ⟨hp, ?_⟩
  have e : (rngD lo n)[pre.length]? = some x := by rw [h]; simp
  unfold rngD at e
  rw [List.getElem?_map, List.getElem?_range hp] at e
  exact (Option.some.inj e).symm
def T_covers {m : Mem} : DTS m :=
  (dRet (dOrV (dCm eqC (dVar 1) (dVar 0)) (dMt "str" swD (dVar 1) (daCons (dOp addD (dVar 0) (dC (D.str (Str.ofString ".")))) daNil))))
theorem read_covers {m : Mem} : ∀ ds s Qd, (spCovers : DSp m) ds s Qd → (T_covers : DTS m) (endsOf Qd) (startD ["path", "other"] ds) s := by
  intro ds s Qd h
  obtain ⟨p, o, rfl, hl, hQ⟩ := h
  have hd : (Str.ofString ".") = dot := by decide +kernel
  refine ⟨rfl, rfl, _, rfl, ?_⟩
  rw [eqs]
  unfold coversS at hQ
  rw [beq_dec] at hQ
  by_cases e : o = p
  · rw [decide_eq_true e, Bool.true_or] at hQ
    rw [decide_eq_true e]
    exact hQ
  · rw [decide_eq_false e, Bool.false_or] at hQ
    rw [decide_eq_false e]
    refine ⟨rfl, ?_, o, p ++ Str.ofString ".", rfl, rfl, ?_⟩
    · rw [hd]
      show p.length + 1 ≤ strLim
      have : strLim = 1000000 := rfl
      omega
    · rw [hd]
      exact hQ
def T__law_covers {m : Mem} : DTS m :=
  (dSeq (dSet 2 (dMt "str" splitD (dVar 0) (daCons (dC (D.str (Str.ofString "."))) daNil)))
      (dRet (dCm eqC (dSl slD (dMt "str" splitD (dVar 1) (daCons (dC (D.str (Str.ofString "."))) daNil)) doNone (doSome (dB lenD (daCons (dVar 2) daNil)))) (dVar 2))))
theorem read__law_covers {m : Mem} : ∀ ds s Qd, (spLcov : DSp m) ds s Qd → (T__law_covers : DTS m) (endsOf Qd) (startD ["_law_path_here", "_law_other", "_law_names"] ds) s := by
  intro ds s Qd h
  obtain ⟨p, o, rfl, hQ⟩ := h
  have hd : (Str.ofString ".") = (⟨#[46]⟩ : Str) := by decide +kernel
  refine ⟨rfl, p, 46, rfl, by rw [hd], by decide, ?_⟩
  refine ⟨rfl, o, 46, rfl, by rw [hd], by decide, _, _, rfl, rfl, _, rfl, ?_⟩
  show eqC (.lst (cutD ((splS 46 o).map .str) none (some (((splS 46 p).map D.str).length : Nat)))) (.lst ((splS 46 p).map .str)) (fun k => Qd (.bl k) s)
  rw [cut_take, List.length_map, ← List.map_take]
  refine ⟨plain_lst _, plain_lst _, ?_⟩
  show Qd (.bl (eqDs _ _)) s
  rw [eqss]
  exact hQ
def T__law_name : DTS Mem.deck :=
  (dSeq (dSet 1 (dC (D.str (Str.ofString "abcdefghijklmnopqrstuvwxyz"))))
      (dSeq (dSet 2 (dOp ixD (dLst (daCons (dC (D.int 1)) (daCons (dC (D.int 2)) (daCons (dC (D.int 3)) (daCons (dC (D.int 8)) (daCons (dC (D.int 4)) (daCons (dC (D.int 1)) (daCons (dC (D.int 6)) (daCons (dC (D.int 2)) daNil))))))))) (dCall spNext (daCons (dVar 0) (daCons (dC (D.int 8)) daNil)))))
      (dRet (dMt "str" joinD (dC (D.str (Str.ofString ""))) (daCons (dLc (diR1 (daCons (dVar 2) daNil)) (gN 3) dYes (dOp ixD (dVar 1) (dCall spNext (daCons (dVar 0) (daCons (dC (D.int 26)) daNil)))) [3]) daNil)))))
theorem read__law_name : ∀ ds s Qd, (spName : DSp Mem.deck) ds s Qd → (T__law_name : DTS Mem.deck) (endsOf Qd) (startD ["_law_deck_here", "_law_letters", "_law_many", "_law_k"] ds) s := by
  intro ds s Qd h
  obtain ⟨a, b, c, hs, rfl, hn, hQ⟩ := h
  refine ⟨by decide, a, b, c, 8, hs, rfl, by decide, by decide, by omega, fun r k h0 h1 hk => ?_⟩
  obtain ⟨n, hn8, hat⟩ := pick_ints [1, 2, 3, 8, 4, 1, 6, 2] r h0 h1
  have hb : 1 ≤ n ∧ n ≤ 8 := (by decide : ∀ n ∈ [(1 : Int), 2, 3, 8, 4, 1, 6, 2], 1 ≤ n ∧ n ≤ 8) n hn8
  refine ⟨_, hat, rfl, ⟨n, rfl, by omega, by omega, ?_⟩⟩
  have hL : Str.ofString "" = (⟨#[]⟩ : Str) := by decide +kernel
  have hd : (Str.ofString ".") = dot := by decide +kernel
  refine ⟨by rw [rngD_length]; exact Nat.le_of_lt (small1000 (by omega)), fun pre acc s' => s'.adr = s.adr ∧ s'.n = k + pre.length ∧ ∃ ls : List Nat, acc = (ls.map one).map D.str ∧ ls.length = pre.length ∧ ∀ c ∈ ls, 97 ≤ c ∧ c ≤ 122, ⟨rfl, rfl, [], rfl, rfl, by simp⟩, ?_, ?_⟩
  · rintro pre x post acc s' e - ⟨e1, e2, ls, rfl, hl, hc⟩
    have hp : pre.length < n.toNat := by
      have := congrArg List.length e
      rw [rngD_length, List.length_append, List.length_cons] at this
      omega
    refine ⟨rfl, a, b, c, 26, e1.trans hs, rfl, by decide, by decide, by omega, fun r' k' g0 g1 gk => ?_⟩
    obtain ⟨ch, c1, c2, hat2⟩ := letter_at g0 g1
    refine ⟨ch, hat2, rfl, e1, by show k' = _; rw [List.length_append, List.length_singleton]; omega, ls ++ [ch], by rw [List.map_append, List.map_append]; rfl, by rw [List.length_append, List.length_append, hl]; rfl, fun c' hc' => ?_⟩
    rcases List.mem_append.mp hc' with z | z
    · exact hc c' z
    · rw [List.mem_singleton.mp z]; exact ⟨c1, c2⟩
  · rintro acc s' - ⟨e1, e2, ls, rfl, hl, hc⟩
    rw [rngD_length] at e2 hl
    refine ⟨_, ls.map one, rfl, .inl rfl, ?_, ?_⟩
    · rw [hL, sum_ones, List.length_map]
      show ls.length + ls.length * 0 ≤ strLim
      have : strLim = 1000000 := rfl
      omega
    · show Qd (.str (joinS _ _)) s'
      rw [hL]
      have := hQ _ s'.n (nameOk_of (by omega) (by omega) hc) (by omega)
      rw [← e1] at this
      exact this
def T__law_pool : DTS Mem.deck :=
  (dSeq (dSetLcO 2 (diR1 (daCons (dVar 1) daNil)) (gN 3) dYes (dCall spName (daCons (dVar 0) daNil)) [3])
      (dSeq (dIf (dCmT ltD (dB lenD (daCons (dIxO 2 (dC (D.int 0))) daNil)) (dC (D.int 8))) (dStO 2 (dOp addD (dIxO 2 (dC (D.int 0))) (dOp ixD (dC (D.str (Str.ofString "abcdefghijklmnopqrstuvwxyz"))) (dCall spNext (daCons (dVar 0) (daCons (dC (D.int 26)) daNil))))) (dC (D.int 1))) (dStO 2 (dSl slD (dIxO 2 (dC (D.int 0))) doNone (doSome (dC (D.int 7)))) (dC (D.int 1))))
      (dRet (dVar 2))))
theorem read__law_pool : ∀ ds s Qd, (spPool : DSp Mem.deck) ds s Qd → (T__law_pool : DTS Mem.deck) (endsOf Qd) (startD ["_law_deck_here", "_law_many", "_law_found", "_law_k"] ds) s := by
  intro ds s Qd h
  obtain ⟨a, b, c, n, hs, rfl, h2, h10, hn, hQ⟩ := h
  refine ⟨n, rfl, by omega, by omega, by rw [rngD_length]; exact Nat.le_of_lt (small1000 (by omega)), fun pre acc s' => s'.adr = s.adr ∧ s'.n ≤ s.n + 20 * pre.length ∧ ∃ xs : List Str, acc = xs.map D.str ∧ xs.length = pre.length ∧ ∀ x ∈ xs, NameOk x, ⟨rfl, Nat.le_refl _, [], rfl, rfl, by simp⟩, ?_, ?_⟩
  · rintro pre x post acc s' e - ⟨e1, e2, xs, rfl, hl, hc⟩
    have hp : pre.length < n.toNat := by
      have := congrArg List.length e
      rw [rngD_length, List.length_append, List.length_cons] at this
      omega
    refine ⟨rfl, a, b, c, e1.trans hs, rfl, by omega, fun y k' hy hk => ?_⟩
    refine ⟨rfl, e1, by show k' ≤ _; rw [List.length_append, List.length_singleton]; omega, xs ++ [y], by rw [List.map_append]; rfl, by rw [List.length_append, List.length_append, hl]; rfl, fun c' hc' => ?_⟩
    rcases List.mem_append.mp hc' with z | z
    · exact hc c' z
    · rw [List.mem_singleton.mp z]; exact hy
  · rintro acc s' - ⟨e1, e2, xs, rfl, hl, hc⟩
    rw [rngD_length] at e2 hl
    obtain ⟨x, y, r, rfl⟩ : ∃ x y r, xs = x :: y :: r := by
      match xs, hl with
      | [], hl => exact absurd hl (by show ¬ (0 = _); omega)
      | [_], hl => exact absurd hl (by show ¬ (1 = _); omega)
      | x :: y :: r, _ => exact ⟨x, y, r, rfl⟩
    have hx := hc x (by simp)
    have fin : ∀ (z : Str) (k : Nat), NameOk z → k ≤ s.n + 300 → Qd (.lst ((x :: z :: r).map .str)) ⟨s'.adr, k⟩ := fun z k hz hk => by
      rw [e1]
      refine hQ _ k (by rw [← hl]; rfl) (fun w hw => ?_) hk
      rcases List.mem_cons.mp hw with rfl | hw
      · exact hx
      · rcases List.mem_cons.mp hw with rfl | hw
        · exact hz
        · exact hc w (by simp [hw])
    refine ⟨_, rfl, ⟨⟨_, rfl⟩, 0, _, .str x, rfl, rfl, atI_nat (j := 0) rfl, .str x, x.length, rfl, rfl, ?_⟩⟩
    refine ifBd (fun hlt => ?_) fun hge => ?_
    · refine ⟨⟨_, rfl⟩, 0, _, .str x, rfl, rfl, atI_nat (j := 0) rfl, ?_⟩
      refine ⟨a, b, c, 26, e1.trans hs, rfl, by decide, by decide, by omega, fun r' k' g0 g1 gk => ?_⟩
      obtain ⟨ch, c1, c2, hat2⟩ := letter_at g0 g1
      refine ⟨ch, hat2, ⟨?_, ⟨_, rfl⟩, 1, _, 1, rfl, rfl, ixN_n (j := 1) (by rw [List.length_map]; show 1 < r.length + 1 + 1; omega), ?_⟩⟩
      · show x.length + 1 ≤ strLim
        have : strLim = 1000000 := rfl
        omega
      refine fin (x ++ ⟨#[ch]⟩) k' ⟨by rw [len_tl, tl_append, List.length_append]; show 1 ≤ (tl x).length + 1; omega, by rw [len_tl, tl_append, List.length_append, ← len_tl]; show x.length + 1 ≤ 8; omega, fun c' hc' => by
        rw [tl_append] at hc'
        rcases List.mem_append.mp hc' with z | z
        · exact hx.2.2 c' z
        · rw [List.mem_singleton.mp z]; exact ⟨c1, c2⟩⟩ (by omega)
    · refine ⟨⟨_, rfl⟩, 0, _, .str x, rfl, rfl, atI_nat (j := 0) rfl, 7, rfl, ⟨_, rfl⟩, 1, _, 1, rfl, rfl, ixN_n (j := 1) (by rw [List.length_map]; show 1 < r.length + 1 + 1; omega), ?_⟩
      have e7 : tl (cutS x none (some 7)) = (tl x).take 7 := tl_cut x 7
      have hx8 := hx.2.1
      have hl7 : (tl (cutS x none (some 7))).length = 7 := by rw [e7, List.length_take, ← len_tl]; omega
      refine fin (cutS x none (some 7)) s'.n ⟨by rw [len_tl, hl7]; decide, by rw [len_tl, hl7]; decide, fun c' hc' => ?_⟩ (by omega)
      rw [e7] at hc'
      exact hx.2.2 c' (List.mem_of_mem_take hc')
def T__law_path : DTS Mem.deck :=
  (dSeq (dSet 3 (dOp addD (dC (D.int 1)) (dB minD (daCons (dOp subD (dVar 2) (dC (D.int 1))) (daCons (dOp ixD (dLst (daCons (dC (D.int 1)) (daCons (dC (D.int 2)) (daCons (dC (D.int 1)) (daCons (dC (D.int 2)) (daCons (dC (D.int 3)) (daCons (dC (D.int 0)) (daCons (dC (D.int 5)) (daCons (dC (D.int 1)) daNil))))))))) (dCall spNext (daCons (dVar 0) (daCons (dC (D.int 8)) daNil)))) daNil)))))
      (dRet (dMt "str" joinD (dC (D.str (Str.ofString "."))) (daCons (dLc (diR1 (daCons (dVar 3) daNil)) (gN 4) dYes (dOp ixD (dVar 1) (dCall spNext (daCons (dVar 0) (daCons (dB lenD (daCons (dVar 1) daNil)) daNil)))) [4]) daNil))))
theorem read__law_path : ∀ ds s Qd, (spPath : DSp Mem.deck) ds s Qd → (T__law_path : DTS Mem.deck) (endsOf Qd) (startD ["_law_deck_here", "_law_pool_here", "_law_most", "_law_many", "_law_k"] ds) s := by
  intro ds s Qd h
  obtain ⟨a, b, c, pool, most, hs, rfl, h1, h10, hp0, hp100, hp8, hn, hQ⟩ := h
  refine ⟨by decide, a, b, c, 8, hs, rfl, by decide, by decide, by omega, fun r k h0 h1' hk => ?_⟩
  obtain ⟨n, hn8, hat⟩ := pick_ints [1, 2, 1, 2, 3, 0, 5, 1] r h0 h1'
  have hb : 0 ≤ n ∧ n ≤ 5 := (by decide : ∀ n ∈ [(1 : Int), 2, 1, 2, 3, 0, 5, 1], 0 ≤ n ∧ n ≤ 5) n hn8
  refine ⟨_, hat, most - 1, n, rfl, ?_⟩
  have hm : ∃ w : Int, 1 + (if n < most - 1 then n else most - 1) = w ∧ 1 ≤ w ∧ w ≤ 6 ∧ w ≤ most := by
    refine ⟨_, rfl, ?_⟩
    by_cases h : n < most - 1
    · rw [if_pos h]; omega
    · rw [if_neg h]; omega
  obtain ⟨w, ew, w1, w6, wm⟩ := hm
  have hd : (Str.ofString ".") = (⟨#[46]⟩ : Str) := by decide +kernel
  refine ⟨rfl, ⟨w, by show [D.int (1 + _)] = _; rw [ew], by omega, by omega, ?_⟩⟩
  refine ⟨by rw [rngD_length]; exact Nat.le_of_lt (small1000 (by omega)), fun pre acc s' => s'.adr = s.adr ∧ s'.n = k + pre.length ∧ ∃ ls : List Str, acc = ls.map D.str ∧ ls.length = pre.length ∧ ∀ c ∈ ls, c ∈ pool, ⟨rfl, rfl, [], rfl, rfl, by simp⟩, ?_, ?_⟩
  · rintro pre x post acc s' e - ⟨e1, e2, ls, rfl, hl, hc⟩
    have hp : pre.length < w.toNat := by
      have := congrArg List.length e
      rw [rngD_length, List.length_append, List.length_cons] at this
      omega
    refine ⟨rfl, .lst (pool.map .str), _, rfl, rfl, a, b, c, _, e1.trans hs, rfl, by rw [List.length_map]; omega, by rw [List.length_map]; omega, by omega, fun r' k' g0 g1 gk => ?_⟩
    rw [List.length_map] at g1
    obtain ⟨y, hy, hat2⟩ := pick_map D.str pool r' g0 g1
    refine ⟨_, hat2, rfl, e1, by show k' = _; rw [List.length_append, List.length_singleton]; omega, ls ++ [y], by rw [List.map_append]; rfl, by rw [List.length_append, List.length_append, hl]; rfl, fun c' hc' => ?_⟩
    rcases List.mem_append.mp hc' with z | z
    · exact hc c' z
    · rw [List.mem_singleton.mp z]; exact hy
  · rintro acc s' - ⟨e1, e2, ls, rfl, hl, hc⟩
    rw [rngD_length] at e2 hl
    have q2 := sum_le8 fun y hy => hp8 y (hc y hy)
    refine ⟨_, ls, rfl, .inl rfl, ?_, ?_⟩
    · rw [hd]
      show _ + ls.length * 1 ≤ strLim
      have : strLim = 1000000 := rfl
      omega
    · show Qd (.str (joinS _ _)) s'
      rw [hd]
      have := hQ _ s'.n ⟨ls, by omega, by omega, hc, rfl⟩ (by omega)
      rw [← e1] at this
      exact this
end DL

set_option Elab.async false
set_option linter.all false
set_option maxRecDepth 100000
namespace DL
open PySem PySem.Spec PyProof.Rows L2 TL

/-! ### {} and {x: y} -/
section
variable {X : Cx} {m : Mem} {E : Ent m} {pos : Pos}
def dDict0 {m : Mem} : DT m := fun ρ s Q => Q (.dic [] []) ρ s
theorem de_dict0 : PE X (.Dict [] [] pos) (up X.K m dDict0) := PE.imp pe_dnewK fun σ H Q h => by
  obtain ⟨F, ρ, s, Qd, r, ht, hQ⟩ := h
  intro p np
  have g : Grow F H (upd F p (.dK [])) (upd H p (.dK [])) := Grow.new r.sub np
  exact hQ _ ρ s _ _ _ ht (r.grow g) g.stp ⟨p, [], rfl, upd_same, Nat.zero_le _, rfl, .nil⟩
def dDict1 {m : Mem} (i j : Nat) : DT m := fun ρ s Q => ∃ x d, ρ[i]? = some (.sh (.str x)) ∧ ρ[j]? = some (.sh d) ∧ Q (.dic [.inr x] [d]) ρ s
theorem de_dict1 (i j : Nat) {x y : Str} {p1 p2 : Pos} (hN : X.N[i]? = some x := by rfl) (hv : Vis X.env.scope x := by first | exact Or.inl rfl | exact Or.inr (Or.inl rfl) | exact Or.inr (Or.inr rfl)) (hd : (x == ("__debug__" : Str)) = false := by decide)
    (hcd : (x == ("__classdict__" : Str)) = false := by decide) (hN2 : X.N[j]? = some y := by rfl) (hv2 : Vis X.env.scope y := by first | exact Or.inl rfl | exact Or.inr (Or.inl rfl) | exact Or.inr (Or.inr rfl)) (hd2 : (y == ("__debug__" : Str)) = false := by decide)
    (hcd2 : (y == ("__classdict__" : Str)) = false := by decide) : PE X (.Dict [some (.Name x p1)] [.Name y p2] pos) (up X.K m (dDict1 i j)) :=
  PE.imp (pe_disp (pps_cons (pv i hN hv hd hcd) (pv j hN2 hv2 hd2 hcd2) pps_nil) (by rfl) (by rfl) (by simp) (by show 1 ≤ 15; decide)) fun σ H Q h => by
    obtain ⟨F, ρ, s, Qd, r, ⟨z, d, e1, e2, q⟩, hQ⟩ := h
    obtain ⟨v1, h1, r1⟩ := r.sh i _ e1
    obtain ⟨v2, h2, r2⟩ := r.sh j _ e2
    obtain ⟨rfl, hz⟩ := r1
    intro p np
    refine ⟨_, h1, _, h2, upd_same, [(.inr z, v2)], rfl, (by show 1 ≤ 15; decide), ?_⟩
    have eu : upd (upd H p (.dK [])) p (.dK (mergeK [] [(.inr z, v2)])) = upd H p (.dK [(.inr z, v2)]) := by
      funext a
      by_cases ha : a = p
      · subst ha; rw [upd_same, upd_same]; rfl
      · rw [upd_ne ha, upd_ne ha, upd_ne ha]
    rw [eu]
    have g : Grow F H (upd F p (.dK [(.inr z, v2)])) (upd H p (.dK [(.inr z, v2)])) := Grow.new r.sub np
    exact hQ _ ρ s _ _ _ q (r.grow g) g.stp ⟨p, [(.inr z, v2)], rfl, upd_same, (by show 1 ≤ sizeLine; decide), rfl, .one (Rep.mono g.fF _ _ r2)⟩
end
end DL

set_option Elab.async false
set_option linter.all false
set_option maxRecDepth 100000
namespace DL
open PySem PySem.Spec PyProof.Rows L2 TL
/-! ### the forms of a path -/
def okc (c : Nat) : Bool := decide (97 ≤ c) && decide (c ≤ 122)
def okLen (x : Str) : Bool := decide (1 ≤ x.length) && decide (x.length ≤ 8)
def okName (x : Str) : Bool := okLen x && (tl x).all okc
def isPathS (x : Str) : Bool := decide ((splS 46 x).length ≤ 6) && (splS 46 x).all okName
def isPathD : D → Bool
  | .str x => isPathS x
  | _ => false
/-- the values that are asked -/
def Val (d : D) : Prop := (∃ t, tyT d = some t) ∧ ∀ x, d = .str x → x.length ≤ 10000
def spIsName {m : Mem} : DSp m := fun ds s Q => ∃ x : Str, ds = [.str x] ∧ x.length ≤ 10000 ∧ Q (.bl (okName x)) s
theorem spIsName_len {m : Mem} : ∀ ds s Qd, (spIsName : DSp m) ds s Qd → ds.length = 1 := fun ds s Qd ⟨_, e, _⟩ => by rw [e]; rfl
def spIsPath {m : Mem} : DSp m := fun ds s Q => ∃ d, ds = [d] ∧ Val d ∧ Q (.bl (isPathD d)) s
theorem spIsPath_len {m : Mem} : ∀ ds s Qd, (spIsPath : DSp m) ds s Qd → ds.length = 1 := fun ds s Qd ⟨_, e, _⟩ => by rw [e]; rfl
def spSays {m : Mem} : DSp m := fun ds s Q => ∃ x y : Bool, ds = [.bl x, .bl y] ∧ Q (.bl (x == y)) s
theorem spSays_len {m : Mem} : ∀ ds s Qd, (spSays : DSp m) ds s Qd → ds.length = 2 := fun ds s Qd ⟨_, _, e, _⟩ => by rw [e]; rfl
/-- a text of letters and dots -/
def Plain (x : Str) : Prop := x.length ≤ 200 ∧ ∀ c ∈ tl x, c = 46 ∨ (97 ≤ c ∧ c ≤ 122)
theorem lt_one (c d : Nat) : decide (([c] : List Nat) < [d]) = decide (c < d) := by
  by_cases h : c < d
  · rw [decide_eq_true h, decide_eq_true (List.cons_lt_cons_iff.mpr (.inl h))]
  · rw [decide_eq_false h]
    refine decide_eq_false fun z => ?_
    rcases List.cons_lt_cons_iff.mp z with z | ⟨_, z⟩
    · exact h z
    · exact absurd z (by simp)
theorem le_a (c : Nat) : (!ltS ⟨#[c]⟩ (Str.ofString "a")) = decide (97 ≤ c) := by
  have e : (Str.ofString "a") = (⟨#[97]⟩ : Str) := by decide +kernel
  rw [e]
  show (!decide (([c] : List Nat) < [97])) = _
  rw [lt_one]
  by_cases h : c < 97
  · rw [decide_eq_true h, decide_eq_false (by omega)]; rfl
  · rw [decide_eq_false h, decide_eq_true (by omega)]; rfl
theorem le_z (c : Nat) : (!ltS (Str.ofString "z") ⟨#[c]⟩) = decide (c ≤ 122) := by
  have e : (Str.ofString "z") = (⟨#[122]⟩ : Str) := by decide +kernel
  rw [e]
  show (!decide (([122] : List Nat) < [c])) = _
  rw [lt_one]
  by_cases h : 122 < c
  · rw [decide_eq_true h, decide_eq_false (by omega)]; rfl
  · rw [decide_eq_false h, decide_eq_true (by omega)]; rfl
theorem ch_app {x : Str} {pre : List D} {y : D} {post : List D} (e : chD x = pre ++ y :: post) : ∃ c, y = D.str ⟨#[c]⟩ ∧ c ∈ tl x := by
  have hm : y ∈ chD x := by rw [e]; simp
  obtain ⟨c, hc, rfl⟩ := List.mem_map.mp hm
  exact ⟨c, rfl, hc⟩
theorem chr_inj : ∀ {l m : List Nat}, (l.map fun c => D.str ⟨#[c]⟩) = (m.map fun c => D.str ⟨#[c]⟩) → l = m
  | [], [], _ => rfl
  | [], _ :: _, h => by cases h
  | _ :: _, [], h => by cases h
  | c :: l, d :: m, h => by
    rw [List.map_cons, List.map_cons] at h
    injection h with h1 h2
    injection h1 with h1
    injection h1 with h1
    have h1' : c = d := by simpa using h1
    rw [h1', chr_inj h2]
theorem chD_length (x : Str) : (chD x).length = x.length := by
  unfold chD
  rw [List.length_map, len_tl]
theorem line_of {n : Nat} (h : n ≤ 1000000) : n ≤ sizeLine := Nat.le_trans h (Nat.le_trans (Nat.le_add_right _ 2) strLim_line)
theorem bl_app (l : List Nat) (f : Nat → Bool) (c : Nat) : (l.map f).map D.bl ++ [D.bl (f c)] = ((l ++ [c]).map f).map D.bl := by
  rw [List.map_append, List.map_append]; rfl
theorem splS_count {x : Str} : (splS 46 x).length ≤ x.length + 1 := by
  have h : ∀ (l acc : List Nat), (cutL 46 acc l).length ≤ l.length + 1 := by
    intro l
    induction l with
    | nil => intro acc; simp [cutL]
    | cons a r ih =>
      intro acc
      rw [cutL]
      by_cases h : a = 46
      · rw [if_pos h, List.length_cons, List.length_cons]; have := ih []; omega
      · rw [if_neg h, List.length_cons]; have := ih (acc ++ [a]); omega
  have e : (splS 46 x).length = ((splS 46 x).map tl).length := by rw [List.length_map]
  rw [e, tl_splS, len_tl]
  exact h _ _
theorem splS_each {x : Str} : ∀ y ∈ splS 46 x, y.length ≤ x.length := fun y hy => by
  obtain ⟨l, hl, rfl⟩ := List.mem_map.mp hy
  have := (spl_mem 0 [] (tl x) l hl).1
  rw [List.length_nil, Nat.zero_add] at this
  rw [len_tl, len_tl]
  exact this
theorem lz {n : Nat} (h : Nat.ble n 1000000 = true) : n ≤ sizeLine := line_of (Nat.le_of_ble_eq_true h)
theorem len_add (a b : Str) : (a ++ b).length = a.length + b.length := by rw [len_tl, tl_append, List.length_append, ← len_tl, ← len_tl]
theorem plain_upper {x : Str} (h : Plain x) : sOk (Txt.upper x) = true := by
  have hA : ∀ c ∈ x.cps.toList, c < 128 := fun c hc => by rcases h.2 c hc with e | e <;> omega
  rw [upper_ascii hA]
  refine sOk_of ?_ fun c hc => ?_
  · show (x.cps.map up1).size ≤ strLim
    rw [Array.size_map]
    exact Nat.le_trans h.1 (by decide)
  · have hc' : c ∈ (x.cps.map up1).toList := hc
    rw [Array.toList_map] at hc'
    obtain ⟨e, he, rfl⟩ := List.mem_map.mp hc'
    have := hA e he
    unfold up1
    split <;> omega
theorem ix_pick {L : List D} {r : Int} {Q : D → Prop} (h0 : 0 ≤ r) (h1 : r < (L.length : Nat)) (h : ∀ d ∈ L, Q d) : ixD (.lst L) (.int r) Q := by
  obtain ⟨d, hd, hat⟩ := pick_any L r h0 h1
  exact ⟨d, hat, h d hd⟩
theorem cpow30 : CPow 10 30 := by unfold CPow; decide
def T__is_name {m : Mem} : DTS m :=
  (dRet (dAndV (dCh leD leD (dC (D.int 1)) (dB lenD (daCons (dVar 0) daNil)) (dC (D.int 8))) (dB allD (daCons (dLc (diStr (dVar 0)) (gN 1) dYes (dCh leD leD (dC (D.str (Str.ofString "a"))) (dVar 1) (dC (D.str (Str.ofString "z")))) [1]) daNil))))
theorem read__is_name {m : Mem} : ∀ ds s Qd, (spIsName : DSp m) ds s Qd → (T__is_name : DTS m) (endsOf Qd) (startD ["text", "letter"] ds) s := by
  intro ds s Qd h
  obtain ⟨x, rfl, hx, hQ⟩ := h
  refine ⟨.str x, x.length, rfl, rfl, ifBd (fun h1 => ?_) fun h1 => ?_⟩
  · refine ⟨_, rfl, ifBd (fun h2 => ?_) fun h2 => ?_⟩
    · refine ⟨x, rfl, (by rw [chD_length]; exact line_of (by omega)), fun pre acc s' => s' = s ∧ ∃ cs : List Nat, pre = cs.map (fun c => D.str ⟨#[c]⟩) ∧ acc = (cs.map okc).map D.bl, ⟨rfl, [], rfl, rfl⟩, ?_, ?_⟩
      · rintro pre y post acc s' e - ⟨rfl, cs, rfl, rfl⟩
        obtain ⟨c, rfl, hc⟩ := ch_app e
        refine ⟨rfl, ?_⟩
        show ifB (!ltS ⟨#[c]⟩ (Str.ofString "a")) _ _
        rw [le_a]
        refine ifBd (fun g1 => ?_) fun g1 => ?_
        · refine ⟨rfl, rfl, cs ++ [c], by rw [List.map_append]; rfl, ?_⟩
          rw [← bl_app, le_z]
          unfold okc
          rw [decide_eq_true g1, Bool.true_and]
        · refine ⟨rfl, rfl, cs ++ [c], by rw [List.map_append]; rfl, ?_⟩
          rw [← bl_app]
          unfold okc
          rw [decide_eq_false g1, Bool.false_and]
      · rintro acc s' - ⟨rfl, cs, e, rfl⟩
        have ec : tl x = cs := chr_inj e
        refine ⟨_, rfl, ?_⟩
        have ek : okName x = (cs.map okc).all id := by
          unfold okName okLen
          rw [decide_eq_true (by omega), decide_eq_true (by omega), ec, List.all_map]
          rfl
        rw [ek] at hQ
        exact hQ
    · have ek : okName x = false := by unfold okName okLen; rw [decide_eq_false (p := x.length ≤ 8) (by omega), Bool.and_false, Bool.false_and]
      rw [ek] at hQ
      rw [decide_eq_false h2]
      exact hQ
  · have ek : okName x = false := by unfold okName okLen; rw [decide_eq_false (p := 1 ≤ x.length) (by omega), Bool.false_and, Bool.false_and]
    rw [ek] at hQ
    exact ⟨_, rfl, hQ⟩
def T_is_path {m : Mem} : DTS m :=
  (dSeq (dIf (dNotT (dTr (dB isiD (daCons (dVar 0) (daCons (dC (D.any (V.ty "str"))) daNil))))) (dRet (dC (D.bl false))) dNext)
      (dSeq (dSet 1 (dMt "str" splitD (dVar 0) (daCons (dC (D.str (Str.ofString "."))) daNil)))
      (dRet (dAndV (dCm leD (dB lenD (daCons (dVar 1) daNil)) (dC (D.int 6))) (dB allD (daCons (dLc (diSeq (dVar 1)) (gN 2) dYes (dCall spIsName (daCons (dVar 2) daNil)) [2]) daNil))))))
theorem read_is_path {m : Mem} : ∀ ds s Qd, (spIsPath : DSp m) ds s Qd → (T_is_path : DTS m) (endsOf Qd) (startD ["value", "names", "name"] ds) s := by
  intro ds s Qd h
  obtain ⟨d, rfl, ⟨⟨t, ht⟩, hx⟩, hQ⟩ := h
  have hd : (Str.ofString ".") = dot := by decide +kernel
  refine ⟨d, .str, t, rfl, ht, (by intro z; cases z), _, rfl, ?_⟩
  cases d with
  | str x =>
    cases ht
    have hx := hx x rfl
    refine ⟨rfl, x, 46, rfl, (by rw [hd]; rfl), by decide, ?_⟩
    refine ⟨_, (splS 46 x).length, rfl, (by show some _ = _; rw [List.length_map]), _, rfl, ?_⟩
    refine ifBd (fun h1 => ?_) fun h1 => ?_
    · refine ⟨_, rfl, (by rw [List.length_map]; exact line_of (Nat.le_trans splS_count (by omega))), fun pre acc s' => s' = s ∧ ∃ ls : List Str, pre = ls.map D.str ∧ acc = (ls.map okName).map D.bl, ⟨rfl, [], rfl, rfl⟩, ?_, ?_⟩
      · rintro pre y post acc s' e - ⟨rfl, ls, rfl, rfl⟩
        obtain ⟨z, rfl, hz⟩ : ∃ z, y = D.str z ∧ z ∈ splS 46 x := by
          have hm : y ∈ (splS 46 x).map D.str := by rw [e]; simp
          obtain ⟨z, hz, rfl⟩ := List.mem_map.mp hm
          exact ⟨z, rfl, hz⟩
        exact ⟨rfl, z, rfl, Nat.le_trans (splS_each z hz) hx, rfl, rfl, ls ++ [z], (by rw [List.map_append]; rfl), (by rw [List.map_append, List.map_append]; rfl)⟩
      · rintro acc s' - ⟨rfl, ls, e, rfl⟩
        have e1 : splS 46 x = ls := map_str_inj e
        refine ⟨_, rfl, ?_⟩
        have ek : isPathD (.str x) = (ls.map okName).all id := by
          show (decide _ && _) = _
          rw [decide_eq_true (by omega), Bool.true_and, e1, List.all_map]
          rfl
        rw [ek] at hQ
        exact hQ
    · have ek : isPathD (.str x) = false := by
        show (decide _ && _) = _
        rw [decide_eq_false (by omega), Bool.false_and]
      rw [ek] at hQ
      rw [decide_eq_false h1]
      exact hQ
  | any _ => cases ht
  | fz _ => cases ht
  | ins _ _ _ => cases ht
  | exc _ _ _ => cases ht
  | cau _ _ _ _ => cases ht
  | exk _ _ _ => cases ht
  | _ => cases ht; exact hQ
def T__law_says {m : Mem} : DTS m :=
  (dRet (dAndV (dB isiD (daCons (dVar 0) (daCons (dC (D.any (V.ty "bool"))) daNil))) (dCm eqC (dVar 0) (dVar 1))))
theorem read__law_says {m : Mem} : ∀ ds s Qd, (spSays : DSp m) ds s Qd → (T__law_says : DTS m) (endsOf Qd) (startD ["_law_found", "_law_due"] ds) s := by
  intro ds s Qd h
  obtain ⟨x, y, rfl, hQ⟩ := h
  exact ⟨_, .bl, .bl, rfl, rfl, (by intro z; cases z), _, rfl, rfl, rfl, hQ⟩
end DL

set_option Elab.async false
set_option linter.all false
set_option maxRecDepth 100000
namespace DL
open PySem PySem.Spec PyProof.Rows L2 TL
/-! ### parent, last_name, overlap -/
theorem cutL_free {c : Nat} : ∀ {l acc : List Nat}, c ∉ l → cutL c acc l = [acc ++ l]
  | [], acc, _ => by simp [cutL]
  | x :: r, acc, h => by
    rw [cutL, if_neg (fun e => h (by simp [e])), cutL_free fun z => h (List.mem_cons_of_mem _ z)]
    simp
theorem splS_free {c : Nat} {x : Str} (h : c ∉ tl x) : splS c x = [x] := by
  refine map_tl_inj ?_
  rw [tl_splS, cutL_free h]
  rfl
def parentS (p : Str) : Option Str := if 1 < (splS 46 p).length then some (joinS dot (splS 46 p).dropLast) else none
theorem pre_one {l : List Nat} {c : Nat} : pre [c] l = true ↔ ∃ r, l = c :: r := by
  unfold pre
  rw [beq_iff_eq]
  cases l with
  | nil => simp
  | cons a r => simp
theorem rpart_dot (p : Str) : (parentS p = none ∧ Txt.rpartition p dot = (Str.empty, Str.empty, p)) ∨ ∃ a, parentS p = some a ∧ (Txt.rpartition p dot).1 = a ∧ (Txt.rpartition p dot).2.1 = dot := by
  have hd : tl dot ≠ [] := by intro z; cases z
  rcases StrLaws.last_spec p dot with ⟨e, h⟩ | ⟨i, e, h1, h2⟩
  · refine .inl ⟨?_, ?_⟩
    · unfold parentS
      rw [splS_free (c := 46) (x := p), if_neg (show ¬ 1 < [p].length from Nat.lt_irrefl 1)]
      intro hm
      obtain ⟨a, b, eq⟩ := List.append_of_mem hm
      refine h a.length ((at_iff hd _).mpr ?_)
      rw [eq, List.drop_left]
      exact pre_one.mpr ⟨b, rfl⟩
    · unfold Txt.rpartition
      rw [e]
  · refine .inr ⟨Builtin.Str.strSub p 0 i, ?_, ?_, ?_⟩
    · have h3 := (at_iff hd i).mp h1
      obtain ⟨r, er⟩ := pre_one.mp h3
      have ep : tl p = (tl p).take i ++ 46 :: r := by
        rw [← er, List.take_append_drop]
      have il : i ≤ (tl p).length := by
        cases Nat.lt_or_ge (tl p).length i with
        | inl z => rw [List.drop_eq_nil_of_le (Nat.le_of_lt z)] at er; cases er
        | inr z => exact z
      have free : 46 ∉ r := fun hm => by
        obtain ⟨a, b, eq⟩ := List.append_of_mem hm
        refine h2 (i + 1 + a.length) (by omega) ((at_iff hd _).mpr ?_)
        have e5 : (tl p).drop (i + 1 + a.length) = 46 :: b := by
          have e6 : (tl p).drop (i + 1) = r := by
            have := congrArg (List.drop 1) er
            rw [List.drop_drop] at this
            simpa using this
          rw [← List.drop_drop, e6, eq, List.drop_left]
        rw [e5]
        exact pre_one.mpr ⟨b, rfl⟩
      have es : Builtin.Str.strSub p 0 i = ⟨((tl p).take i).toArray⟩ := ext_tl (by rw [tl_strSub, List.drop_zero, Nat.sub_zero])
      have e7 : p = (⟨((tl p).take i).toArray⟩ : Str) ++ ⟨#[46]⟩ ++ ⟨r.toArray⟩ := ext_tl (by
        rw [tl_append, tl_append]
        show tl p = (tl p).take i ++ [46] ++ r
        rw [List.append_assoc]
        exact ep)
      unfold parentS
      have e8 : splS 46 p = splS 46 ⟨((tl p).take i).toArray⟩ ++ [⟨r.toArray⟩] := by
        conv => lhs; rw [e7]
        rw [splS_app, splS_free (x := ⟨r.toArray⟩) free]
      rw [e8, List.dropLast_concat, es]
      rw [if_pos (by
        have := List.length_pos_iff.mpr (splS_ne 46 ⟨((tl p).take i).toArray⟩)
        rw [List.length_append, List.length_singleton]; omega)]
      exact congrArg some (join_splS 46 _)
    · unfold Txt.rpartition; rw [e]
    · unfold Txt.rpartition; rw [e]
def spParent {m : Mem} : DSp m := fun ds s Q => ∃ p : Str, ds = [.str p] ∧ Q (optS (parentS p)) s
theorem spParent_len {m : Mem} : ∀ ds s Qd, (spParent : DSp m) ds s Qd → ds.length = 1 := fun ds s Qd ⟨_, e, _⟩ => by rw [e]; rfl
def spOverlap {m : Mem} : DSp m := fun ds s Q => ∃ p o : Str, ds = [.str p, .str o] ∧ p.length ≤ 1000 ∧ o.length ≤ 1000 ∧ Q (.bl (coversS p o || coversS o p)) s
theorem spOverlap_len {m : Mem} : ∀ ds s Qd, (spOverlap : DSp m) ds s Qd → ds.length = 2 := fun ds s Qd ⟨_, _, e, _⟩ => by rw [e]; rfl
def spLover {m : Mem} : DSp m := fun ds s Q => ∃ p o : Str, ds = [.str p, .str o] ∧ Q (.bl (lcov p o || lcov o p)) s
theorem spLover_len {m : Mem} : ∀ ds s Qd, (spLover : DSp m) ds s Qd → ds.length = 2 := fun ds s Qd ⟨_, _, e, _⟩ => by rw [e]; rfl
def T_overlap {m : Mem} : DTS m :=
  (dRet (dOrV (dCall spCovers (daCons (dVar 0) (daCons (dVar 1) daNil))) (dCall spCovers (daCons (dVar 1) (daCons (dVar 0) daNil)))))
theorem read_overlap {m : Mem} : ∀ ds s Qd, (spOverlap : DSp m) ds s Qd → (T_overlap : DTS m) (endsOf Qd) (startD ["path", "other"] ds) s := by
  intro ds s Qd h
  obtain ⟨p, o, rfl, hp, ho, hQ⟩ := h
  refine ⟨p, o, rfl, hp, _, rfl, ifB2 (fun h => ?_) fun h => ⟨o, p, rfl, ho, ?_⟩⟩
  · rw [h] at hQ ⊢; exact hQ
  · rw [h] at hQ; exact hQ
def T_parent {m : Mem} : DTS m :=
  (dSeq (dAsg (dMt "str" rpartD (dVar 0) (daCons (dC (D.str (Str.ofString "."))) daNil)) (gTup' 3 (gCons' (gN 1) (gCons' (gN 2) (gCons' (gN 3) gNil')))))
      (dRet (dIfE (dTr (dVar 2)) (dVar 1) (dC D.non))))
theorem read_parent {m : Mem} : ∀ ds s Qd, (spParent : DSp m) ds s Qd → (T_parent : DTS m) (endsOf Qd) (startD ["path", "above", "dot", "_"] ds) s := by
  intro ds s Qd h
  obtain ⟨p, rfl, hQ⟩ := h
  have hd : (Str.ofString ".") = dot := by decide +kernel
  refine ⟨rfl, p, 46, rfl, by rw [hd]; rfl, by decide, _, rfl, rfl, _, _, rfl, _, _, rfl, _, _, rfl, rfl, ?_⟩
  rcases rpart_dot p with ⟨e1, e2⟩ | ⟨a, e1, e2, e3⟩
  · rw [e1] at hQ
    refine ⟨false, ?_, hQ⟩
    show tru (.str (Txt.rpartition p dot).2.1) = some false
    rw [e2]
    rfl
  · rw [e1] at hQ
    refine ⟨true, ?_, ?_⟩
    · show tru (.str (Txt.rpartition p dot).2.1) = some true
      rw [e3]
      rfl
    · show Qd (.str (Txt.rpartition p dot).1) s
      rw [e2]
      exact hQ
def T__law_overlap {m : Mem} : DTS m :=
  (dRet (dOrV (dCall spLcov (daCons (dVar 0) (daCons (dVar 1) daNil))) (dCall spLcov (daCons (dVar 1) (daCons (dVar 0) daNil)))))
theorem read__law_overlap {m : Mem} : ∀ ds s Qd, (spLover : DSp m) ds s Qd → (T__law_overlap : DTS m) (endsOf Qd) (startD ["_law_path_here", "_law_other"] ds) s := by
  intro ds s Qd h
  obtain ⟨p, o, rfl, hQ⟩ := h
  refine ⟨p, o, rfl, _, rfl, ifB2 (fun h => ?_) fun h => ⟨o, p, rfl, ?_⟩⟩
  · rw [h] at hQ ⊢; exact hQ
  · rw [h] at hQ; exact hQ
end DL

set_option Elab.async false
set_option linter.all false
set_option maxRecDepth 100000
/-! DX: own exception classes (over any of the built-in ones): made as values, their fields stored and read, isinstance of them. -/
namespace DL
open PySem PySem.Spec PyProof.Rows L2
section
variable {X : Cx} {pins : List (Addr × Obj)} {σ : L2.St} {H : Hp} {s : Shared} {a C dx : Addr} {f : Str} {y : V} {u : Value} {fs : List (Str × V)} {Q : Unit → Shared → Prop} {E : Value → Shared → Prop} {A : Around}
end
/-! ### __init__: self.f = e -/
section
variable {X : Cx} {o e : Expr} {es : List Expr} {to te : TE} {ta : TA} {f x : Str} {p p' pos : Pos} {C : Addr}
/-! ### C(e, ..) as a value -/
/-! ### e.f -/
/-! ### isinstance(e, c), isinstance(e, (c, ..)) -/
end
end DL

set_option Elab.async false
set_option linter.all false
set_option maxRecDepth 100000
namespace DL
open PySem PySem.Spec PyProof.Rows L2 TL

/-! ### own exceptions as data -/
section
variable {X : Cx} {m : Mem} {e : Expr} {es : List Expr} {ta : DTA m} {te : DT m} {x : Str} {p pos : Pos} {C : Addr}
/-! ### isinstance of them -/
/-! ### zip -/
theorem rep_pair {K : PySem.W.Frag} {F : Hp} {x y : D} {v w : V} {T : Addr} (h : F T = some (.tup [v, w])) (rx : Rep K F x v) (ry : Rep K F y w) : Rep K F (.tup [x, y]) (.ref T) :=
  ⟨T, [v, w], rfl, .inl (.inl h), by show 2 ≤ sizeLine; decide, .cons rx (.one ry)⟩
end
end DL

set_option Elab.async false
set_option linter.all false
set_option maxRecDepth 100000
namespace DL
open PySem PySem.Spec PyProof.Rows L2 TL

/-! ### repr -/
def keyPy : Key → PyData
  | .inl i => .int i
  | .inr x => .str x
mutual
/-- data as the library's model of data, dicts too -/
def pyR : D → PyData
  | .non => .none
  | .bl b => .bool b
  | .int i => .int i
  | .str x => .str x
  | .lst xs => .list (pyRs xs)
  | .tup xs => .tuple (pyRs xs)
  | .dic ks xs => .dict (pyRk ks xs)
  | _ => .none
def pyRs : List D → List PyData
  | [] => []
  | d :: ds => pyR d :: pyRs ds
def pyRk : List Key → List D → List (PyData × PyData)
  | k :: ks, d :: ds => (keyPy k, pyR d) :: pyRk ks ds
  | _, _ => []
end
mutual
/-- what repr takes, at most so deep -/
def repD : Nat → D → Bool
  | _, .non => true
  | _, .bl _ => true
  | _, .int _ => true
  | _, .str _ => true
  | n, .lst xs => match n with
    | 0 => false
    | k + 1 => repDs k xs
  | n, .tup xs => match n with
    | 0 => false
    | k + 1 => repDs k xs
  | n, .dic ks xs => match n with
    | 0 => false
    | k + 1 => repDs k xs
  | _, _ => false
def repDs : Nat → List D → Bool
  | _, [] => true
  | n, d :: ds => repD n d && repDs n ds
end
@[irreducible] def repOk (d : D) : Bool := repD 60 d && ((pyR d).showable && decide ((pyR d).shown.length ≤ sizeLine))
section
variable {X : Cx} {pins : List (Addr × Obj)} {σ : L2.St} {F H : Hp} {s : Shared}
end
/-! ### a, b, c = x, y, z with plain local names -/
section
variable {X : Cx} {m : Mem} {E : Ent m} {pos : Pos}
end
end DL

set_option Elab.async false
set_option linter.all false
set_option maxRecDepth 100000
/-! DL11: str.strip, int and str of more, written dicts as data and as a def's own, list.extend -/
namespace DL
open PySem PySem.Spec PyProof.Rows L2 TL

/-! ### small ones -/
section
open PySem.Builtin PySem.Builtin.Str
end
section
variable {K : PySem.W.Frag}
def intBD (ds : List D) (Q : D → Prop) : Prop := ∃ k, ds = [.bl k] ∧ Q (.int (if k then 1 else 0))
theorem o_intB : OpN K (fun xs H Q => (∃ i, xs = [.int i] ∧ Q (.int i) H) ∨ ∃ k, xs = [.bl k] ∧ Q (.int (if k then 1 else 0)) H) intBD := by
  intro F H ds vs Qd Q sub rs h hQ
  obtain ⟨k, rfl, q⟩ := h
  obtain ⟨v, _, rfl, rfl, rn⟩ := rs
  cases rn
  exact .inr ⟨k, rfl, hQ _ _ F H q (Grow.refl sub) rfl⟩
end

/-! ### a hidden object becomes a slot's own -/
/-! ### a written dict with texts as keys -/
section
variable {X : Cx} {m : Mem} {E : Ent m} {pos : Pos}
end
/-! ### a dict read by key; a def's own dict -/
section
variable {X : Cx} {m : Mem} {E : Ent m} {pos : Pos} {e b : Expr} {te tb : DT m}
end
/-! ### x.extend(e), enumerate -/
section
variable {X : Cx} {m : Mem} {E : Ent m} {pos : Pos} {e : Expr} {te : DT m} {ta : DTA m} {p : Pos}
def enumD (xs : List D) : List D := xs.mapIdx fun i x => .tup [.int (i : Nat), x]
theorem enum_get {xs : List D} {i : Nat} {d : D} (h : (enumD xs)[i]? = some d) : ∃ x, xs[i]? = some x ∧ d = .tup [.int (i : Nat), x] := by
  unfold enumD at h
  rw [List.getElem?_mapIdx] at h
  cases hx : xs[i]? with
  | none => rw [hx] at h; cases h
  | some x => rw [hx] at h; exact ⟨x, rfl, (Option.some.inj h).symm⟩
theorem walks_enumL {K : PySem.W.Frag} {F : Hp} {a : Addr} {ds : List D} {vs : List V} (h1 : SqL K F a vs) (r1 : Reps K F ds vs) : Walks K F (Ite K a) (enumD ds) := fun F' H' s1 s2 => by
  have q1 : SqL K H' a vs := Same.seq s2 (Same.seq s1 h1)
  refine ⟨fun i hi => ⟨vs, q1, by rw [r1.length]; unfold enumD at hi; rw [List.length_mapIdx] at hi; exact hi⟩, fun i d e => ?_⟩
  obtain ⟨x, ex, rfl⟩ := enum_get e
  obtain ⟨v, ev, rv⟩ := r1.get ex
  refine ⟨⟨vs, v, q1, ev⟩, fun z H2 yl => ?_⟩
  obtain ⟨T, v', rfl, nT, rfl, g1⟩ := yl
  have e1 := g1 vs q1
  rw [ev] at e1
  cases e1
  have g : Grow F' H' (upd F' T (.tup [.int (i : Nat), v])) (upd H' T (.tup [.int (i : Nat), v])) := Grow.new s2 nT
  exact ⟨_, g, rep_pair upd_same rfl (Rep.mono (s1.trans g.fF) _ _ rv)⟩
end
end DL

set_option Elab.async false
set_option linter.all false
set_option maxRecDepth 100000
/-! DL12: a comprehension with two fors -/
namespace DL
open PySem PySem.Spec PyProof.Rows L2 TL
section
variable {X : Cx} {m : Mem}
end
end DL

set_option Elab.async false
set_option linter.all false
set_option maxRecDepth 100000
/-! DL13: the program's written dicts: texts to tuples -/
namespace DL
open PySem PySem.Spec PyProof.Rows L2 TL
section
variable {X : Cx} {K : PySem.W.Frag} {w : World} {p : Addr} {t : List (Str × D)}
end
/-! ### from the object to its table -/
end DL

set_option Elab.async false
set_option linter.all false
set_option maxRecDepth 100000
/-! DL14: any data in a tuple of texts -/
namespace DL
open PySem PySem.Spec PyProof.Rows L2 TL
theorem str_eq_declines_dict (b : Str) (u : Tok) (l : Addr) (es : Array DictEntry) (ep : Nat) (dd : Option Addr) (sl : Array (Option Value)) :
    Meets (Builtin.«str.__eq__» ⟨[.str b u, .ref l], []⟩) (fun _ R s => s.heap.get? l = some { cls := .type "dict", dict := dd, data := .dict es ep, slots := sl } ∧ R (.ok (.ret .notImplemented)) s) :=
  .of_wp fun prog w A R s h => by obtain ⟨hp, g, d, tk, os⟩ := s; obtain ⟨hl, h⟩ := h; have f1 := PySem.F.sub_dict_str; wp_walk using wpAny_loadPart' hl, wpAny_load hl; exact ⟨_, rfl, h⟩
theorem dict_eq_declines_str (l : Addr) (es : Array DictEntry) (ep : Nat) (dd : Option Addr) (sl : Array (Option Value)) (b : Str) (u : Tok) :
    Meets (Builtin.«dict.__eq__» ⟨[.ref l, .str b u], []⟩) (fun _ R s => s.heap.get? l = some { cls := .type "dict", dict := dd, data := .dict es ep, slots := sl } ∧ R (.ok (.ret .notImplemented)) s) :=
  .of_wp fun prog w A R s h => by obtain ⟨hp, g, d, tk, os⟩ := s; obtain ⟨hl, h⟩ := h; have f1 := PySem.F.sub_str_dict; wp_walk using wpAny_loadPart' hl, wpAny_load hl; exact ⟨_, rfl, h⟩
section
variable {A : Around} {s : Shared}
theorem rc_str_dict {l : Addr} {es : Array DictEntry} {ep : Nat} {dd : Option Addr} {sl : Array (Option Value)} (b : Str) (u : Tok) (ho : s.heap.get? l = some { cls := .type "dict", dict := dd, data := .dict es ep, slots := sl }) (hu : A.units < cLine) : SeqAt.RcAt A s (.str b u) (.ref l) false := fun prog w E Q h =>
  SeqAt.rc_eq_decline_or (k := false) (typeIs_str s b u) ⟨_, ho, rfl⟩ (by decide) PySem.F.sub_dict_str PySem.F.slot_str_eq PySem.F.slot_dict_eq_refl
    (fun _ hq => call_meets PySem.F.slot_str_eq (typeIs_str s b u) PySem.F.entry_str_eq (PySem.F.args_str_eq_2 _ _) (str_eq_declines_dict b u l es ep dd sl) ⟨ho, hq⟩)
    (fun _ hq => call_meets PySem.F.slot_dict_eq_refl ⟨_, ho, rfl⟩ PySem.F.entry_dict_eq (PySem.F.args_dict_eq_2 _ _) (dict_eq_declines_str l es ep dd sl b u) ⟨ho, hq⟩)
    (fun _ hq => wpAny_of_eq (rfl : isSame (.str b u) (.ref l) = pure false) hq) (.inr hu) h
theorem eq_str_dict {l : Addr} {es : Array DictEntry} {ep : Nat} {dd : Option Addr} {sl : Array (Option Value)} (b : Str) (u : Tok) (ho : s.heap.get? l = some { cls := .type "dict", dict := dd, data := .dict es ep, slots := sl }) (hu : A.units < cLine) : SeqAt.EqAt A s (.str b u) (.ref l) false := fun prog w E Q h => by
  unfold eqBool
  refine wpAny_holding ?_
  refine wpAny_ite_split (fun hab => absurd (eq_of_beq hab) nofun) (fun _ => ?_)
  exact wpAny_bind (rc_str_dict b u ho hu prog w E _ (wpAny_truthy_bool h))
end
/-- is the data one of the texts -/
def inTx : D → List Str → Bool
  | .str z, ys => ys.any fun y => decide (y = z)
  | _, _ => false
def eTx (d : D) : Value → Bool
  | .str a _ => (match d with | .str z => decide (a = z) | _ => false)
  | _ => false
theorem eTx_any {d : D} : ∀ {ys : List Str} {its : List Value}, Vals (ys.map V.str) its → its.any (eTx d) = inTx d ys
  | [], _, r => by
    cases r
    cases d <;> rfl
  | y :: ys, _, r => by
    rw [List.map_cons] at r
    cases r with
    | cons h t =>
      obtain ⟨tk, rfl⟩ := h
      rw [List.any_cons, eTx_any t]
      cases d <;> first | rfl | (show (false || _) = _; rw [Bool.false_or]; rfl)
section
variable {X : Cx}
def rInTx (K : PySem.W.Frag) : R2 := fun x y H Q => ∃ F dx p ys, Same F H ∧ Rep K F dx x ∧ (tyT dx).isSome = true ∧ y = .ref p ∧ SqT K H p (ys.map V.str) ∧ Q (.bl (inTx dx ys)) H
theorem eTx_at {pins : List (Addr × Obj)} {σ : L2.St} {F H : Hp} {s : Shared} {dx : D} {x : V} {v : Value} (hu : X.A.units + 1 < cLine) (I : Inv X pins σ H s) (sub : Same F H) (rx : Rep X.K F dx x) (rv : RelV x v) (ht : (tyT dx).isSome = true) (a : Str) (tk : Tok) :
    SeqAt.EqAt X.A.in1 s (.str a tk) v (eTx dx (.str a tk)) := by
  have hu1 : X.A.in1.units < cLine := hu
  cases dx with
  | non => cases rx; cases rv; exact SeqAt.EqAt.str_none a tk
  | bl b => cases rx; cases rv; exact SeqAt.EqAt.str_bool a tk b
  | int i => cases rx; obtain ⟨t, rfl⟩ := rv; exact SeqAt.EqAt.str_int a tk i t
  | str z =>
    obtain ⟨rfl, _⟩ := rx
    obtain ⟨t, rfl⟩ := rv
    have := SeqAt.EqAt.str_str (A := X.A.in1) (s := s) a tk z t
    have e : (a == z) = decide (a = z) := by
      by_cases h : a = z
      · rw [h, decide_eq_true rfl]; exact beq_self_eq_true z
      · rw [decide_eq_false h]; exact beq_eq_false_iff_ne.mpr h
    rw [e] at this
    exact this
  | lst ds =>
    obtain ⟨l, vs, rfl, hl, _, _⟩ := rx
    cases rv
    obtain ⟨its, _, p, _⟩ := I.list (.inl (.inl (sub _ _ hl)))
    exact SeqAt.EqAt.str_list a tk p.isList hu1
  | tup ds =>
    obtain ⟨l, vs, rfl, hl, _, _⟩ := rx
    cases rv
    obtain ⟨its, _, ⟨o, h1, h2, h3⟩, _⟩ := I.tuple (Same.seqT sub hl)
    exact SeqAt.EqAt.str_tuple a tk ⟨o, h1, h2, h3⟩ hu1
  | dic ks ds =>
    obtain ⟨l, kvs, rfl, hl, _, _, _⟩ := rx
    cases rv
    obtain ⟨_, _, vs0, _, ⟨o, es, ep, h1, h2, h3, _⟩⟩ := dk_of I.hok (sub _ _ hl)
    obtain ⟨cls, dd, data, sl⟩ := o
    have hc : cls = Value.type "dict" := h2.1
    have hd : data = .dict es ep := h3
    subst hc hd
    exact eq_str_dict a tk h1 hu1
  | _ => cases ht
theorem op_inTx (hu : X.A.units + 1 < cLine) : OpR X (compareOp .In) (rInTx X.K) := by
  intro pins s σ H x y v u Q I rx ry h
  obtain ⟨F, dx, p, ys, sub, rd, ht, rfl, hT, q⟩ := h
  cases ry
  obtain ⟨its, rvs, ⟨o, h1, h2, n, h3⟩, _⟩ := I.tuple hT
  refine SeqAt.in_tupleAt (eTx dx) ⟨o, h1, h2, n, h3⟩ (fun z hz => ?_) ?_
  · obtain ⟨y, a, e1, e2, r⟩ : ∃ (y : Str) (a : Tok), z = .str y a ∧ True ∧ True := by
      have hz' : z ∈ its := by simpa using hz
      obtain ⟨i, hi⟩ := List.getElem?_of_mem hz'
      have hl := rvs.length
      have hi' : i < ys.length := by
        have := (List.getElem?_eq_some_iff.mp hi).1
        rw [List.length_map] at hl
        omega
      obtain ⟨w, g1, g2⟩ := rvs.get (i := i) (x := .str ys[i]) (by rw [List.getElem?_map, List.getElem?_eq_getElem hi']; rfl)
      rw [hi] at g1
      cases g1
      obtain ⟨t, rfl⟩ := g2
      exact ⟨_, t, rfl, True.intro, True.intro⟩
    subst e1
    exact eTx_at hu I sub rd rx ht y a
  · have e : its.toArray.any (eTx dx) = inTx dx ys := by
      rw [← eTx_any rvs]
      simp
    rw [e]
    exact ⟨.bl _, H, I, rfl, q⟩
end
end DL

set_option Elab.async false
set_option linter.all false
set_option maxRecDepth 100000
/-! DL15: enumerate over a tuple -/
namespace DL
open PySem PySem.Spec PyProof.Rows L2 TL
open AutoSeq1 (wpAny_loadPart')
theorem meets_enumerate_newT (l : Addr) (items : Array Value) (n : Nat) (dct : Option Addr) (sl : Array (Option Value)) :
    Meets (Builtin.«enumerate.__new__» ⟨[.type "enumerate", .ref l], []⟩) (fun _ R s => s.heap.get? l = some { cls := .type "tuple", dict := dct, data := .seq items n, slots := sl } ∧
      R (.ok (.ret (.ref (s.heap.push { cls := .type "tuple_iterator", data := .fields #[.ref l, .int 0 0] }).objs.size)))
        { s with heap := (s.heap.push { cls := .type "tuple_iterator", data := .fields #[.ref l, .int 0 0] }).push { cls := .type "enumerate", data := .fields #[.none, .bool false, .ref s.heap.objs.size, rawInt 0, .none, .none] } }) :=
  .of_wp fun prog w A R s h => by
    obtain ⟨hp, g, d, tk, os⟩ := s; obtain ⟨hl, h⟩ := h
    have hsub := sub_enumerate
    have hL : Heap.IsTuple (Shared.heap ⟨hp, g, d, tk, os⟩) l items := ⟨_, hl, rfl, n, rfl⟩
    wp_walk using wpAny_loadPart' hl
    refine wpAny_stack_any fun st => wpAny_pure ?_
    split
    · rename_i c _ _ _ _ _
      cases (c == Value.type "enumerate")
      · wp_walk using wpAny_loadPart' hl, wpAny_pyIter_tuple hL
        exact ⟨_, rfl, h⟩
      · wp_walk using wpAny_loadPart' hl, wpAny_pyIter_tuple hL
        exact ⟨_, rfl, h⟩
    · wp_walk using wpAny_loadPart' hl, wpAny_pyIter_tuple hL
      exact ⟨_, rfl, h⟩
section
variable {prog : Program} {w : World} {A : Around} {E : Value → Shared → Prop} {s : Shared}
theorem call_enumerate_tuple {l : Addr} {items : Array Value} {Q : Value → Shared → Prop} (hL : s.heap.IsTuple l items)
    (h : ∀ h', IsEnum h' (s.heap.objs.size + 1) s.heap.objs.size 0 .none → h'.IsTupleIter s.heap.objs.size l 0 → h'.objs.size = s.heap.objs.size + 2 →
      (∀ b o, s.heap.get? b = some o → h'.get? b = some o) → Q (.ref (s.heap.objs.size + 1)) { s with heap := h' }) :
    wpAny (model prog w) A (call (.type "enumerate") [.ref l]) Q E s := by
  obtain ⟨⟨c, dct, dt, sl⟩, hl, hc, n, hd⟩ := hL
  replace hc : c = .type "tuple" := hc
  replace hd : dt = .seq items n := hd
  subst hc hd
  refine callType_new F.called_enumerate (by decide) (F.typeCall_enumerate_1 _) (F.newCall_enumerate_1 _) (fun obj => F.args_object_init_2 obj _) F.entry_enumerate_new
    (meets_enumerate_newT l items n dct sl) ⟨hl, ?_⟩
  have hz : (s.heap.push { cls := .type "tuple_iterator", data := .fields #[.ref l, .int 0 0] }).objs.size = s.heap.objs.size + 1 := Heap.size_push ..
  show _ ∧ _
  rw [hz]
  have he : IsEnum ((s.heap.push { cls := .type "tuple_iterator", data := .fields #[.ref l, .int 0 0] }).push
      { cls := .type "enumerate", data := .fields #[.none, .bool false, .ref s.heap.objs.size, rawInt 0, .none, .none] }) (s.heap.objs.size + 1) s.heap.objs.size 0 .none := by
    have := Heap.get?_push_size (s.heap.push { cls := .type "tuple_iterator", data := .fields #[.ref l, .int 0 0] })
      (o := { cls := .type "enumerate", data := .fields #[.none, .bool false, .ref s.heap.objs.size, rawInt 0, .none, .none] }) rfl
    rw [hz] at this; exact this
  refine ⟨⟨_, he, rfl⟩, h _ he ⟨_, Heap.get?_push_of_some _ (Heap.get?_push_size _ rfl), rfl, rfl⟩ (by rw [Heap.size_push, hz]) fun b o x => Heap.get?_push_of_some _ (Heap.get?_push_of_some _ x)⟩
theorem next_enumT_end {e it l : Addr} {i : Nat} {items : Array Value} {old : Value} {Q : Option Value → Shared → Prop} (hh : A.handled = none)
    (he : IsEnum s.heap e it i old) (hit : s.heap.IsTupleIter it l i) (hl : s.heap.IsTuple l items) (hx : items[i]? = none)
    (hQ : ∀ h', Heap.ExtBut it s.heap h' → Q none { s with heap := h' }) : wpAny (model prog w) A (pyNext (.ref e)) Q E s := by
  have hT : s.TypeIs (.ref e) "enumerate" := ⟨_, he, rfl⟩
  unfold pyNext
  refine wpAny_bind (wpAny_attempt (wpAny_callSpecial?_slot (name := Str.ofString "__next__") hT F.slot_enumerate_next
    (wpAny_call_entry F.slot_enumerate_next hT F.entry_enumerate_next ?_ (F.args_enumerate_next_1 _))))
  show wpAny _ _ (field (.ref e) 2 >>= _) _ _ _
  refine wpAny_bind (wpAny_field he rfl (x := .ref it) rfl ?_)
  refine wpAny_bind (wpAny_nextOf_tuple_end hh hit hl hx fun h' x he' hx' => ?_)
  obtain ⟨o, ho, hc⟩ := hx'
  refine wpAny_bind (wpAny_isInstance (T := "StopIteration") (b := true) ⟨o, ho, hc⟩ isSubtype_stop ?_)
  exact wpAny_pure (hQ _ he')
end
/-- the tuple at a, each item in a new pair -/
def IteT (K : PySem.W.Frag) (a : Addr) : It :=
  ⟨fun i H => ∃ (xs : List V) (x : V), SqT K H a xs ∧ xs[i]? = some x, fun i H v H' => ∃ T x, v = .ref T ∧ H T = none ∧ H' = upd H T (.tup [.int (i : Nat), x]) ∧ ∀ xs, SqT K H a xs → xs[i]? = some x, fun i H => ∃ xs : List V, SqT K H a xs ∧ xs.length ≤ i⟩
theorem turn_enumT {P : Program} {w : World} {K : PySem.W.Frag} {elts : List Expr} {kk : Nat} {tpos : Pos} (a e it : Addr) :
    Turn P w K (.Tuple elts kk tpos) (IteT K a) [e, it] e (fun i h => (∃ old, IsEnum h e it ((i : Nat) : Int) old) ∧ h.IsTupleIter it a i ∧ e ≠ it) where
  mem := by simp
  obj := fun i h st b hb => by
    obtain ⟨⟨old, he⟩, ⟨o, ho, hc, hd⟩, _⟩ := st
    have e' : b = e ∨ b = it := by simpa using hb
    rcases e' with z | z
    · rw [z]; exact ⟨_, he, fun v q => nomatch q⟩
    · rw [z]; exact ⟨o, ho, fun v q => by rw [hd] at q; cases q⟩
  keep := fun i h h' st k => let ⟨⟨old, he⟩, hi, hne⟩ := st; ⟨⟨old, k e (by simp) _ he⟩, hi.at fun o q => k it (by simp) o q, hne⟩
  item := by
    intro X hP hw hK hc i pins s σ H E I hf st hg
    subst hP hw hK
    obtain ⟨⟨old, he⟩, hit, hne⟩ := st
    obtain ⟨xs, x, hq, hx⟩ := hg
    obtain ⟨its, rv, ⟨o, g1, g2, n, g3⟩, hz⟩ := I.tuple hq
    have p : s.heap.IsTuple a its.toArray := ⟨o, g1, g2, n, g3⟩
    obtain ⟨u, hu, ru⟩ := rv.get hx
    have hel : e < s.heap.objs.size := Heap.lt_size he
    have hil : it < s.heap.objs.size := by obtain ⟨_, q, _⟩ := hit; exact Heap.lt_size q
    have hai : a ≠ it := fun z => by
      obtain ⟨o', q1, q2, _⟩ := hit
      rw [← z, g1] at q1
      cases q1
      rw [g2] at q2
      exact absurd (Value.type.inj q2) (by decide)
    have hae : e ≠ a := fun z => by
      have he' : s.heap.get? e = some _ := he
      rw [z, g1] at he'
      have := Option.some.inj he'
      rw [this] at g2
      exact absurd (Value.type.inj g2) (by decide)
    have hlt : i < its.toArray.size := by
      have := (List.getElem?_eq_some_iff.mp hu).1
      simpa using this
    refine wpAny_pyNext_enum_itemD (Draws.tuple (A := X.A.in1) (I.ok.hd hc) it a hai its.toArray) he ⟨hit, p⟩ hlt hne (by simp [hne, hae]) fun u' h' tk hP ho hit' hT hsz hk => ?_
    have eu : u' = u := by
      have hP' : its.toArray[i]? = some u' := hP
      have : its[i]? = some u' := by simpa using hP'
      rw [hu] at this
      exact (Option.some.inj this).symm
    subst eu
    refine ⟨_, rfl, wpAny_letOwnedTupleGo_enum (s := { s with heap := h', toks := tk + 1 }) ho fun h'' he' sb => ?_⟩
    have hT2 : h''.get? s.heap.objs.size = some { cls := .type "tuple", data := .seq #[.int i tk, u'] } := (sb.2 _ (Nat.ne_of_gt hel)).trans hT
    have new : ObjOk X.prog X.w (upd H s.heap.objs.size (.tup [.int (i : Nat), x])) h'' s.heap.objs.size (.tup [.int (i : Nat), x]) :=
      ⟨by show 2 ≤ sizeLine; decide, [.int i tk, u'], .cons ⟨_, rfl⟩ (.cons ru .nil), ⟨_, hT2, rfl, _, rfl⟩⟩
    have I1 : Inv X pins σ (upd H s.heap.objs.size (.tup [.int (i : Nat), x])) { s with heap := h'', toks := tk + 1 } :=
      I.turnedNew (ch := [e, it]) (fun b ob hb q => (sb.2 b (fun z => hb (by simp [z]))).trans (hk b ob (fun z => hb (by simp [z])) (fun z => hb (by simp [z])) q)) hf (Nat.le_refl _) new
    refine ⟨.ref s.heap.objs.size, _, I1, rfl, ⟨_, x, rfl, I.hok.fresh (Nat.le_refl _), rfl, fun ys hy => by rw [I.tuple_inj hy hq]; exact hx⟩, ⟨⟨u', ?_⟩, hit'.1.at fun o q => (sb.2 it (Ne.symm hne)).trans q, hne⟩, fun b hb => ?_⟩
    · have e1 : ((i + 1 : Nat) : Int) = (i : Int) + 1 := by omega
      rw [e1]; exact he'
    · have hb' : b < s.heap.objs.size := by
        have e' : b = e ∨ b = it := by simpa using hb
        rcases e' with z | z
        · rw [z]; exact hel
        · rw [z]; exact hil
      rw [upd_ne (Nat.ne_of_lt hb')]
      exact (hf b hb).1
  done := by
    intro X hP hw hK hc i pins s σ H E I hf st hg
    subst hP hw hK
    obtain ⟨⟨old, he⟩, hit, hne⟩ := st
    obtain ⟨xs, hq, hx⟩ := hg
    obtain ⟨its, rv, ⟨o, g1, g2, n, g3⟩, hz⟩ := I.tuple hq
    obtain ⟨f0, f1, f2, f3, f4, f5⟩ := hf it (by simp)
    have hl := rv.length
    exact next_enumT_end (I.ok.hd hc) he hit ⟨o, g1, g2, n, g3⟩ (by simp; omega) fun h' eb => ⟨rfl, I.turned (t' := s.toks) (fun b o hb q => eb b o hb q) f0 f1 f3 f4 f5⟩
  self := fun A i s Q E st h => let ⟨⟨_, he⟩, _⟩ := st; wpAny_pyIter_enum he h
def iEnumT (K : PySem.W.Frag) (ta : TA) : TI := fun σ H R => ta σ H fun vs H1 => ∃ a xs, vs = [.ref a] ∧ ((SqL K H1 a xs ∧ R (Ite K a) H1) ∨ (SqT K H1 a xs ∧ R (IteT K a) H1))
theorem pi_enumA {X : Cx} {e : Expr} {ta : TA} {p pos tpos : Pos} {elts : List Expr} {kk : Nat} (hg : Gl X "enumerate") (hm : X.mg "enumerate" = none) (ha : PA X [e] ta) (hs : starEach [e] X.env = [(false, eval e X.env)] := by rfl) :
    PI X (.Tuple elts kk tpos) (.Call (.Name "enumerate" p) [e] [] pos) (iEnumT X.K ta) := by
  refine ⟨fun pins s σ H R I h => ?_⟩
  refine Call_ (ld_blt I hg hm boot_enumerate (PyProof.Rows.callWith_type1 (thn (ha.run pos pins s σ H _ I h) fun us s1 ⟨vs, H1, I1, r1, q1⟩ => ?_) hs rfl))
  obtain ⟨a, xs, ex, q⟩ := q1
  subst ex
  cases r1 with
  | cons r rr =>
    cases rr
    cases r
    rcases q with ⟨hq, q⟩ | ⟨hq, q⟩
    · obtain ⟨its, rv, p', hz⟩ := I1.list hq
      refine call_enumerate_list p'.isList fun h' he hit hsz hk => wpAny_pyIter_enum he ?_
      have I2 : Inv X pins σ H1 { s1 with heap := h' } := I1.kept (t' := s1.toks) hk
      refine ⟨s1.heap.objs.size + 1, [s1.heap.objs.size + 1, s1.heap.objs.size], _, _, H1, rfl, I2, turn_enum a (s1.heap.objs.size + 1) s1.heap.objs.size, ⟨⟨.none, he⟩, hit, Nat.succ_ne_self _⟩, fun b hb => ?_, q⟩
      have e' : b = s1.heap.objs.size + 1 ∨ b = s1.heap.objs.size := by simpa using hb
      have hle : s1.heap.objs.size ≤ b := by
        rcases e' with z | z
        · rw [z]; exact Nat.le_add_right _ _
        · rw [z]; exact Nat.le_refl _
      exact I1.fpOk hle (I1.hok.fresh hle)
    · obtain ⟨its, rv, ⟨o, g1, g2, n, g3⟩, hz⟩ := I1.tuple hq
      refine call_enumerate_tuple (items := its.toArray) ⟨o, g1, g2, n, g3⟩ fun h' he hit hsz hk => wpAny_pyIter_enum he ?_
      have I2 : Inv X pins σ H1 { s1 with heap := h' } := I1.kept (t' := s1.toks) hk
      refine ⟨s1.heap.objs.size + 1, [s1.heap.objs.size + 1, s1.heap.objs.size], _, _, H1, rfl, I2, turn_enumT a (s1.heap.objs.size + 1) s1.heap.objs.size, ⟨⟨.none, he⟩, hit, Nat.succ_ne_self _⟩, fun b hb => ?_, q⟩
      have e' : b = s1.heap.objs.size + 1 ∨ b = s1.heap.objs.size := by simpa using hb
      have hle : s1.heap.objs.size ≤ b := by
        rcases e' with z | z
        · rw [z]; exact Nat.le_add_right _ _
        · rw [z]; exact Nat.le_refl _
      exact I1.fpOk hle (I1.hok.fresh hle)
section
variable {X : Cx} {m : Mem} {pos p : Pos} {ta : DTA m}
theorem walks_enumT {K : PySem.W.Frag} {F : Hp} {a : Addr} {ds : List D} {vs : List V} (h1 : SqT K F a vs) (r1 : Reps K F ds vs) : Walks K F (IteT K a) (enumD ds) := fun F' H' s1 s2 => by
  have q1 : SqT K H' a vs := Same.seqT s2 (Same.seqT s1 h1)
  refine ⟨fun i hi => ⟨vs, q1, by rw [r1.length]; unfold enumD at hi; rw [List.length_mapIdx] at hi; exact hi⟩, fun i d e => ?_⟩
  obtain ⟨x, ex, rfl⟩ := enum_get e
  obtain ⟨v, ev, rv⟩ := r1.get ex
  refine ⟨⟨vs, v, q1, ev⟩, fun z H2 yl => ?_⟩
  obtain ⟨T, v', rfl, nT, rfl, g1⟩ := yl
  have e1 := g1 vs q1
  rw [ev] at e1
  cases e1
  have g : Grow F' H' (upd F' T (.tup [.int (i : Nat), v])) (upd H' T (.tup [.int (i : Nat), v])) := Grow.new s2 nT
  exact ⟨_, g, rep_pair upd_same rfl (Rep.mono (s1.trans g.fF) _ _ rv)⟩
def dEnumA {m : Mem} (ta : DTA m) : DTI m := fun ρ s Q => ta ρ s fun ds ρ1 s1 => ∃ d xs, ds = [d] ∧ (d = .lst xs ∨ d = .tup xs) ∧ Q (enumD xs) ρ1 s1
theorem di_enumA {a : Expr} {elts : List Expr} {kk : Nat} {tpos : Pos} (hg : Gl X "enumerate") (hm : X.mg "enumerate" = none) (ha : PA X [a] (upA X.K m ta)) (hs : starEach [a] X.env = [(false, eval a X.env)] := by rfl) :
    PI X (.Tuple elts kk tpos) (.Call (.Name "enumerate" p) [a] [] pos) (upI X.K m (dEnumA ta)) := PI.imp (pi_enumA hg hm ha hs) fun σ H R h => by
  obtain ⟨F, ρ, s, Qd, r, ht, hQ⟩ := h
  refine ⟨F, ρ, s, _, r, ht, fun ds ρ1 s1 vs F1 H1 ⟨d, xs, ed, ek, q1⟩ r1 st1 rs => ?_⟩
  subst ed
  rcases ek with rfl | rfl
  · obtain ⟨v, _, rfl, ⟨a, vs, rfl, h1, _, k1⟩, rn⟩ := rs
    cases rn
    exact ⟨a, vs, rfl, .inl ⟨.inl (.inl (r1.sub _ _ h1)), hQ _ ρ1 s1 _ F1 H1 q1 r1 st1 (walks_enumL (.inl (.inl h1)) k1)⟩⟩
  · obtain ⟨v, _, rfl, ⟨a, vs, rfl, h1, _, k1⟩, rn⟩ := rs
    cases rn
    exact ⟨a, vs, rfl, .inr ⟨Same.seqT r1.sub h1, hQ _ ρ1 s1 _ F1 H1 q1 r1 st1 (walks_enumT h1 k1)⟩⟩
end
end DL

set_option Elab.async false
set_option linter.all false
set_option maxRecDepth 100000
/-! DL16: a list of any data against [] -/
namespace DL
open PySem PySem.Spec PyProof.Rows L2 TL
section
variable {X : Cx}
def rEqE (K : PySem.W.Frag) (neg : Bool) : R2 := fun x y H Q => ∃ a b xs, x = .ref a ∧ y = .ref b ∧ SqL K H a xs ∧ SqL K H b [] ∧ Q (.bl (neg ^^ xs.isEmpty)) H
theorem op_eqE (hu : X.A.units + 1 < cLine) : OpR X (compareOp .Eq) (rEqE X.K false) := by
  intro pins s σ H x y v u Q I rx ry h
  obtain ⟨a, b, xs, rfl, rfl, ha, hb, q⟩ := h
  cases rx
  cases ry
  obtain ⟨its, rv, p, _⟩ := I.list ha
  obtain ⟨its2, rv2, p2, _⟩ := I.list hb
  cases rv2
  have hl := rv.length
  rw [Bool.false_xor] at q
  cases xs with
  | nil =>
    cases rv
    refine SeqAt.eq_listAt (e := fun _ => true) p.isList p2.isList rfl (by omega) (fun j h1 _ => absurd h1 (by simp)) ?_
    exact ⟨.bl true, H, I, rfl, q⟩
  | cons z r =>
    refine SeqAt.eq_list_lengthsAt p.isList p2.isList ?_ (by omega) ⟨.bl false, H, I, rfl, q⟩
    rw [List.length_cons] at hl
    simp [← hl]
theorem op_neE (hu : X.A.units + 1 < cLine) : OpR X (compareOp .NotEq) (rEqE X.K true) := by
  intro pins s σ H x y v u Q I rx ry h
  obtain ⟨a, b, xs, rfl, rfl, ha, hb, q⟩ := h
  cases rx
  cases ry
  obtain ⟨its, rv, p, _⟩ := I.list ha
  obtain ⟨its2, rv2, p2, _⟩ := I.list hb
  cases rv2
  have hl := rv.length
  rw [Bool.true_xor] at q
  cases xs with
  | nil =>
    cases rv
    refine SeqAt.RcNeAt.lists (A := X.A) (e := fun _ => true) p.isList p2.isList rfl (by omega) (fun j h1 _ => absurd h1 (by simp)) _ _ _ _ ?_
    exact ⟨.bl false, H, I, rfl, q⟩
  | cons z r =>
    refine SeqAt.RcNeAt.lists_lengths (A := X.A) p.isList p2.isList ?_ (by omega) _ _ _ _ ⟨.bl true, H, I, rfl, q⟩
    rw [List.length_cons] at hl
    simp [← hl]
def eqE (neg : Bool) (x y : D) (Q : Bool → Prop) : Prop := ∃ xs, x = .lst xs ∧ y = .lst [] ∧ Q (neg ^^ xs.isEmpty)
theorem o_eqE {K : PySem.W.Frag} {neg : Bool} : Cm2 K (rEqE K neg) (eqE neg) := by
  intro F H dx dy x y Qd Q sub rx ry h hQ
  obtain ⟨xs, rfl, rfl, q⟩ := h
  obtain ⟨a, vs, rfl, h1, _, r1⟩ := rx
  obtain ⟨b, ws, rfl, h2, _, r2⟩ := ry
  cases r2
  have e : vs.isEmpty = xs.isEmpty := by
    have := r1.length
    cases vs <;> cases xs <;> simp at this ⊢
  refine ⟨a, b, vs, rfl, rfl, .inl (.inl (sub _ _ h1)), .inl (.inl (sub _ _ h2)), ?_⟩
  rw [e]
  exact hQ _ F H q (Grow.refl sub)
end
end DL

set_option Elab.async false
set_option linter.all false
set_option maxRecDepth 100000
/-! DL17: a def's own list by x, y = e, [] and by y = list(e) -/
namespace DL
open PySem PySem.Spec PyProof.Rows L2 TL
section
variable {X : Cx} {m : Mem} {E : Ent m} {pos : Pos}
end
end DL

set_option Elab.async false
set_option linter.all false
set_option maxRecDepth 100000
/-! DL18: t[::-1] of a tuple -/
namespace DLR
open PySem PySem.Spec PyProof.Rows L2 HT
section
variable {P : Program} {w : World} {A : Around} {X0 : Value → Shared → Prop} {s : Shared}
theorem back_many (n : Nat) : Builtin.Slice.slicePlaces ((n : Int) - 1) (-1) (-1) = n := by
  simp only [Builtin.Slice.slicePlaces, show ¬ (-1 : Int) > 0 by decide, if_false, Int.neg_neg, Int.ediv_one]
  by_cases h : (n : Int) - 1 > -1
  · rw [if_pos h]; omega
  · rw [if_neg h]; omega
theorem back_ends (n : Nat) : Builtin.Slice.sliceAdjust none none (-1) (n : Int) = ((n : Int) - 1, -1) := by
  simp [Builtin.Slice.sliceAdjust]
theorem back_applied {b : Addr} {k : Value} {n : Nat} {R : Int × Int × Nat → Shared → Prop} (hb : s.heap.IsSliceOf b .none .none k) (hk : IsPart k (some (-1))) (q : R ((n : Int) - 1, -1, n) s) :
    wpAny (model P w) A (Builtin.Slice.sliceApplied (.ref b) (pure (n : Int))) R X0 s := by
  obtain ⟨o, h1, _, h3⟩ := id hb
  have last : wpAny (model P w) A (match Builtin.Slice.sliceAdjust none none (-1) (n : Int) with | (lo, hi) => pure (lo, (-1 : Int), Builtin.Slice.slicePlaces lo hi (-1))) R X0 s := by
    rw [back_ends]
    show wpAny _ _ (pure ((n : Int) - 1, (-1 : Int), Builtin.Slice.slicePlaces ((n : Int) - 1) (-1) (-1))) _ _ s
    rw [back_many]
    exact wpAny_pure q
  unfold Builtin.Slice.sliceApplied Builtin.Slice.sliceFields
  exact wpAny_bind (wpAny_bind (wpAny_field h1 h3 (x := .none) rfl (wpAny_bind (wpAny_field h1 h3 (x := .none) rfl (wpAny_bind (wpAny_field h1 h3 (x := k) rfl (wpAny_pure (wpAny_bind (slicePart_ hk (wpAny_bind (slicePart_ .none (wpAny_bind (slicePart_ .none (wpAny_bind (wpAny_pure last)))))))))))))))
theorem all_at : ∀ l : List Value, (List.range l.length).filterMap (fun m => l[m]?) = l
  | [] => rfl
  | a :: r => by
    rw [List.length_cons, List.range_succ_eq_map, List.filterMap_cons]
    simp only [List.getElem?_cons_zero, List.filterMap_map]
    exact congrArg (a :: ·) (all_at r)
theorem filterMap_eq {f g : Nat → Option Value} : ∀ {l : List Nat}, (∀ m ∈ l, f m = g m) → l.filterMap f = l.filterMap g
  | [], _ => rfl
  | a :: r, h => by rw [List.filterMap_cons, List.filterMap_cons, h a List.mem_cons_self, filterMap_eq fun m hm => h m (List.mem_cons_of_mem _ hm)]
theorem back_picked (xs : Array Value) : ((List.range xs.size).filterMap fun (m : Nat) => xs[(((xs.size : Int) - 1) + (m : Int) * (-1)).toNat]?).toArray = xs.toList.reverse.toArray := by
  refine congrArg List.toArray ?_
  have h := all_at xs.toList.reverse
  rw [List.length_reverse, Array.length_toList] at h
  refine Eq.trans (filterMap_eq fun m hm => ?_) h
  have hm := List.mem_range.mp hm
  rw [show (((xs.size : Int) - 1) + (m : Int) * (-1)).toNat = xs.size - 1 - m by omega, List.getElem?_reverse (by rw [Array.length_toList]; exact hm), Array.length_toList, Array.getElem?_toList]
theorem tuple_back {t b : Addr} {xs : Array Value} {k : Value} {R : Value → Shared → Prop} (ht : IsTup s.heap t xs) (hb : s.heap.IsSliceOf b .none .none k) (hk : IsPart k (some (-1))) (small : xs.size ≤ sizeLine)
    (q : R (.ref s.heap.objs.size) { s with heap := s.heap.push { cls := .type "tuple", data := .seq xs.toList.reverse.toArray } }) : wpAny (model P w) A (getItem (.ref t) (.ref b)) R X0 s := by
  have hT : s.TypeIs (.ref b) "slice" := hb.elim fun o h => ⟨o, h.1, h.2.1⟩
  have room : sizeOk (.seq xs.toList.reverse.toArray) := by
    show xs.toList.reverse.toArray.size ≤ sizeLine
    simpa using small
  have part : ¬ (((xs.size : Int) - 1 == 0 && (-1 : Int) == 1 && xs.size == xs.size) = true) := by simp
  have body : wpAny (model P w) A.in1 (Builtin.«tuple.__getitem__» ⟨[.ref t, .ref b], []⟩) (fun o s' => ∃ v, o = .done (.ret v) ∧ wpAny (model P w) A (pure v) R X0 s') X0 s := by
    show wpAny _ _ (Builtin.Tuple.tupleItemsOf (.ref t) >>= _) _ _ s
    refine wpAny_bind (tupleItemsOf_ ht (wpAny_bind (wpAny_typeOf hT ?_)))
    rw [if_pos (show (Value.type "slice" == .type "slice") = true by decide)]
    refine wpAny_bind (back_applied hb hk ?_)
    show wpAny _ _ (if ((xs.size : Int) - 1 == 0 && (-1 : Int) == 1 && xs.size == xs.size) = true then _ else _) _ _ s
    rw [if_neg part, back_picked]
    have end_ : wpAny (model P w) A (pure (Value.ref s.heap.objs.size)) R X0 { s with heap := s.heap.push { cls := .type "tuple", data := .seq xs.toList.reverse.toArray } } := wpAny_pure q
    first
      | exact wpAny_bind (m := Builtin.Tuple.tupleExact _) (wpAny_newObj_type (wpAny_pure ⟨_, rfl, end_⟩) room)
      | exact wpAny_bind (m := Builtin.Tuple.tupleExact _) (wpAny_newObj_type (wpAny_bind (wpAny_pure (wpAny_pure ⟨_, rfl, end_⟩))) room)
      | exact wpAny_bind (wpAny_bind (m := Builtin.Tuple.tupleExact _) (wpAny_newObj_type (wpAny_pure (wpAny_pure ⟨_, rfl, end_⟩)) room))
      | exact wpAny_bind (wpAny_bind (m := Builtin.Tuple.tupleExact _) (wpAny_newObj_type (wpAny_pure ⟨_, rfl, end_⟩) room))
  have called := wpAny_call_entry PyProof.Rows.slot_tuple_getitem ht.typeIs entry_tuple_getitem body (args_tuple_getitem _ _)
  unfold getItem
  with_reducible refine wpAny_holding ?_
  exact wpAny_bind (wpAny_sequenceKey ht.typeIs (by decide) (wpAny_bind (wpAny_callSpecial?_slot (name := Str.ofString "__getitem__") ht.typeIs PyProof.Rows.slot_tuple_getitem called)))
end
section
variable {X : Cx}
def tRevT (K : PySem.W.Frag) (te : TE) : TE := fun σ H Q => te σ H fun x H1 => ∃ a xs, x = .ref a ∧ SqT K H1 a xs ∧ ∀ p, H1 p = none → Q (.ref p) (upd H1 p (.tup xs.reverse))
theorem pe_revT {e : Expr} {te : TE} {n : Nat} {u1 u2 u3 at_ : Pos} (he : PE X e te) : PE X (.Subscript e (.Slice none none (some (.UnaryOp .USub (.Constant (.int 1) n u1) u2)) u3) at_) (tRevT X.K te) := by
  have step : PO X (some (.UnaryOp .USub (.Constant (.int 1) n u1) u2)) (tPart (tUn (rU fun i => .int (-i)) (tC (.int 1)))) := po_some (pe_un un_neg pe_int)
  constructor
  intro pins s0 σ H Q I0 w0
  apply Subscript_
  refine thn (he.run pins s0 σ H _ I0 w0) fun v s1 ⟨_, H1, I1, r1, a, xs, e1, hx, fin⟩ => ?_
  subst e1
  cases r1
  apply wpAny_Slice
  refine thn (po_none.run pins s1 σ H1 (fun o J => o = none ∧ J = H1) I1 ⟨rfl, rfl⟩) fun lo s2 ⟨oa, Ha, I2, d2, ea, eb⟩ => ?_
  subst ea eb
  refine thn (po_none.run pins s2 σ _ (fun o J => o = none ∧ J = Ha) I2 ⟨rfl, rfl⟩) fun hi s3 ⟨oc, Hc, I3, d3, ec, ed⟩ => ?_
  subst ec ed
  refine thn (step.run pins s3 σ _ (fun o J => o = some (-1) ∧ J = Hc) I3 ⟨1, rfl, -1, rfl, rfl, rfl⟩) fun st s4 ⟨oe, He, I4, d4, ee, ef⟩ => ?_
  subst ee ef
  cases d2
  cases d3
  obtain ⟨s5, h5⟩ : ∃ s5 : Shared, s5 = { s4 with heap := s4.heap.push { cls := .type "slice", data := .fields #[.none, .none, st] } } := ⟨_, rfl⟩
  have I5 : Inv X pins σ He s5 := by rw [h5]; exact I4.kept (t' := s4.toks) fun _ _ z => Heap.get?_push_of_some _ z
  have cut : s5.heap.IsSliceOf s4.heap.objs.size .none .none st := by rw [h5]; exact Heap.IsSliceOf.new _ .none .none st
  obtain ⟨its, r, ht, hz⟩ := I5.tuple hx
  have len := r.length
  have got : wpAny (model X.prog X.w) X.A (getItem (.ref a) (.ref s4.heap.objs.size)) (EP X pins σ Q) X.xe s5 :=
    tuple_back ht cut d4 (by rw [List.size_toArray]; omega) ⟨.ref _, _, I5.laid (t' := s5.toks) (o := .tup xs.reverse) (fun _ _ z => Heap.get?_push_of_some _ z) (Nat.le_refl _) ⟨by rw [List.length_reverse]; exact hz, _, r.reverse, IsTup.new _ _⟩, rfl, fin _ (I5.hok.fresh (Nat.le_refl _))⟩
  show wpAny _ _ (subscriptTail e (.Slice none none (some (.UnaryOp .USub (.Constant (.int 1) n u1) u2)) u3) (.ref a) (.ref s4.heap.objs.size)) _ _ _
  rw [← h5]
  exact tail_any (ops := [.ref a, .ref s4.heap.objs.size]) ht.typeIs (PyProof.Rows.slot_tuple_getitem.lookup) got (by with_unfolding_all rfl)
end
end DLR
namespace DL
open PySem PySem.Spec PyProof.Rows L2 TL
section
variable {X : Cx} {m : Mem}
def dRevT {m : Mem} (ta : DT m) : DT m := fun ρ s Q => ta ρ s fun d ρ1 s1 => ∃ ds, d = .tup ds ∧ Q (.tup ds.reverse) ρ1 s1
theorem de_revT {e : Expr} {ta : DT m} {k : Nat} {p1 p2 p3 pos : Pos} (he : PE X e (up X.K m ta)) : PE X (.Subscript e (.Slice none none (some (.UnaryOp .USub (.Constant (.int 1) k p1) p2)) p3) pos) (up X.K m (dRevT ta)) := PE.imp (DLR.pe_revT he) fun σ H Q h => by
  obtain ⟨F, ρ, s, Qd, rl, ht, hQ⟩ := h
  refine ⟨F, ρ, s, _, rl, ht, fun d ρ1 s1 x F1 H1 ⟨ds, e, q1⟩ r1 st1 rx => ?_⟩
  subst e
  obtain ⟨a, vs, rfl, h1, hl, rs⟩ := rx
  refine ⟨a, vs, rfl, Same.seqT r1.sub h1, fun p np => ?_⟩
  have g : Grow F1 H1 (upd F1 p (.tup vs.reverse)) (upd H1 p (.tup vs.reverse)) := Grow.new r1.sub np
  exact hQ _ ρ1 s1 _ _ _ q1 (r1.grow g) (st1.trans g.stp) ⟨p, _, rfl, .inl (.inl upd_same), by rw [List.length_reverse]; exact hl, (Reps.mono g.fF _ _ rs).reverse⟩
end
end DL

set_option Elab.async false
set_option linter.all false
set_option maxRecDepth 100000
/-! DL19: a hidden list becomes a slot's own; x, y = [], e -/
namespace DL
open PySem PySem.Spec PyProof.Rows L2 TL
section
variable {X : Cx} {m : Mem} {E : Ent m} {pos : Pos}
theorem put_hid {K : PySem.W.Frag} {F' H' : Hp} {σ : L2.St} {ρ' : List Sl} {s' : m.S} (r' : Rel K m F' H' σ ρ' s') (o' : Own m E F' H' σ ρ' s') (i : Nat) {p : Addr} {ho : HO} {ob : Ob} (hp : H' p = some ho) (nF : F' p = none) (nR : ¬ m.R s' p) (nO : ∀ i, ¬ Owns σ ρ' i p) (eH : E.H p = none) (hob : ObAt K F' ob p ho) :
    Rel K m F' H' (σ.set i (some (.ref p))) (ρ'.set i (.ow ob)) s' ∧ Own m E F' H' (σ.set i (some (.ref p))) (ρ'.set i (.ow ob)) s' := by
  have other : ∀ (j : Nat) q, i ≠ j → Owns (σ.set i (some (.ref p))) (ρ'.set i (.ow ob)) j q → Owns σ ρ' j q := fun j q hj ⟨⟨o', h1⟩, h2⟩ => by
    rw [List.getElem?_set_ne hj] at h1 h2; exact ⟨⟨o', h1⟩, h2⟩
  have self : ∀ q, Owns (σ.set i (some (.ref p))) (ρ'.set i (.ow ob)) i q → q = p := fun q ⟨⟨o', h1⟩, h2⟩ => by
    have hi : i < σ.length := by
      have := (List.getElem?_eq_some_iff.mp h2).1
      rw [List.length_set] at this; exact this
    rw [List.getElem?_set_self hi] at h2
    cases h2; rfl
  refine ⟨⟨r'.sub, r'.mem, r'.reg, by rw [List.length_set, List.length_set]; exact r'.len, fun j d' z => ?_, fun j o' z => ?_, fun j q z => ?_, fun j k q h1 h2 => ?_⟩, ⟨o'.ext, o'.keep, o'.alive, o'.fresh, o'.regf, fun j q z => ?_⟩⟩
  · by_cases hj : i = j
    · subst hj
      have hi : i < ρ'.length := by
        have := (List.getElem?_eq_some_iff.mp z).1
        rw [List.length_set] at this; exact this
      rw [List.getElem?_set_self hi] at z
      cases z
    · rw [List.getElem?_set_ne hj] at z
      obtain ⟨w, h1, h2⟩ := r'.sh j d' z
      exact ⟨w, by rw [List.getElem?_set_ne hj]; exact h1, h2⟩
  · by_cases hj : i = j
    · subst hj
      have hi : i < ρ'.length := by
        have := (List.getElem?_eq_some_iff.mp z).1
        rw [List.length_set] at this; exact this
      rw [List.getElem?_set_self hi] at z
      cases z
      exact ⟨p, _, List.getElem?_set_self (by rw [r'.len]; exact hi), hp, hob⟩
    · rw [List.getElem?_set_ne hj] at z
      obtain ⟨q, ho', h1, h2, h3⟩ := r'.ow j o' z
      exact ⟨q, ho', by rw [List.getElem?_set_ne hj]; exact h1, h2, h3⟩
  · by_cases hj : i = j
    · subst hj
      rw [self q z]; exact ⟨nF, nR⟩
    · exact r'.owF j q (other j q hj z)
  · by_cases hj : i = j
    · subst hj
      by_cases hk : i = k
      · exact hk
      · exact absurd ((self q h1) ▸ other k q hk h2) (nO k)
    · by_cases hk : i = k
      · subst hk
        exact absurd ((self q h2) ▸ other j q hj h1) (nO j)
      · exact r'.uq j k q (other j q hj h1) (other k q hk h2)
  · by_cases hj : i = j
    · subst hj
      rw [self q z]; exact eH
    · exact o'.own j q (other j q hj z)
end
end DL

set_option Elab.async false
set_option linter.all false
set_option maxRecDepth 100000
/-! EL1: sorted(..) of a tuple, by any order -/
namespace ELR
open PySem PySem.Spec PyProof.Rows L2 HT SrtO
section
variable {P : Program} {w : World} {A : Around} {X0 : Value → Shared → Prop} {s : Shared}
/-- the heap with the collected list behind it -/
abbrev gath (h : Heap) (us : List Value) : Heap := (h.push (seqObj "list" #[] 0)).update h.objs.size (Obj.mapSeq (· ++ us.toArray))
theorem gather_tup {t : Addr} {us : List Value} {R : List Value → Shared → Prop} (ht : IsTup s.heap t us.toArray) (many : us.length ≤ sizeLine) (q : R us { s with heap := gath s.heap us }) :
    wpAny (model P w) A (collect (.ref t)) R X0 s := by
  obtain ⟨o, e1, e2, n, e3⟩ := id ht
  have there : (s.heap.push (seqObj "list" #[] 0)).get? t = some o := Heap.get?_push_of_some _ e1
  have fresh : (s.heap.push (seqObj "list" #[] 0)).get? s.heap.objs.size = some (seqObj "list" #[] 0) := Heap.get?_push_size _ rfl
  have last : wpAny (model P w) A (do
      let o ← load s.heap.objs.size
      match o.data with
      | .seq xs _ => pure xs.toList
      | _ => unsupported "internal:collect") R X0 { s with heap := gath s.heap us } := by
    refine wpAny_bind (wpAny_load (get?_update_seq fresh _) ?_)
    show wpAny _ _ (pure ((#[] : Array Value) ++ us.toArray).toList) _ _ _
    have e : ((#[] : Array Value) ++ us.toArray).toList = us := by simp
    rw [e]
    exact wpAny_pure q
  have ext : ∀ (A' : Around) (T : PySem.Fin → Shared → Prop), T (.done (.ret (.ref s.heap.objs.size))) { s with heap := gath s.heap us } → wpAny (model P w) A' (Builtin.List.listExtendWith (.ref s.heap.objs.size) (.ref t) (.ref s.heap.objs.size)) T X0 { s with heap := s.heap.push (seqObj "list" #[] 0) } := fun A' T hT => by
    unfold Builtin.List.listExtendWith
    refine wpAny_bind (wpAny_typeOf (T := "tuple") ⟨o, there, e2⟩ ?_)
    rw [if_pos (by rw [show (Value.type "tuple" == Value.type "tuple") = true by rfl]; simp)]
    refine wpAny_bind (listItems_at there e3 (wpAny_bind (listItems_at (xs := #[]) (n := 0) fresh rfl ?_)))
    rw [if_neg (by simp)]
    refine wpAny_bind (listUpdate_at (xs := #[]) (n := 0) fresh rfl (wpAny_pure hT) (Nat.zero_le _) ?_)
    show (#[] ++ us.toArray).size ≤ sizeLine + 1
    simp only [Array.size_append, List.size_toArray, List.length_nil]
    omega
  unfold collect
  refine wpAny_bind (wpAny_runValue (codeAny_builtin entry_proto_collect' ?_))
  show wpAny _ _ (do again (.builtin "list.__iadd__" ⟨[← newList [], .ref t], []⟩)) _ _ s
  refine wpAny_bind (wpAny_newList (wpAny_pure ?_))
  refine ⟨Code.quiet_builtin _ (by decide +kernel), codeAny_builtin entry_list_iadd' (ext _ _ ?_)⟩
  exact last
theorem list_made {t : Addr} {us : List Value} {ltv : Value → Value → Bool} {R : Value → Shared → Prop} (O : Swo ltv) (ht : IsTup s.heap t us.toArray) (many : us.length ≤ sizeLine)
    (cmp : 2 ≤ us.length → ∀ (h₁ : Heap) (a : Addr), h₁.get? a = some (seqObj "list" us.toArray 0) → (∀ b o, s.heap.get? b = some o → b ≠ a ∧ h₁.get? b = some o) → SortableO P w A.in1.in1 { s with heap := h₁ } a us ltv)
    (q : ∀ out : List Value, Srtd ltv out → Stb ltv out us → R (.ref (s.heap.objs.size + 1)) { s with heap := sortedAll s.heap us out.toArray }) : wpAny (model P w) A (call (.builtin "sorted") [.ref t]) R X0 s := by
  have size1 : (gath s.heap us).objs.size = s.heap.objs.size + 1 := by rw [Heap.size_update, size_push']
  have at1 : ((gath s.heap us).push (seqObj "list" us.toArray 0)).get? (s.heap.objs.size + 1) = some (seqObj "list" us.toArray 0) := by
    rw [← size1]; exact Heap.get?_push_size _ rfl
  have old : ∀ b o, s.heap.get? b = some o → b ≠ s.heap.objs.size + 1 ∧ ((gath s.heap us).push (seqObj "list" us.toArray 0)).get? b = some o := fun b o e => by
    have lt := Heap.lt_size e
    refine ⟨Nat.ne_of_lt (Nat.lt_succ_of_lt lt), Heap.get?_push_of_some _ ?_⟩
    rw [Heap.get?_update_ne _ _ _ _ (Nat.ne_of_lt lt)]
    exact Heap.get?_push_of_some _ e
  refine Calls.call_function_entry kind_sorted plain_sorted entry_sorted (args_sorted1 _) ?_
  unfold Builtin.«sorted»
  refine wpAny_bind (m := checkCount "sorted" 1 1 _) (wpAny_pure (wpAny_bind (gather_tup ht many (wpAny_bind (wpAny_newList ?_ many)))))
  show wpAny _ _ _ _ _ { s with heap := (gath s.heap us).push (seqObj "list" us.toArray 0) }
  rw [size1]
  have isl : Shared.TypeIs { s with heap := (gath s.heap us).push (seqObj "list" us.toArray 0) } (.ref (s.heap.objs.size + 1)) "list" := ⟨_, at1, rfl⟩
  have sorts := wpAny_call_entry (prog := P) (w := w) (E := X0) slot_list_sort isl entry_list_sort (list_sort_ord (prog := P) (w := w) (A := A.in1.in1) (E := X0) (s := { s with heap := (gath s.heap us).push (seqObj "list" us.toArray 0) }) O at1 many (fun h2 => cmp h2 _ _ at1 old) (R := fun f s' => ∃ v, f = .done (.ret v) ∧ ∃ out, Srtd ltv out ∧ Stb ltv out us ∧ s' = { s with heap := sortedAll s.heap us out.toArray }) fun out h1 h2 => ⟨_, rfl, out, h1, h2, rfl⟩) (args_list_sort _)
  refine wpAny_bind (wpAny_holding (wpAny_mono sorts (fun v s' z => ?_) fun _ _ z => z))
  obtain ⟨out, h1, h2, rfl⟩ := z
  exact wpAny_pure ⟨_, rfl, q out h1 h2⟩
end
end ELR

set_option Elab.async false
set_option linter.all false
set_option maxRecDepth 100000
/-! EL2: instances of own classes: made by a call, whose __init__ is a def over data -/
namespace DL
open PySem PySem.Spec PyProof.Rows L2 TL
/-- all but one object -/
def hid (H : Hp) (x : Addr) : Hp := fun a => if a = x then none else H a
theorem hid_self {H : Hp} {x : Addr} : hid H x x = none := if_pos rfl
theorem hid_ne {H : Hp} {x a : Addr} (h : a ≠ x) : hid H x a = H a := if_neg h
theorem hid_some {H : Hp} {x a : Addr} {o : HO} (h : hid H x a = some o) : a ≠ x ∧ H a = some o := by
  unfold hid at h
  split at h
  · cases h
  · rename_i n
    exact ⟨n, h⟩
/-- what an __init__ promises: of its arguments' data it makes the fields -/
abbrev ISp (m : Mem) := List D → m.S → (List Str → List D → m.S → Prop) → Prop
def liftI (K : PySem.W.Frag) (m : Mem) (C : Addr) (n : Nat) (sp : ISp m) : Sp := fun vs H Q _ => vs.length = n + 1 ∧ ∃ (x dx : Addr) (ws : List V) (F : Hp) (ds : List D) (s : m.S) (Qd : List Str → List D → m.S → Prop), vs = .ref x :: ws ∧ H x = some (.ins C dx []) ∧ Same F (hid H x) ∧ m.M s H ∧ (∀ a, m.R s a → F a = none) ∧ ¬ m.R s x ∧ Reps K F ds ws ∧ sp ds s Qd ∧
  ∀ ns es s' (fs : List (Str × V)) F' H', Qd ns es s' → CStp m F (hid H x) s F' H' s' → H' x = some (.ins C dx fs) → fs.map (·.1) = ns → Reps K F' es (fs.map (·.2)) → F' x = none → ¬ m.R s' x → Q .non H'
section
variable {P : Program} {w : World} {K : PySem.W.Frag} {mg : Str → Option Value} {base : Heap} {m : Mem}
/-- what an __init__'s body is to reach -/
abbrev endsI {m : Mem} (x dx C : Addr) (Qd : List Str → List D → m.S → Prop) : DEnds m := { nx := fun ρ' s' => ∃ ns es, ρ'[0]? = some (.ow (.ins x dx C ns es)) ∧ Qd ns es s', rt := fun _ _ => False }
/-- THE RULE for an __init__, over data -/
theorem dfnI {qual : Str} {st : Stmt} {f C : Addr} {fd : FuncData} {N ps : List Str} {k n : Nat} {sp : ISp m} {nm : Str} (F : Fun K nm qual st f fd) (S : FnScope N ps (defScope st)) (hn : n + 1 = ps.length)
    (hb : ∀ (cdv : Value) (A : Around) (outer : List Env) (s : Shared) (H : Hp) (E : XK) (En : Ent m), RoomG k (A.deeper (envOfC qual (defScope st) s.heap.objs.size f cdv)) →
      ∃ t, PSs (cxOf CX0 P w K mg base N qual (defScope st) f cdv A outer s H E).nox (defBody st) (upS K m En t) ∧ ∀ ds s Qd (x dx : Addr), sp ds s Qd → t (endsI x dx C Qd) ((startD N (.any (.ref x) :: ds)).set 0 (.ow (.ins x dx C [] []))) s) : FnG P w K mg base CX0 (k + 1) f fd ps (liftI K m C n sp) := by
  refine Fun.okG F S (fun vs H Q E h => h.1.trans hn) (fun cdv A outer s H vs Q E hr h => ?_)
  obtain ⟨hl, x, dx, ws, F0, ds, s0, Qd, rfl, hx, sub, hm, hreg, nR, rs, hsp, hQ⟩ := h
  obtain ⟨t, ht, hq⟩ := hb cdv A outer s H E ⟨F0, hid H x, s0, fun _ _ _ _ => False⟩ hr
  have sub' : Same F0 H := fun b o e => (hid_some (sub b o e)).2
  have nF : F0 x = none := by
    cases q : F0 x with
    | none => rfl
    | some o => exact absurd rfl (hid_some (sub x o q)).1
  have r0 : Rel K m F0 H (L2.start N (.ref x :: ws)) (startD N (.any (.ref x) :: ds)) s0 := rel_start sub' hm hreg (.cons rfl rs)
  have no : ∀ (i : Nat) o, (startD N (.any (.ref x) :: ds))[i]? ≠ some (Sl.ow o) := fun i o e => by
    unfold startD at e
    by_cases hi : i < (D.any (.ref x) :: ds).length
    · rw [List.getElem?_append_left (by simpa using hi), List.getElem?_map, List.getElem?_eq_getElem hi] at e; cases e
    · rw [List.getElem?_append_right (by simpa using hi), List.getElem?_replicate] at e
      split at e <;> cases e
  have o0 : Own m ⟨F0, hid H x, s0, fun _ _ _ _ => False⟩ F0 H (L2.start N (.ref x :: ws)) (startD N (.any (.ref x) :: ds)) s0 := ⟨Same.refl _, fun a o e _ => (hid_some e).2, fun a e => by
    by_cases z : a = x
    · rw [z, hx]; simp
    · have e : hid H x a ≠ none := e
      rw [hid_ne z] at e; exact e, fun _ _ h => .inl h, fun _ h => .inl h, fun i p ⟨⟨o, e⟩, _⟩ => absurd e (no i o)⟩
  obtain ⟨r1, o1⟩ := put_hid r0 o0 0 (ob := .ins x dx C [] []) hx nF nR (fun i ⟨⟨o, e⟩, _⟩ => absurd e (no i o)) hid_self ⟨rfl, [], rfl, rfl, .nil⟩
  have same : (L2.start N (.ref x :: ws)).set 0 (some (.ref x)) = L2.start N (.ref x :: ws) := by
    unfold L2.start
    rw [List.map_cons]; rfl
  rw [same] at r1 o1
  refine ⟨_, ht.nox, F0, _, s0, _, r1, o1, hq ds s0 Qd x dx hsp, ?_⟩
  refine ⟨fun F' H' σ ρ s _ r o q => ?_, fun _ _ _ _ _ _ _ _ _ _ _ q => q.elim, fun _ _ _ _ _ _ _ _ q => q.elim, fun _ _ _ _ _ _ _ _ q => q.elim, fun _ _ _ _ _ _ _ _ _ _ _ _ _ _ _ _ _ _ _ _ q => q.elim⟩
  obtain ⟨ns, es, e0, q⟩ := q
  obtain ⟨p, ho, h1, h2, ⟨rfl, fs, rfl, h3, h4⟩, h5, h6⟩ := r.own_at e0
  exact hQ ns es s fs F' H' q ⟨o.ext, o.keep, o.alive, o.fresh, o.regf, r.sub, r.mem, r.reg⟩ h2 h3 h4 h5 h6
end
section
variable {X : Cx} {m : Mem} {E : Ent m} {e : Expr} {es : List Expr} {t : TA} {u : DTA m} {x : Str} {p pos : Pos} {C f : Addr} {k : Nat} {fd : FuncData} {ps : List Str} {sp : Sp}
/-- C(e, ..), by the promise of its __init__ -/
theorem pe_instG (M : Mk X.K C f) (G : FnG X.prog X.w X.K X.mg X.base CX0 k f fd ps sp) (hr : RoomG (k + 1) X.A) (hg : Gl X x) (hm : X.mg x = some (.ref C)) (hb : Binds X.K fd ps []) (ha : PA X (e :: es) t)
    (hdb : (x == ("__debug__" : Str)) = false := by decide) (he : starEach (e :: es) X.env = (false, eval e X.env) :: starEach es X.env := by rfl) (hpl : (backTo pos (starEach es X.env)).any (·.1) = false := by rfl) :
    PE X (.Call (.Name x p) (e :: es) [] pos) (tMake C sp [] E0 t) := by
  refine ⟨fun pins s σ H Q I h => wpAny_Call_Name_kw (ld_glob I hg hm (PySem.W.callWith_K (h₀ := X.base) I.ok.mod.kin M.kp (thn (ha.run pos pins s σ H _ I h) fun us s1 ⟨vs, H1, I1, rv, q⟩ => ⟨I1.kIn, ?_⟩) he hpl) hdb)⟩
  have hq := q (s1.heap.objs.size + 1) s1.heap.objs.size (I1.hok.fresh (Nat.le_succ _)) (I1.hok.fresh (Nat.le_refl _)) (Nat.ne_of_lt (Nat.lt_succ_self _))
  rw [List.append_nil] at hq
  have J := Inv.made (C := C) I1
  have rr : Vals (V.ref (s1.heap.objs.size + 1) :: vs) (Value.ref (s1.heap.objs.size + 1) :: us) := .cons rfl rv
  have many : ((Value.ref (s1.heap.objs.size + 1) :: us) ++ []).length = ps.length := by
    rw [List.append_nil, ← rr.length]
    exact G.len _ _ _ _ hq
  have bd := hb _ (Value.ref (s1.heap.objs.size + 1) :: us) J.kIn many
  rw [List.append_nil] at bd
  refine wpAny_call (make_map (f := f) I1.kIn M.makes M.init (beq_iff_eq.mp M.fn) (codeAny_mono (G.run _ X.stack _ _ ⟨Value.ref (s1.heap.objs.size + 1) :: us, []⟩ _ _ _ E0 (hr.make C us []) (J.env0.make C us []) bd rr hq) fun r s' z => ?_))
  rcases r with er | (_ | _ | _ | u)
  · exact z.elim
  · exact z.elim
  · exact z.elim
  · exact z.elim
  · obtain ⟨v, H', J', r', ev, q2⟩ := J.after z
    subst ev
    exact ⟨r', ⟨.ref (s1.heap.objs.size + 1), H', J', rfl, q2⟩⟩
def dMake {m : Mem} (C : Addr) (sp : ISp m) (t : DTA m) : DT m := fun ρ s Q => t ρ s fun ds ρ1 s1 => sp ds s1 fun ns es s' => Q (.ins C ns es) ρ1 s'
theorem up_make {K : PySem.W.Frag} {n : Nat} {sp : ISp m} {σ : L2.St} {H : Hp} {Q : VK} (hn : ∀ ds s Qd, sp ds s Qd → ds.length = n) (h : up K m (dMake C sp u) σ H Q) : tMake C (liftI K m C n sp) [] E0 (upA K m u) σ H Q := by
  obtain ⟨F, ρ, s, Qd, rl, ht, hQ⟩ := h
  refine ⟨F, ρ, s, _, rl, ht, fun ds ρ1 s1 vs F1 H1 q1 r1 st1 rs x dx nx ndx ne => ?_⟩
  rw [List.append_nil]
  obtain ⟨H2, e2⟩ : ∃ H2, H2 = upd (upd H1 dx (.own x)) x (.ins C dx []) := ⟨_, rfl⟩
  rw [← e2]
  have at_x : H2 x = some (.ins C dx []) := by rw [e2, upd_same]
  have at_o : ∀ a, a ≠ x → a ≠ dx → H2 a = H1 a := fun a h1 h2 => by rw [e2, upd_ne h1, upd_ne h2]
  have old : ∀ a o, H1 a = some o → a ≠ x ∧ a ≠ dx := fun a o e => ⟨fun z => by (rw [z, nx] at e; cases e), fun z => by (rw [z, ndx] at e; cases e)⟩
  have nR : ¬ m.R s1 x := fun z => m.there s1 H1 x r1.mem z nx
  have nF : F1 x = none := r1.sub.free nx
  have subh : Same F1 (hid H2 x) := fun b o e => by
    obtain ⟨z1, z2⟩ := old b o (r1.sub b o e)
    rw [hid_ne z1, at_o b z1 z2]; exact r1.sub b o e
  have mem2 : m.M s1 H2 := m.loc s1 H1 H2 r1.mem fun a ha => by
    have q := m.there s1 H1 a r1.mem ha
    cases e : H1 a with
    | none => exact absurd e q
    | some o =>
      obtain ⟨z1, z2⟩ := old a o e
      rw [at_o a z1 z2, e]
  refine ⟨by rw [List.length_cons, rs.length, hn _ _ _ q1], x, dx, vs, F1, ds, s1, _, rfl, at_x, subh, mem2, r1.reg, nR, rs, q1, fun ns es s' fs F' H' q2 c hx' hns hes nF' nR' => ⟨rfl, ?_⟩⟩
  have c1 : CStp m F1 H1 s1 F' H' s' := ⟨c.ext, fun a o e nr => by
      obtain ⟨z1, z2⟩ := old a o e
      exact c.keep a o (by rw [hid_ne z1, at_o a z1 z2]; exact e) nr, fun a h => by
      cases e : H1 a with
      | none => exact absurd e h
      | some o =>
        obtain ⟨z1, z2⟩ := old a o e
        exact c.alive a (by rw [hid_ne z1, at_o a z1 z2, e]; simp), fun a o e => by
      rcases c.fresh a o e with z | z
      · exact .inl z
      · refine .inr ?_
        by_cases z1 : a = x
        · rw [z1]; exact nx
        · rw [hid_ne z1] at z
          by_cases z2 : a = dx
          · rw [z2]; exact ndx
          · rw [at_o a z1 z2] at z; exact z, fun a h => by
      rcases c.regf a h with z | z
      · exact .inl z
      · refine .inr ?_
        by_cases z1 : a = x
        · rw [z1]; exact nx
        · rw [hid_ne z1] at z
          by_cases z2 : a = dx
          · rw [z2]; exact ndx
          · rw [at_o a z1 z2] at z; exact z, c.sub, c.mem, c.reg⟩
  have r2 := r1.call c1
  have nO : ∀ i, ¬ Owns σ ρ1 i x := fun i ⟨⟨o, e⟩, hσ⟩ => by
    obtain ⟨q, ho', h1, h2, _⟩ := r1.own_at e
    rw [hσ] at h1; cases h1
    rw [nx] at h2; cases h2
  have sm : Same F' (upd F' x (.ins C dx fs)) := same_upd nF'
  have st2 := st1.trans (c1.stp (σ := σ) (ρ := ρ1))
  refine hQ _ ρ1 s' _ (upd F' x (.ins C dx fs)) H' q2 (r2.adopt hx' nF' nR' nO) ⟨st2.ext.trans sm, st2.keep, st2.alive, fun a o e => ?_, st2.regf, st2.shr⟩ ⟨x, dx, fs, rfl, upd_same, hns, Reps.mono sm _ _ hes⟩
  by_cases z : a = x
  · subst z
    refine .inr (.inl ?_)
    cases q : H a with
    | none => rfl
    | some o => exact absurd nx (st1.alive a (by rw [q]; simp))
  · rw [upd_ne z] at e; exact st2.fresh a o e
theorem de_make {n : Nat} {sp : ISp m} (M : Mk X.K C f) (G : FnG X.prog X.w X.K X.mg X.base CX0 k f fd ps (liftI X.K m C n sp)) (hn : ∀ ds s Qd, sp ds s Qd → ds.length = n) (hr : RoomG (k + 1) X.A) (hg : Gl X x) (hm : X.mg x = some (.ref C)) (hb : Binds X.K fd ps []) (ha : PA X (e :: es) (upA X.K m u))
    (hdb : (x == ("__debug__" : Str)) = false := by decide) (he : starEach (e :: es) X.env = (false, eval e X.env) :: starEach es X.env := by rfl) (hpl : (backTo pos (starEach es X.env)).any (·.1) = false := by rfl) :
    PE X (.Call (.Name x p) (e :: es) [] pos) (up X.K m (dMake C sp u)) := PE.imp (pe_instG M G hr hg hm hb ha hdb he hpl) fun _ _ _ h => up_make hn h
end
end DL

set_option Elab.async false
set_option linter.all false
set_option maxRecDepth 100000
/-! EL3: fields stored in an __init__; empty sets; sorted of what is empty; isinstance of own instances -/
namespace DL
open PySem PySem.Spec PyProof.Rows L2 TL
theorem putF_new {f : Str} {v : V} : ∀ {fs : List (Str × V)}, f ∉ fs.map (·.1) → putF f v fs = fs ++ [(f, v)]
  | [], _ => rfl
  | (g, x) :: r, h => by
    have h1 : g ≠ f := fun e => h (by rw [e]; simp)
    have h2 : f ∉ r.map (·.1) := fun e => h (by rw [List.map_cons]; exact List.mem_cons_of_mem _ e)
    show (if g = f then (g, v) :: r else (g, x) :: putF f v r) = _
    rw [if_neg h1, putF_new h2]
    rfl
section
variable {X : Cx} {m : Mem} {E : Ent m} {e : Expr} {te : DT m} {pos : Pos}
/-- self.f = e, a field that is not there yet -/
def dFst {m : Mem} (C : Addr) (i : Nat) (f : Str) (te : DT m) : DTS m := fun dd ρ s => te ρ s fun d ρ1 s1 => ∃ x dx ns ds, ρ1[i]? = some (.ow (.ins x dx C ns ds)) ∧ f ∉ ns ∧ ns.length < 900 ∧ dd.nx (ρ1.set i (.ow (.ins x dx C (ns ++ [f]) (ds ++ [d])))) s1
theorem ds_fst (i : Nat) {y f : Str} {C : Addr} {xpos p' : Pos} (cl : Cls X.K C) (na : NoAttr X.K C f) (he : PE X e (up X.K m te)) (hN : X.N[i]? = some y := by rfl) (hv : Vis X.env.scope y := by first | exact Or.inl rfl | exact Or.inr (Or.inl rfl) | exact Or.inr (Or.inr rfl))
    (hd : (y == ("__debug__" : Str)) = false := by decide) (hcd : (y == ("__classdict__" : Str)) = false := by decide) (hs : swapsWith e (some (.Attribute (.Name y xpos) f p')) pos.line X.env = pure false := by rfl) :
    PS X (.Assign [.Attribute (.Name y xpos) f p'] e pos) (upS X.K m E (dFst C i f te)) :=
  PS.imp (ps_fld (pv i hN hv hd hcd) he hs) fun DD σ H h => by
    obtain ⟨F, ρ, s, dd, r, o, ht, ft⟩ := h
    refine ⟨F, ρ, s, _, r, ht, fun d ρ1 s1 v F1 H1 ⟨x, dx, ns, ds, e1, hn, hl, q1⟩ r1 st1 rv => ?_⟩
    obtain ⟨p, ho, h1, h2, ⟨rfl, fs, rfl, h3, h4⟩, h5, h6⟩ := r1.own_at e1
    have hl2 : fs.length < 900 := by rw [← h3, List.length_map] at hl; exact hl
    refine ⟨.ref p, h1, p, C, dx, fs, rfl, h2, cl, na, by omega, ?_⟩
    rw [putF_new (by rw [h3]; exact hn)]
    exact ft.nx F1 _ σ _ s1 st1.ext (r1.write (o' := .ins p dx C (ns ++ [f]) (ds ++ [d])) e1 h1 ⟨rfl, _, rfl, by rw [List.map_append, h3]; rfl, by rw [List.map_append]; exact h4.append (.one rv)⟩) ((o.stp st1).write (K := X.K) e1 h1) q1
/-! ### sets that stay empty -/
/-! ### sorted(()) -/
/-! ### isinstance of instances of own classes -/
structure InsK (K : PySem.W.Frag) (C : Addr) : Prop where
  cl : Cls K C
  ha : PySem.W.findIn K (.ref C) "__class__" = some (some (.builtin "object.__class__"))
  hn : PySem.W.specialIn K (.builtin "object.__class__") "__get__" = some (some (.builtin "getset_descriptor.__get__"))
  ht : PySem.W.takesIn K (.builtin "object.__class__") = some true
  hm : PySem.W.mroIn K C (.type "object") = some true
  no : PySem.W.kitOne K (.ref C) (.type "tuple") = some false
end
end DL

set_option Elab.async false
set_option linter.all false
set_option maxRecDepth 100000
/-! EL4: lists of texts that lie in a list and are changed there; a popped item appended; two own lists at once -/
namespace DL
open PySem PySem.Spec PyProof.Rows L2 TL
/-- beside the state of m: lists of texts that may be changed, wherever they are named -/
def Mem.hot (m : Mem) : Mem where
  S := m.S × List (Addr × List Str)
  M := fun s H => m.M s.1 H ∧ (s.2.map Prod.fst).Nodup ∧ ∀ p ∈ s.2, H p.1 = some (.lst (p.2.map V.str)) ∧ p.2.length ≤ sizeLine ∧ (∀ x ∈ p.2, sOk x = true) ∧ ¬ m.R s.1 p.1
  R := fun s a => m.R s.1 a ∨ ∃ p ∈ s.2, p.1 = a
  loc := fun s H H' h k => ⟨m.loc s.1 H H' h.1 fun a ha => k a (.inl ha), h.2.1, fun p hp => by
    obtain ⟨h1, h2⟩ := h.2.2 p hp
    exact ⟨(k p.1 (.inr ⟨p, hp, rfl⟩)).trans h1, h2⟩⟩
  there := fun s H a h ha => by
    rcases ha with ha | ⟨p, hp, rfl⟩
    · exact m.there s.1 H a h.1 ha
    · rw [(h.2.2 p hp).1]; simp
section
variable {K : PySem.W.Frag} {m : Mem} {F H : Hp} {σ : L2.St} {ρ : List Sl} {s : m.S} {L : List (Addr × List Str)} {q : Addr} {xs ys : List Str} {E : Ent (Mem.hot m)}
end
section
variable {X : Cx} {m : Mem} {E : Ent (Mem.hot m)} {e b : Expr} {te tb : DT (Mem.hot m)} {pos : Pos}
end
section
variable {X : Cx} {m : Mem} {E : Ent m} {e : Expr} {te : DT m} {pos : Pos}
end
end DL

set_option Elab.async false
set_option linter.all false
set_option maxRecDepth 100000
/-! EL5: tuple(x) of a list of texts beside; x, y = list(e), [] -/
namespace DL
open PySem PySem.Spec PyProof.Rows L2 TL
section
variable {X : Cx} {m : Mem} {pos : Pos}
end
section
variable {X : Cx} {m : Mem} {E : Ent m} {pos : Pos}
theorem seq_at {K : PySem.W.Frag} {F H : Hp} {d : D} {xs : List D} {v : V} (sub : Same F H) (rv : Rep K F d v) (e : seqD d = some xs) : ∃ a ws, v = .ref a ∧ (SqL K H a ws ∨ SqT K H a ws) ∧ ws.length ≤ sizeLine ∧ Reps K F xs ws := by
  cases d with
  | lst ys => cases e; obtain ⟨a, ws, rfl, h1, hl, r⟩ := rv; exact ⟨a, ws, rfl, .inl (.inl (.inl (sub _ _ h1))), hl, r⟩
  | tup ys => cases e; obtain ⟨a, ws, rfl, h1, hl, r⟩ := rv; exact ⟨a, ws, rfl, .inr (Same.seqT sub h1), hl, r⟩
  | fz ys => cases e; obtain ⟨a, ws, rfl, h1, hl, r⟩ := rv; exact ⟨a, ws, rfl, .inl (Same.seq sub h1), hl, r⟩
  | _ => cases e
end
end DL
namespace DL
open PySem PySem.Spec PyProof.Rows L2 TL
end DL

set_option Elab.async false
set_option linter.all false
set_option maxRecDepth 100000
/-! EL6: behind a test, or a value that holds no object, what a slot owned is its own again -/
namespace DL
open PySem PySem.Spec PyProof.Rows L2 TL
section
variable {K : PySem.W.Frag} {m : Mem} {F H F' H' : Hp} {σ : L2.St} {ρ ρ' : List Sl} {s s' : m.S}
theorem Rel.back (r : Rel K m F H σ ρ s) (r' : Rel K m F' H' σ ρ' s') (st : Stp m F H σ ρ s F' H' ρ' s') : Rel K m F H' σ ρ s' ∧ Stp m F H σ ρ s F H' ρ s' := by
  have keep : ∀ (i : Nat) o p ho, ρ[i]? = some (Sl.ow o) → σ[i]? = some (some (V.ref p)) → H p = some ho → H' p = some ho := fun i o p ho e h1 h2 => st.keep p ho h2 (r.owF i p ⟨⟨o, e⟩, h1⟩).2
  refine ⟨⟨fun b x e => r'.sub _ _ (st.ext _ _ e), r'.mem, fun a ha => ?_, r.len, r.sh, fun i o e => ?_, fun i p hp => ⟨(r.owF i p hp).1, fun z => ?_⟩, r.uq⟩, ⟨Same.refl F, st.keep, st.alive, fun a o h => .inl h, st.regf, fun _ _ h => h⟩⟩
  · cases q : F a with
    | none => rfl
    | some u =>
      have := r'.reg a ha
      rw [st.ext _ _ q] at this
      cases this
  · obtain ⟨p, ho, h1, h2, h3⟩ := r.ow i o e
    exact ⟨p, ho, h1, keep i o p ho e h1 h2, h3⟩
  · rcases st.regf p z with z | z
    · exact (r.owF i p hp).2 z
    · obtain ⟨⟨o, e⟩, hσ⟩ := hp
      obtain ⟨p', ho, h1, h2, h3⟩ := r.ow i o e
      rw [hσ] at h1; cases h1
      rw [z] at h2; cases h2
end
section
variable {X : Cx} {m : Mem} {e : Expr} {t : DTT m} {te : DT m}
def dBackT {m : Mem} (t : DTT m) : DTT m := fun ρ s Q => t ρ s fun b _ s1 => Q b ρ s1
theorem dt_back (h : PT X e (upT X.K m t)) : PT X e (upT X.K m (dBackT t)) := PT.imp h fun σ H Q h => by
  obtain ⟨F, ρ, s, Qd, r, ht, hQ⟩ := h
  exact ⟨F, ρ, s, _, r, ht, fun b ρ1 s1 F1 H1 q1 r1 st1 => by
    obtain ⟨r2, st2⟩ := r.back r1 st1
    exact hQ b ρ s1 F H1 q1 r2 st2⟩
end
end DL

set_option Elab.async false
set_option linter.all false
set_option maxRecDepth 100000
/-! EL7: fields and properties of instances that are data -/
namespace DL
open PySem PySem.Spec PyProof.Rows L2 TL
theorem fld_rep {K : PySem.W.Frag} {F : Hp} {f : Str} {d : D} : ∀ {fs : List (Str × V)} {ds : List D}, Reps K F ds (fs.map (·.2)) → ((fs.map (·.1)).zip ds).lookup f = some d → ∃ v, fs.lookup f = some v ∧ Rep K F d v
  | [], ds, h, e => by cases e
  | (g, x) :: fs, [], h, e => by cases e
  | (g, x) :: fs, y :: ds, ⟨v, r, e1, h1, h2⟩, e => by
    rw [List.map_cons] at e1
    injection e1 with e1 e2
    subst e1 e2
    rw [List.map_cons, List.zip_cons_cons, List.lookup_cons] at e
    rw [List.lookup_cons]
    cases q : f == g with
    | true => rw [q] at e; cases e; exact ⟨x, rfl, h1⟩
    | false => rw [q] at e; exact fld_rep h2 e
section
variable {X : Cx} {m : Mem} {e : Expr} {te : DT m} {pos : Pos}
/-- e.f, a field of an instance of C -/
def dFld {m : Mem} (C : Addr) (f : Str) (te : DT m) : DT m := fun ρ s Q => te ρ s fun x ρ1 s1 => ∃ ns ds d, x = .ins C ns ds ∧ (ns.zip ds).lookup f = some d ∧ Q d ρ1 s1
theorem de_fld {C : Addr} {f : Str} (cl : Cls X.K C) (na : NoAttr X.K C f) (he : PE X e (up X.K m te)) (hb : attributeBase e f X.env (eval e X.env) = eval e X.env := by rfl) : PE X (.Attribute e f pos) (up X.K m (dFld C f te)) :=
  PE.imp (pe_fld he hb) fun σ H Q h => by
    obtain ⟨F, ρ, s, Qd, r, ht, hQ⟩ := h
    refine ⟨F, ρ, s, _, r, ht, fun x ρ1 s1 v F1 H1 ⟨ns, ds, d, ex, el, q1⟩ r1 st1 rv => ?_⟩
    subst ex
    obtain ⟨a, dx, fs, rfl, h1, h2, h3⟩ := rv
    subst h2
    obtain ⟨w, hl, rw'⟩ := fld_rep h3 el
    exact ⟨a, C, dx, fs, w, rfl, r1.sub _ _ h1, cl, na, hl, hQ d ρ1 s1 w F1 H1 q1 r1 st1 rw'⟩
/-- a property read: its getter is called at the object -/
theorem pe_propG {C p g : Addr} {k : Nat} {f : Str} {fd : FuncData} {ps : List Str} {sp : Sp} {ta : TE} (he : PE X e ta) (c : Cls X.K C) (hp : PropOf X.K C f p g) (G : FnG X.prog X.w X.K X.mg X.base CX0 k g fd ps sp) (hr : RoomG (k + 1) X.A) (hb : Binds X.K fd ps [])
    (hab : attributeBase e f X.env (eval e X.env) = eval e X.env) : PE X (.Attribute e f pos) (tProp C sp [] E0 ta) := by
  refine ⟨fun pins s σ H Q I h => ?_⟩
  refine attr_of hab (thn (he.run pins s σ H _ I h) fun u s1 ⟨x, H1, I1, rx, a, dx, fs, ex, ea, q⟩ => ?_)
  subst ex
  obtain rfl : u = Value.ref a := rx
  obtain ⟨_, O, _⟩ := ins_get I1.hok ea
  obtain ⟨od, J, _⟩ := O.look
  obtain ⟨rest, hrec⟩ := hp.rec_
  have I2 := I1.tok (s1.toks + 1)
  have hl : ([Value.ref a] : List Value).length = ps.length := (G.len _ _ _ _ q).symm ▸ rfl
  have bd := hb _ [Value.ref a] I2.kIn hl
  have hc : (PySem.W.clsIn X.K C).isSome = true := by
    obtain ⟨cd, hc, _⟩ := PySem.W.any_some c.hd
    rw [hc]; rfl
  have pl := PySem.W.plainGet_of (c.get f)
  refine PySem.W.get_bind I1.kIn J pl.1 (PySem.W.findObj_data hc hp.at_ hp.get hp.tak) pl.2 (wpAny_call (PySem.W.prop_get (s := { s1 with toks := s1.toks + 1 }) I1.kIn hrec ?_))
  refine codeAny_mono (G.run X.A.in1 X.stack { s1 with toks := s1.toks + 1 } H1 ⟨[.ref a], []⟩ [.ref a] [.ref a] Q E0 hr.in1 I2.env0.in1 bd (.cons rfl .nil) q) fun r s' z => ?_
  rcases r with er | (_ | _ | _ | u)
  · exact z.elim
  · exact z.elim
  · exact z.elim
  · exact z.elim
  · obtain ⟨v, H', I3, rv, q3⟩ := I2.after z
    show wpAny _ _ (handedOut u) _ _ _
    rw [PySem.W.handedOut_of (handed_of rv)]
    exact wpAny_pure ⟨v, H', I3, rv, q3⟩
def dProp {m : Mem} (C : Addr) (sp : DSp m) (te : DT m) : DT m := fun ρ s Q => te ρ s fun x ρ1 s1 => (∃ ns ds, x = .ins C ns ds) ∧ sp [x] s1 fun d s' => Q d ρ1 s'
theorem de_prop {C p g : Addr} {k : Nat} {f : Str} {fd : FuncData} {ps : List Str} {sp : DSp m} (c : Cls X.K C) (hp : PropOf X.K C f p g) (G : FnG X.prog X.w X.K X.mg X.base CX0 k g fd ps (lift X.K m 1 sp)) (hr : RoomG (k + 1) X.A) (hb : Binds X.K fd ps []) (he : PE X e (up X.K m te))
    (hab : attributeBase e f X.env (eval e X.env) = eval e X.env := by rfl) : PE X (.Attribute e f pos) (up X.K m (dProp C sp te)) :=
  PE.imp (pe_propG he c hp G hr hb hab) fun σ H Q h => by
    obtain ⟨F, ρ, s, Qd, r, ht, hQ⟩ := h
    refine ⟨F, ρ, s, _, r, ht, fun x ρ1 s1 v F1 H1 ⟨⟨ns, ds, ex⟩, q1⟩ r1 st1 rv => ?_⟩
    subst ex
    have rv' := rv
    obtain ⟨a, dx, fs, rfl, h1, h2, h3⟩ := rv
    refine ⟨a, dx, fs, rfl, r1.sub _ _ h1, rfl, F1, [.ins C ns ds], s1, _, r1.sub, r1.mem, r1.reg, .one rv', q1, fun d s' w F2 H2 q2 c2 rw' => hQ d ρ1 s' w F2 H2 q2 (r1.call c2) (st1.trans c2.stp) rw'⟩
end
end DL

set_option Elab.async false
set_option linter.all false
set_option maxRecDepth 100000
/-! EL8: own operators and own comparisons of instances of one class, over data -/
namespace DL
open PySem PySem.Spec PyProof.Rows L2 TL
section
variable {X : Cx} {k : Nat} {C f : Addr} {fd : FuncData} {ps : List Str} {sp : Sp}
end
end DL
namespace DL
open PySem PySem.Spec PyProof.Rows L2 TL
section
variable {X : Cx} {m : Mem} {k : Nat} {C f : Addr} {fd : FuncData} {ps : List Str} {sp : DSp m} {a b : Expr} {ta tb : DT m} {pos : Pos}
end
end DL
namespace DL
open PySem PySem.Spec PyProof.Rows L2 TL
section
variable {X : Cx} {m : Mem} {k : Nat} {C f : Addr} {fd : FuncData} {ps : List Str} {sp : DSp m} {a b : Expr} {ta tb : DT m} {pos : Pos}
end
end DL

set_option Elab.async false
set_option linter.all false
set_option maxRecDepth 100000
/-! EL9: (*a, *b), f'..' over data -/
namespace DL
open PySem PySem.Spec PyProof.Rows L2 TL
section
variable {X : Cx} {m : Mem} {e : Expr} {es : List Expr} {te : DT m} {u : DTA m} {pos p : Pos}
end
end DL

set_option Elab.async false
set_option linter.all false
set_option maxRecDepth 100000
/-! EL10: an instance with an own ==, compared with data of a built-in type or with one of its class -/
namespace DL
open PySem PySem.Spec PyProof.Rows L2 TL
section
variable {X : Cx} {k : Nat} {C f : Addr} {fd : FuncData} {ps : List Str} {sp : Sp}
end
section
variable {X : Cx} {m : Mem} {k : Nat} {C f : Addr} {fd : FuncData} {ps : List Str} {sp : DSp m} {a b : Expr} {ta tb : DT m} {pos : Pos}
/-- no built-in type stands above the class -/
def NoFirst (K : PySem.W.Frag) (C : Addr) : Prop := ∀ t : Tg, PySem.W.notFirst K C (.type (tgS t)) = true
end
end DL

set_option Elab.async false
set_option linter.all false
set_option maxRecDepth 100000
/-! EL11: len(x) and v in x, x an instance whose class has them as defs -/
namespace DL
open PySem PySem.Spec PyProof.Rows L2 TL
def rOwnIn (C : Addr) (sp : Sp) : R2 := fun x y H Q => ∃ a dx fs, y = V.ref a ∧ H a = some (.ins C dx fs) ∧ sp [.ref a, x] H (fun v H' => ∃ b, v = .bl b ∧ Q (.bl b) H') E0
section
variable {X : Cx} {k : Nat} {C f : Addr} {fd : FuncData} {ps : List Str} {sp : Sp}
theorem op_ownIn (G : FnG X.prog X.w X.K X.mg X.base CX0 k f fd ps sp) (hr : RoomG k X.A) (hb : Binds X.K fd ps []) (hs : PySem.W.findIn X.K (.ref C) "__contains__" = some (some (.ref f))) (hf : PySem.W.isFn X.K (.ref f) = true) : OpR X (compareOp .In) (rOwnIn C sp) := by
  intro pins s σ H x y v u Q I rx ry h
  obtain ⟨a, dx, fs, rfl, ha, q⟩ := h
  cases ry
  obtain ⟨mA, J, _⟩ := ins_get I.hok ha
  obtain ⟨od, J, _⟩ := J.look
  obtain ⟨m, hF⟩ := I.fr
  refine PySem.W.in_K hF I.ok.mod.kin J hs hf ?_
  have hl : ([Value.ref a, v] : List Value).length = ps.length := (G.len _ _ _ _ q).symm ▸ rfl
  have bd := hb s [.ref a, v] I.kIn hl
  refine wpAny_call (codeAny_mono (G.run X.A X.stack s H ⟨[.ref a, v], []⟩ [.ref a, v] [.ref a, x] _ E0 hr I.env0 bd (.cons rfl (.cons rx .nil)) q) fun r s' z => ?_)
  rcases r with er | (_ | _ | _ | u')
  · exact z.elim
  · exact z.elim
  · exact z.elim
  · exact z.elim
  · obtain ⟨v, H', I', rv, b, rfl, q2⟩ := I.after z
    cases rv
    exact wpAny_pure ⟨.bl b, H', I', rfl, q2⟩
end
section
variable {X : Cx} {m : Mem} {k : Nat} {C f : Addr} {fd : FuncData} {ps : List Str} {sp : DSp m} {a b e : Expr} {ta tb te : DT m} {pos p : Pos}
def dOwnIn {m : Mem} (C : Addr) (sp : DSp m) (ta tb : DT m) : DT m := fun ρ s Q => ta ρ s fun x ρ1 s1 => tb ρ1 s1 fun y ρ2 s2 => (∃ ns ds, y = .ins C ns ds) ∧ sp [y, x] s2 fun d s' => ∃ b, d = .bl b ∧ Q (.bl b) ρ2 s'
theorem de_ownIn (G : FnG X.prog X.w X.K X.mg X.base CX0 k f fd ps (lift X.K m 2 sp)) (hr : RoomG k X.A) (hb : Binds X.K fd ps []) (hs : PySem.W.findIn X.K (.ref C) "__contains__" = some (some (.ref f))) (hf : PySem.W.isFn X.K (.ref f) = true)
    (ha : PE X a (up X.K m ta)) (hb2 : PE X b (up X.K m tb)) (hm : behindInMarks .In b = false := by first | exact nomark _ | rfl) : PE X (.Compare a [.In] [b] pos) (up X.K m (dOwnIn C sp ta tb)) := PE.imp (pe_cmpR (op_ownIn G hr hb hs hf) ha hb2 hm) fun σ H Q h => by
  obtain ⟨F, ρ, s, Qd, rl, ht, hQ⟩ := h
  refine up2 (R := fun x y H2 => rOwnIn C (lift X.K m 2 sp) x y H2 Q) rl ht fun dx dy x y F2 H2 ρ2 s2 ⟨⟨ns, ds, ey⟩, q⟩ r2 st rx ry => ?_
  subst ey
  have ry' := ry
  obtain ⟨w, dp, fs, rfl, h1, _, _⟩ := ry
  refine ⟨w, dp, fs, rfl, r2.sub _ _ h1, rfl, F2, _, s2, _, r2.sub, r2.mem, r2.reg, .cons ry' (.one rx), q, fun d s' v F' H' ⟨b, ed, q2⟩ c rv => ?_⟩
  subst ed
  exact ⟨b, rv, hQ (.bl b) ρ2 s' _ F' H' q2 (r2.call c) (st.trans c.stp) rfl⟩
end
end DL

set_option Elab.async false
set_option linter.all false
set_option maxRecDepth 100000
/-! EL12: str(x) by an own __str__; isinstance(x, C), C an own class -/
namespace DL
open PySem PySem.Spec PyProof.Rows L2 TL
section
variable {X : Cx} {k : Nat} {C f : Addr} {fd : FuncData} {ps : List Str} {sp : Sp}
end
section
variable {X : Cx} {m : Mem} {k : Nat} {C f : Addr} {fd : FuncData} {ps : List Str} {sp : DSp m} {e : Expr} {te : DT m} {pos p : Pos}
end
/-- isinstance(x, C) -/
def isoD (K : PySem.W.Frag) (ds : List D) (Q : D → Prop) : Prop := (∃ x t C b, ds = [x, .any (.ref C)] ∧ tyT x = some t ∧ PySem.W.kitOne K (.type (tgS t)) (.ref C) = some b ∧ Q (.bl b)) ∨ ∃ B ns es C b, ds = [.ins B ns es, .any (.ref C)] ∧ InsK K B ∧ PySem.W.kitOne K (.ref B) (.ref C) = some b ∧ Q (.bl b)
theorem o_iso {K : PySem.W.Frag} : OpN K (rIsi K) (isoD K) := by
  intro F H ds vs Qd Q sub rs h hQ
  rcases h with ⟨x, t, C, b, rfl, e1, e2, q⟩ | ⟨B, ns, es, C, b, rfl, c, e2, q⟩
  · obtain ⟨v, _, rfl, rv, w, _, rfl, rw', rn⟩ := rs
    cases rn
    cases rw'
    exact ⟨v, .ref C, _, .ref C, b, rfl, .own C, ty_of sub rv e1, e2, hQ _ _ F H q (Grow.refl sub) rfl⟩
  · obtain ⟨v, _, rfl, rv, w, _, rfl, rw', rn⟩ := rs
    cases rn
    cases rw'
    obtain ⟨a, dx, fs, rfl, h1, _, _⟩ := rv
    exact ⟨.ref a, .ref C, .ref B, .ref C, b, rfl, .own C, .base (.ins (sub _ _ h1) c.cl c.ha c.hn c.ht c.hm), e2, hQ _ _ F H q (Grow.refl sub) rfl⟩
end DL

set_option Elab.async false
set_option linter.all false
set_option maxRecDepth 100000
/-! EL13: x in t, t a tuple of plain data -/
namespace DL
open PySem PySem.Spec PyProof.Rows L2 TL
def rInTP (K : PySem.W.Frag) (neg : Bool) : R2 := fun x y H Q => ∃ d ds, Dp K H x d ∧ Dp K H y (.tuple ds) ∧ SeqAt.shaped d = true ∧ SeqAt.shaped (.tuple ds) = true ∧ Q (.bl (neg ^^ ds.any fun z => PyData.eqv z d)) H
section
variable {X : Cx}
theorem op_inTP (hu : X.A.units + 65 < cLine) : OpR X (compareOp .In) (rInTP X.K false) := by
  intro pins s σ H x y v u Q I rx ry h
  obtain ⟨d, ds, hd, he, sd, se, q⟩ := h
  obtain ⟨as, r1⟩ := Dp.reads I d x v hd rx
  obtain ⟨bs, r2⟩ := Dp.reads I (.tuple ds) y u he ry
  rw [Bool.false_xor] at q
  exact SeqAt.in_tuple_reads r2 r1 (SeqAt.canLay_of_shaped se) (SeqAt.canLay_of_shaped sd) (room_in_shaped sd hu) ⟨.bl _, H, I, rfl, q⟩
end
def inTD (neg : Bool) : D → D → (Bool → Prop) → Prop := fun x y Q => ∃ ys, y = .tup ys ∧ plainD 58 x = true ∧ plainDs 58 ys = true ∧ Q (neg ^^ ys.any fun y => eqD y x)
theorem o_inTP {K : PySem.W.Frag} {neg : Bool} : Cm2 K (rInTP K neg) (inTD neg) := by
  intro F H dx dy x y Qd Q sub rx ry h hQ
  obtain ⟨ys, rfl, p1, p2, q⟩ := h
  have q1 := plain_mono 58 60 dx (by omega) p1
  have q2 : plainD 60 (.tup ys) = true := by
    have := plain_monos 58 59 ys (by omega) p2
    simpa [plainD] using this
  exact ⟨toPy dx, toPys ys, rep_dp sub 60 dx x q1 rx, rep_dp sub 60 _ y q2 ry, shaped_of q1 rx, shaped_of q2 ry, by rw [any_eqv 58 58 dx p1 ys p2]; exact hQ _ F H q (Grow.refl sub)⟩
end DL

set_option Elab.async false
set_option linter.all false
set_option maxRecDepth 100000
/-! PS: sets whose items are tuples of texts: what `in` and `add` do (how the table lies is the library's, by the hashes alone) -/
namespace PS
open PySem PySem.Spec PyProof.Rows L2
section
variable {P : Program} {w : World} {A : Around} {E : Value → Shared → Prop} {s : Shared}
/-- at b stands a tuple of just these texts -/
abbrev Tt (P : Program) (w : World) (h : Heap) (xs : List Str) (b : Addr) : Prop := IsTupleKey (strKind P w) h xs b
def hT (w : World) (xs : List Str) : Int := reduceHash (Builtin.Tuple.tupleHashOf (xs.map (hashStr w)))
theorem texts_in : ∀ {xs : List Str} {vs : List Value}, ItemsAre (strKind P w) xs vs → ∀ v ∈ vs, ∃ y t, v = Value.str y t
  | _, _, .nil, v, hv => absurd hv List.not_mem_nil
  | _, _, .cons h1 h2, v, hv => by
    rcases List.mem_cons.mp hv with rfl | hv
    · obtain ⟨t, e⟩ := Value.isStrOf_shape h1
      exact ⟨_, t, e⟩
    · exact texts_in h2 v hv
theorem ownClass_no {xs : List Str} {b : Addr} {Q : Bool → Shared → Prop} (hb : Tt P w s.heap xs b) (q : Q false s) : wpAny (model P w) A (ofAClassStatement 8 (.ref b)) Q E s := by
  have isT := hb.typeIs
  obtain ⟨o, its, n, ho, _, hd, hi⟩ := hb
  unfold ofAClassStatement
  refine wpAny_bind (wpAny_typeOf isT ?_)
  simp only [show (("tuple" : String) == "tuple") = true by decide, if_true]
  refine wpAny_bind (wpAny_pure ?_)
  simp only [Bool.not_true, Bool.false_eq_true, if_false]
  show wpAny _ _ (seqItems? (.ref b) >>= _) _ _ s
  refine wpAny_bind (wpAny_seqItems ho hd ?_)
  dsimp only
  refine wpAny_bind ?_
  show wpAny _ _ (forIn its _ _) _ _ s
  rw [← Array.forIn_toList]
  refine wpAny_forIn_list _ (fun left r s' => (∀ v ∈ left, ∃ y t, v = Value.str y t) ∧ r.1 = none ∧ s' = s) _ (fun v left r s' z => ?_) (fun r s' z => ?_) _ _ ⟨texts_in hi, rfl, rfl⟩
  · obtain ⟨all, h1, h2⟩ := z
    obtain ⟨y, t, rfl⟩ := all v List.mem_cons_self
    rw [show ofAClassStatement 7 (Value.str y t) = pure false from rfl]
    refine wpAny_bind (wpAny_pure ?_)
    simp only [Bool.false_eq_true, if_false]
    exact wpAny_pure ⟨fun u hu => all u (List.mem_cons_of_mem _ hu), rfl, h2⟩
  · obtain ⟨r1, r2⟩ := r
    obtain ⟨_, h1, rfl⟩ := z
    cases h1
    exact wpAny_pure q
/-- the question whether the hash is told by the value has some answer -/
theorem hashQ {xs : List Str} {b : Addr} {Q : Bool → Shared → Prop} (hb : Tt P w s.heap xs b) (q : ∀ k, Q k s) : wpAny (model P w) A (hashByValue 8 (.ref b)) Q E s := by
  have isT := hb.typeIs
  obtain ⟨o, its, n, ho, _, hd, hi⟩ := hb
  unfold hashByValue
  refine wpAny_bind (wpAny_specialOf isT F.slot_tuple_hash.lookup ?_)
  show wpAny _ _ (seqItems? (.ref b) >>= _) _ _ s
  refine wpAny_bind (wpAny_seqItems ho hd (wpAny_bind ?_))
  show wpAny _ _ (forIn its _ _) _ _ s
  rw [← Array.forIn_toList]
  refine wpAny_forIn_list _ (fun left r s' => (∀ v ∈ left, ∃ y t, v = Value.str y t) ∧ s' = s) _ (fun v left r s' z => ?_) (fun r s' z => ?_) _ _ ⟨texts_in hi, rfl⟩
  · obtain ⟨all, h2⟩ := z
    obtain ⟨y, t, rfl⟩ := all v List.mem_cons_self
    rw [show hashByValue 7 (Value.str y t) = pure false from rfl]
    refine wpAny_bind (wpAny_pure ?_)
    simp only [Bool.not_false, if_true]
    subst h2
    exact wpAny_pure (wpAny_pure (q _))
  · obtain ⟨r1, r2⟩ := r
    obtain ⟨_, rfl⟩ := z
    cases r1 with
    | none => exact wpAny_pure (q _)
    | some k => exact wpAny_pure (q _)
/-- a search that meets tuples of texts alone is not seen -/
theorem unseen {xs : List Str} {b : Addr} {Q : Bool → Shared → Prop} {ys : List Value} (hb : Tt P w s.heap xs b) (hy : ∀ y ∈ ys, ∃ zs c, y = Value.ref c ∧ Tt P w s.heap zs c) (q : Q false s) :
    wpAny (model P w) A (searchCouldBeSeen (.ref b) ys) Q E s := by
  unfold searchCouldBeSeen
  refine wpAny_bind (wpAny_forIn_list _ (fun left r s' => (∀ y ∈ left, ∃ zs c, y = Value.ref c ∧ Tt P w s'.heap zs c) ∧ Tt P w s'.heap xs b ∧ r.1 = none ∧ s' = s) _ (fun v left r s' z => ?_) (fun r s' z => ?_) _ _ ⟨hy, hb, rfl, rfl⟩)
  · obtain ⟨all, hb', h1, h2⟩ := z
    obtain ⟨zs, c, rfl, hc⟩ := all v List.mem_cons_self
    have keep : (∀ y ∈ left, ∃ zs c, y = Value.ref c ∧ Tt P w s'.heap zs c) ∧ Tt P w s'.heap xs b ∧ r.1 = none ∧ s' = s := ⟨fun u hu => all u (List.mem_cons_of_mem _ hu), hb', h1, h2⟩
    dsimp only
    cases q0 : (b == c || (carriedByValue (.ref b) && carriedByValue (.ref c))) with
    | true => exact wp_if_pos rfl (wpAny_pure ⟨keep.1, keep.2.1, rfl, keep.2.2.2⟩)
    | false =>
      refine wp_if_neg (by decide) ?_
      refine wpAny_bind (wpAny_eqIsQuiet_tuple hb' ?_)
      refine wp_if_neg (by decide) (wpAny_bind (wpAny_eqIsQuiet_tuple hc ?_))
      refine wp_if_neg (by decide) (wpAny_bind (ownClass_no hb' ?_))
      refine wp_if_neg (by decide) (wpAny_bind (ownClass_no hc ?_))
      exact wp_if_neg (by decide) (wpAny_pure ⟨keep.1, keep.2.1, rfl, keep.2.2.2⟩)
  · obtain ⟨r1, r2⟩ := r
    obtain ⟨_, _, h1, rfl⟩ := z
    cases h1
    exact wpAny_pure q
/-! ### the set -/
def rows (w : World) (L : List (Addr × List Str)) : List (Int × Value) := L.map fun q => (hT w q.2, Value.ref q.1)
/-- at a stands the set with the tuples L, in the order in which they lie there -/
structure At (w : World) (h : Heap) (a : Addr) (L : List (Addr × List Str)) (es : Array (Int × Value)) (ep : Nat) (t : SetTable) : Prop where
  obj : ∃ o, h.get? a = some o ∧ o.ExactSet ∧ o.data = .set es ep t
  lies : es.toList = rows w L
  tab : TabOk t (L.map fun q => hT w q.2)
  once : (L.map (·.2)).Nodup
  room : L.length * 5 < t.mask * 3
variable {a : Addr} {L : List (Addr × List Str)} {es : Array (Int × Value)} {ep : Nat} {t : SetTable}
theorem rows_len {l : List (Int × Value)} (h : l = rows w L) : l.length = L.length := by rw [h]; exact List.length_map ..
theorem At.many (T : At w s.heap a L es ep t) : es.size = L.length := (Array.length_toList).symm.trans (rows_len T.lies)
theorem fits_by {n : Nat} (h1 : t.place.size = n) (h2 : t.dummies = #[]) (h3 : n ≤ t.mask) : t.fits n = true := by
  unfold SetTable.fits SetTable.fill
  rw [h2, h1, Bool.and_eq_true]
  exact ⟨beq_self_eq_true _, decide_eq_true (by show n + 0 ≤ t.mask; omega)⟩
theorem At.fit (T : At w s.heap a L es ep t) : t.fits es.size = true := by
  have h1 := T.tab.sz
  rw [List.length_map] at h1
  have h2 := T.room
  rw [T.many]
  exact fits_by h1 T.tab.dm (by omega)
theorem At.row (T : At w s.heap a L es ep t) {i : Nat} {q : Addr × List Str} (h : L[i]? = some q) : es[i]? = some (hT w q.2, Value.ref q.1) := by
  have e : (rows w L)[i]? = some (hT w q.2, Value.ref q.1) := by
    unfold rows
    rw [List.getElem?_map, h]; rfl
  rw [← T.lies, Array.getElem?_toList] at e
  exact e
abbrev prb (t : SetTable) (h : Int) (c : Nat) : SetTable.Probe := nth t.mask (runAt t.mask (SetTable.bits h % (t.mask + 1)) (SetTable.bits h)) c
theorem prb_dummy (m : Nat) : ∀ (n : Nat) (p : SetTable.Probe), p.dummy = none → (nth m p n).dummy = none
  | 0, _, h => h
  | n + 1, p, h => prb_dummy m n (adv m p) (by
      unfold adv
      split <;> exact h)
/-- the search, from its c-th step on -/
theorem look (add : Bool) (T : At w s.heap a L es ep t) (hL : ∀ q ∈ L, Tt P w s.heap q.2 q.1) {x : Addr} {xs : List Str} (hx : Tt P w s.heap xs x) (hu : A.units < cLine) {K : Nat} (hK1 : K < 10 * SetTable.turns t.mask)
    (hK2 : way t.mask (hT w xs) K ∉ t.place.toList) (hK3 : ∀ c, c < K → way t.mask (hT w xs) c ∈ t.place.toList) {Q : SetFound → Shared → Prop}
    (yes : ∀ i, xs ∈ L.map (·.2) → Q (.there (if add then none else some i)) s) (no : xs ∉ L.map (·.2) → Q (.free (way t.mask (hT w xs) K) false) s) :
    ∀ (f c : Nat) (st : Option SetTable.Probe), st.getD (t.probeStart (hT w xs)) = prb t (hT w xs) c → c ≤ K → K < f + c →
      (∀ (i : Nat) q, L[i]? = some q → q.2 = xs → ∃ c', c ≤ c' ∧ c' < K ∧ t.place.toList[i]? = some (way t.mask (hT w xs) c')) →
      wpAny (model P w) A (setSearchFrom a (.ref x) (hT w xs) add f st) Q E s := by
  intro f
  induction f with
  | zero => intro c st _ h1 h2 _; omega
  | succ f ih =>
    intro c st hst hcK hf ahead
    obtain ⟨o, ho, hex, hd⟩ := T.obj
    rw [setSearchFrom_succ]
    refine wpAny_bind (wpAny_setState_of ho hd T.fit (wp_if_neg ?_ ?_))
    · unfold SetTable.gaveWay
      rw [mask_odd T.tab.mok]; decide
    have step : ∀ k, nth t.mask (prb t (hT w xs) c) k = prb t (hT w xs) (c + k) := fun k => (nth_add t.mask c _ k).symm
    have stepj : ∀ k, (nth t.mask (prb t (hT w xs) c) k).j = way t.mask (hT w xs) (c + k) := fun k => congrArg SetTable.Probe.j (step k)
    have atRow : ∀ (i : Nat) q, L[i]? = some q → (es[i]?.map (·.1)).getD 0 = hT w q.2 := fun i q hq => by rw [T.row hq]; rfl
    rcases go_spec t T.tab.ris T.tab.dm (fun i => (es[i]?.map (·.1)).getD 0) (hT w xs) (10 * SetTable.turns t.mask) (K - c) (prb t (hT w xs) c) (prb_dummy _ _ _ rfl) (by omega)
      (fun k hk => by rw [stepj]; exact hK3 _ (by omega)) (by rw [stepj, show c + (K - c) = K by omega]; exact hK2) with ⟨k, i, hk, hi, hh, hbefore, hgo⟩ | ⟨hnone, hgo⟩
    · have found : t.probe (fun i => (es[i]?.map (·.1)).getD 0) (hT w xs) (st.getD (t.probeStart (hT w xs))) = some (.candidate (way t.mask (hT w xs) (c + k)) i (prb t (hT w xs) (c + (k + 1)))) := by
        rw [hst, ← stepj, ← step]; exact hgo
      rw [found]
      rw [stepj] at hi
      have iL : i < L.length := by
        have h1 := (List.getElem?_eq_some_iff.mp hi).1
        have h2 := T.tab.sz
        rw [List.length_map] at h2
        rw [Array.length_toList, h2] at h1; exact h1
      obtain ⟨q, hq⟩ : ∃ q, L[i]? = some q := ⟨_, List.getElem?_eq_getElem iL⟩
      have qL : q ∈ L := List.mem_of_getElem? hq
      have hsl : t.slot (way t.mask (hT w xs) (c + k)) = .live i := slot_live T.tab.ris hi
      have behind : wpAny (model P w) A (searchRest a (.ref x) (hT w xs) add f es t (way t.mask (hT w xs) (c + k)) i (prb t (hT w xs) (c + (k + 1)))) Q E s := by
        unfold searchRest
        rw [T.row hq]
        refine wpAny_bind (wpAny_holding (wpAny_eqBool_tuple hu (hL q qL) hx (wpAny_bind (wpAny_setState_of ho hd T.fit ?_))))
        by_cases same : q.2 = xs
        · have mem : xs ∈ L.map (·.2) := List.mem_map.mpr ⟨q, qL, same⟩
          rw [decide_eq_true same]
          cases add with
          | true => exact wp_if_pos rfl (wpAny_pure (yes i mem))
          | false =>
            refine wp_if_neg (by decide) ?_
            rw [sameMem]
            dsimp only
            simp only [if_true, hsl, T.row hq]
            exact wpAny_bind (wpAny_isSame_ref_self (wpAny_bind (wpAny_pure (wpAny_pure (yes i mem)))))
        · rw [decide_eq_false same]
          refine wp_if_neg (by cases add <;> decide) ?_
          rw [sameMem]
          dsimp only
          simp only [if_true, hsl, T.row hq]
          refine wpAny_bind (wpAny_isSame_ref_self (wpAny_bind (wpAny_pure (wp_if_neg (by decide) ?_))))
          refine ih (c + (k + 1)) _ rfl (by omega) (by omega) fun i0 q0 h0 e0 => ?_
          obtain ⟨c', h1, h2, h3⟩ := ahead i0 q0 h0 e0
          refine ⟨c', ?_, h2, h3⟩
          have n1 : ¬ c' < c + k := fun z => hbefore (c' - c) i0 (by omega) (by rw [stepj, show c + (c' - c) = c' by omega]; exact h3) ((atRow i0 q0 h0).trans (by rw [e0]))
          have n2 : c' ≠ c + k := fun z => by
            rw [z] at h3
            have s2 := slot_live T.tab.ris h3
            rw [hsl] at s2
            injection s2 with s2
            rw [← s2, hq] at h0
            exact same (by rw [Option.some.inj h0]; exact e0)
          omega
      by_cases led : t.led = true
      · exact wp_if_neg (by rw [led]; decide) behind
      · refine wp_if_pos (by rw [eq_false_of_ne_true led]; decide) (wpAny_bind (unseen hx (fun y hy => ?_) (wp_if_neg (by decide) behind)))
        obtain ⟨r, hr, rfl⟩ := List.mem_map.mp hy
        have hr' : r ∈ es.toList := by
          have z : r ∈ es ∧ r.1 = hT w xs := by simpa using hr
          simpa using z.1
        rw [T.lies] at hr'
        obtain ⟨q', hq', rfl⟩ := List.mem_map.mp hr'
        exact ⟨q'.2, q'.1, rfl, hL q' hq'⟩
    · have found : t.probe (fun i => (es[i]?.map (·.1)).getD 0) (hT w xs) (st.getD (t.probeStart (hT w xs))) = some (.empty (way t.mask (hT w xs) K) none) := by
        have e : way t.mask (hT w xs) K = (nth t.mask (prb t (hT w xs) c) (K - c)).j := by rw [stepj, show c + (K - c) = K by omega]
        rw [hst, e]; exact hgo
      rw [found]
      refine wpAny_pure (no fun mem => ?_)
      obtain ⟨q, qL, e⟩ := List.mem_map.mp mem
      obtain ⟨i, hi, e2⟩ := List.getElem_of_mem qL
      have hq : L[i]? = some q := by rw [List.getElem?_eq_getElem hi, e2]
      obtain ⟨c', h1, h2, h3⟩ := ahead i q hq e
      exact hnone (c' - c) i (by omega) (by rw [stepj, show c + (c' - c) = c' by omega]; exact h3) ((atRow i q hq).trans (by rw [e]))
theorem find_at (add : Bool) (T : At w s.heap a L es ep t) (hL : ∀ q ∈ L, Tt P w s.heap q.2 q.1) {x : Addr} {xs : List Str} (hx : Tt P w s.heap xs x) (hu : A.units < cLine) {Q : SetFound → Shared → Prop}
    (yes : ∀ i, xs ∈ L.map (·.2) → Q (.there (if add then none else some i)) s)
    (no : ∀ K, xs ∉ L.map (·.2) → way t.mask (hT w xs) K ∉ t.place.toList → (∀ c, c < K → way t.mask (hT w xs) c ∈ t.place.toList) → Q (.free (way t.mask (hT w xs) K) false) s) :
    wpAny (model P w) A (setSearch a (.ref x) (hT w xs) add) Q E s := by
  have hr := T.room
  obtain ⟨K, h1, h2, h3⟩ := T.tab.first (by rw [List.length_map]; omega) (hT w xs)
  have small : K < 100000 := by
    have : SetTable.turns t.mask ≤ 142 := by
      unfold SetTable.turns
      rcases T.tab.mok with e | e | e <;> omega
    omega
  unfold setSearch
  refine look add T hL hx hu h1 h2 h3 yes (fun n => no K n h2 h3) 100000 0 none rfl (Nat.zero_le _) (by omega) fun i q hq e => ?_
  have hh : (L.map fun q => hT w q.2)[i]? = some (hT w xs) := by rw [List.getElem?_map, hq, ← e]; rfl
  have hlt : i < t.place.toList.length := by
    have z := T.tab.sz
    rw [List.length_map] at z
    rw [Array.length_toList, z]
    exact (List.getElem?_eq_some_iff.mp hq).1
  have hj := List.getElem?_eq_getElem hlt
  obtain ⟨c, c1, c2⟩ := T.tab.before h2 hh hj
  exact ⟨c, Nat.zero_le _, c1, by rw [hj, c2]⟩
theorem find_plain (T : At w s.heap a L es ep t) (hL : ∀ q ∈ L, Tt P w s.heap q.2 q.1) {x : Addr} {xs : List Str} (hx : Tt P w s.heap xs x) (hu : A.units < cLine) {Q : Option Nat → Shared → Prop} (q : ∀ r : Option Nat, r.isSome = decide (xs ∈ L.map (·.2)) → Q r s) :
    wpAny (model P w) A (setFind a (.ref x) (hT w xs)) Q E s := by
  obtain ⟨o, ho, hex, hd⟩ := T.obj
  unfold setFind
  rw [show (100000 : Nat) = 99999 + 1 from rfl]
  unfold setFindIn
  refine wpAny_bind (wpAny_setState_of ho hd T.fit (wp_if_neg (by simp [byScan, Value.scannable]) ?_))
  refine wpAny_bind (find_at false T hL hx hu (fun i m => ?_) fun K n _ _ => ?_)
  · exact wpAny_pure (q _ (by rw [decide_eq_true m]; rfl))
  · exact wpAny_pure (q _ (by rw [decide_eq_false n]; rfl))
theorem range_get : ∀ (L : List (Addr × List Str)) (n : Nat), n ≤ L.length → (List.range n).filterMap (fun i => L[i]?) = L.take n
  | _, 0, _ => by rw [List.take_zero]; rfl
  | L, n + 1, h => by
    rw [List.range_succ, List.filterMap_append, range_get L n (by omega), List.filterMap_cons, List.getElem?_eq_getElem (show n < L.length by omega), List.take_add_one, List.getElem?_eq_getElem (show n < L.length by omega)]
    rfl
/-- the rows in another order -/
theorem reorder {es : Array (Int × Value)} {order : Array Nat} (h : es.toList = rows w L) (hp : order.toList.Perm (List.range L.length)) :
    ∃ L2, (order.filterMap (es[·]?)).toList = rows w L2 ∧ L2.Perm L ∧ (L2.map fun q => hT w q.2) = order.toList.map fun i => (es.map (·.1)).getD i 0 := by
  have at_ : ∀ i : Nat, es[i]? = L[i]?.map fun q => (hT w q.2, Value.ref q.1) := fun i => by
    rw [← Array.getElem?_toList, h]
    unfold rows
    rw [List.getElem?_map]
  have inn : ∀ i ∈ order.toList, i < L.length := fun i hi => List.mem_range.mp (hp.mem_iff.mp hi)
  have whole : (List.range L.length).filterMap (fun i => L[i]?) = L := by rw [range_get L L.length (Nat.le_refl _), List.take_length]
  refine ⟨order.toList.filterMap fun i => L[i]?, ?_, ?_, ?_⟩
  · rw [Array.toList_filterMap]
    unfold rows
    rw [List.map_filterMap]
    exact congrFun (congrArg List.filterMap (funext at_)) _
  · have z := hp.filterMap fun i => L[i]?
    rw [whole] at z; exact z
  · have key : ∀ l : List Nat, (∀ i ∈ l, i < L.length) → (l.filterMap fun i => L[i]?).map (fun q => hT w q.2) = l.map fun i => (es.map (·.1)).getD i 0 := by
      intro l
      induction l with
      | nil => intro _; rfl
      | cons i l ih =>
        intro hl
        have hi := hl i List.mem_cons_self
        have e1 : (es.map (·.1))[i]? = some (hT w (L[i]).2) := by rw [Array.getElem?_map, at_ i, List.getElem?_eq_getElem hi]; rfl
        rw [List.filterMap_cons_some (List.getElem?_eq_getElem hi), List.map_cons, List.map_cons, ih fun j hj => hl j (List.mem_cons_of_mem _ hj)]
        simp [Array.getD_eq_getD_getElem?, e1]
    exact key _ inn
/-- more room -/
theorem widen {o : Obj} (ho : s.heap.get? a = some o) (hex : o.ExactSet) (hd : o.data = .set es ep t) (lies : es.toList = rows w L) (hsz : t.place.size = es.size) (hdm : t.dummies = #[]) (hle : es.size ≤ t.mask) (once : (L.map (·.2)).Nodup) {wanted M : Nat}
    (hM : SetTable.sizeAbove wanted - 1 = M) (mok : MaskOk M) (h128 : SetTable.sizeAbove wanted ≤ 128) (room : L.length * 5 < M * 3) {Q : Unit → Shared → Prop}
    (q : ∀ h' L' es' ep' t', Heap.SameBut a s.heap h' → At w h' a L' es' ep' t' → L'.Perm L → Q () { s with heap := h' }) : wpAny (model P w) A (setRelay a wanted) Q E s := by
  have many : es.size = L.length := (Array.length_toList).symm.trans (rows_len lies)
  obtain ⟨t', order, e, hp, T, em, _, _, _⟩ := relaid_ok t (hs := es.map (·.1)) hM mok (by rw [Array.size_map, many]; omega)
  rw [Array.size_map, many] at hp
  obtain ⟨L2, r1, r2, r3⟩ := reorder lies hp
  rw [← r3] at T
  have many2 : (order.filterMap (es[·]?)).size = es.size := by
    rw [many, ← r2.length_eq]
    exact (Array.length_toList).symm.trans (rows_len r1)
  rw [setRelay_eq]
  refine wpAny_bind (wpAny_setState_of ho hd (fits_by hsz hdm hle) (wp_if_neg (by rw [sizeLine_eq]; omega) ?_))
  rw [e]
  refine wpAny_bind (wp_if_neg (by rw [many2]; simp) (wpAny_pure ?_))
  refine wpAny_storeSet_of ho hd ?_ (by rw [many2, many, sizeLine_eq]; omega)
  have sb : Heap.SameBut a s.heap (s.heap.update a (Obj.putSet (order.filterMap (es[·]?)) t')) := Heap.SameBut.update ..
  exact q _ L2 _ (ep + 1) t' sb ⟨⟨_, store_at ho hd, ⟨hex.1, hex.2.1, hex.2.2⟩, rfl⟩, r1, T, (r2.map (·.2)).nodup_iff.mpr once, by rw [r2.length_eq, em]; exact room⟩ r2
theorem tab_dull {hs : List Int} (T : TabOk t hs) (b : Bool) : TabOk (if b = true then t else { t with plain := false }) hs := by
  cases b with
  | true => exact T
  | false => exact ⟨T.ris, T.dm, T.sz, T.mok, T.bd, T.reach⟩
theorem dull_mask (b : Bool) : (if b = true then t else { t with plain := false }).mask = t.mask ∧ (if b = true then t else { t with plain := false }).fill = t.fill := by cases b <;> exact ⟨rfl, rfl⟩
/-- one put in -/
theorem add_to (T : At w s.heap a L es ep t) (hL : ∀ q ∈ L, Tt P w s.heap q.2 q.1) {x : Addr} {xs : List Str} (hx : Tt P w s.heap xs x) (hu : A.units < cLine) (few : L.length < 76) {Q : Bool → Shared → Prop}
    (q : ∀ b h' L' es' ep' t', Heap.SameBut a s.heap h' → At w h' a L' es' ep' t' → (xs ∈ L.map (·.2) → L' = L) → (xs ∉ L.map (·.2) → L'.Perm ((x, xs) :: L)) → Q b { s with heap := h' }) :
    wpAny (model P w) A (setAddHashed a (.ref x) (hT w xs)) Q E s := by
  obtain ⟨o, ho, hex, hd⟩ := T.obj
  have many := T.many
  have room := T.room
  unfold setAddHashed
  refine wpAny_holding ?_
  rw [show (100000 : Nat) = 99999 + 1 from rfl, setAddHashedIn_succ]
  refine wpAny_bind (wpAny_setState_of ho hd T.fit (wp_if_neg (by simp [byScan, Value.scannable]) ?_))
  refine wpAny_bind (find_at true T hL hx hu (fun i m => ?_) fun K out hK hb => ?_)
  · exact wpAny_pure (q false s.heap L es ep t (Heap.SameBut.refl a s.heap) T (fun _ => rfl) fun z => absurd m z)
  · refine wpAny_bind (wpAny_setState_of ho hd T.fit ?_)
    obtain ⟨p1, p2, p3, p4, _, _, _, _, p9⟩ := T.tab.put hK hb
    generalize way t.mask (hT w xs) K = j at p1 p2 p3 p4 p9 hK ⊢
    dsimp only
    generalize t.put j = pt at p1 p3 p4 p9 ⊢
    obtain ⟨t1, pos⟩ := pt
    dsimp only at p1 p3 p4 p9 ⊢
    subst p1
    generalize SetTable.below t.place j = pos at p2 p3 ⊢
    have behind : ∀ b : Bool, wpAny (model P w) A (do
        storeSet a (SetTable.insertAt es pos (hT w xs, Value.ref x)) (if b = true then t1 else { t1 with plain := false })
        if (!false && (if b = true then t1 else { t1 with plain := false }).tooFull) = true then setRelay a (SetTable.grown (es.size + 1))
        return true) Q E s := fun b => by
      have T1 := tab_dull p3 b
      obtain ⟨m1, m2⟩ := dull_mask (t := t1) b
      generalize (if b = true then t1 else { t1 with plain := false }) = t2 at T1 m1 m2 ⊢
      have lies1 : (SetTable.insertAt es pos (hT w xs, Value.ref x)).toList = rows w (L.take pos ++ (x, xs) :: L.drop pos) := by
        rw [SetTable.toList_insertAt, T.lies]
        unfold rows
        rw [List.map_append, List.map_cons, List.map_take, List.map_drop]
      have pm : (L.take pos ++ (x, xs) :: L.drop pos).Perm ((x, xs) :: L) := put_perm L pos (x, xs)
      have hs1 : (L.take pos ++ (x, xs) :: L.drop pos).map (fun q => hT w q.2) = (L.map fun q => hT w q.2).take pos ++ hT w xs :: (L.map fun q => hT w q.2).drop pos := by
        rw [List.map_append, List.map_cons, List.map_take, List.map_drop]
      rw [← hs1] at T1
      generalize L.take pos ++ (x, xs) :: L.drop pos = L1 at lies1 pm T1
      generalize SetTable.insertAt es pos (hT w xs, Value.ref x) = es1 at lies1 ⊢
      have len1 : L1.length = L.length + 1 := pm.length_eq
      have many1 : es1.size = L.length + 1 := ((Array.length_toList).symm.trans (rows_len lies1)).trans len1
      have once1 : (L1.map (·.2)).Nodup := (pm.map (·.2)).nodup_iff.mpr (List.nodup_cons.mpr ⟨out, T.once⟩)
      refine wpAny_bind (wpAny_storeSet_of ho hd ?_ (by rw [many1, sizeLine_eq]; omega))
      have sb : Heap.SameBut a s.heap (s.heap.update a (Obj.putSet es1 t2)) := Heap.SameBut.update ..
      have ho1 := store_at (es' := es1) (t' := t2) ho hd
      generalize s.heap.update a (Obj.putSet es1 t2) = h1 at sb ho1 ⊢
      have ex1 : Obj.ExactSet { o with data := .set es1 (ep + 1) t2 } := ⟨hex.1, hex.2.1, hex.2.2⟩
      have fill : t2.fill = L.length + 1 := by rw [m2, p9, List.length_map]
      by_cases hf : t2.tooFull = true
      · have full : (L.length + 1) * 5 ≥ t.mask * 3 := by
          have z := hf
          unfold SetTable.tooFull at z
          rw [decide_eq_true_eq, fill, m1, p4] at z; exact z
        refine wp_if_pos (by rw [hf]; decide) (wpAny_bind ?_)
        rw [many]
        have which : (t.mask = 7 ∧ L.length = 4) ∨ (t.mask = 31 ∧ L.length = 18) := by
          rcases T.tab.mok with e | e | e <;> rw [e] at full room
          · exact .inl ⟨e, by omega⟩
          · exact .inr ⟨e, by omega⟩
          · omega
        have go : ∀ M, SetTable.sizeAbove (SetTable.grown (L.length + 1)) - 1 = M → MaskOk M → SetTable.sizeAbove (SetTable.grown (L.length + 1)) ≤ 128 → (L.length + 1) * 5 < M * 3 →
            wpAny (model P w) A (setRelay a (SetTable.grown (L.length + 1))) (fun _ s' => wpAny (model P w) A (pure true) Q E s') E { s with heap := h1 } := fun M g1 g2 g3 g4 => by
          refine widen (s := { s with heap := h1 }) (L := L1) ho1 ex1 rfl lies1 ?_ T1.dm ?_ once1 g1 g2 g3 (by rw [len1]; exact g4) fun h2 L2 es2 ep2 t3 sb2 R2 pm2 => ?_
          · have z := T1.sz
            rw [List.length_map, len1] at z
            rw [z, many1]
          · rw [many1, m1, p4]
            rcases which with ⟨e, e2⟩ | ⟨e, e2⟩ <;> omega
          · exact wpAny_pure (q true h2 L2 es2 ep2 t3 (sb.trans sb2) R2 (fun z => absurd z out) fun _ => pm2.trans pm)
        rcases which with ⟨_, e2⟩ | ⟨_, e2⟩
        · exact go 31 (by rw [e2, size_20]) (.inr (.inl rfl)) (by rw [e2, size_20]; decide) (by omega)
        · exact go 127 (by rw [e2, size_76]) (.inr (.inr rfl)) (by rw [e2, size_76]; decide) (by omega)
      · refine wp_if_neg (by rw [eq_false_of_ne_true hf]; decide) (wpAny_pure (q true h1 L1 es1 (ep + 1) t2 sb ⟨⟨_, ho1, ex1, rfl⟩, lies1, T1, once1, ?_⟩ (fun z => absurd z out) fun _ => pm))
        have z := hf
        unfold SetTable.tooFull at z
        rw [decide_eq_true_eq, fill, m1, p4] at z
        rw [len1, m1, p4]; omega
    by_cases hp : t1.plain = true
    · refine wp_if_pos hp (wpAny_bind (hashQ hx fun b => behind b))
    · exact wp_if_neg hp (behind true)
end
end PS

set_option Elab.async false
set_option linter.all false
set_option maxRecDepth 100000
/-! TX: sets of texts that can be walked; the orders of texts and of pairs of texts -/
namespace TX
open PySem PySem.Spec PyProof.Rows L2 PySem.Froz
/-- at a stands a set with just the texts xs -/
def Tset (w : World) (h : Heap) (a : Addr) (xs : List Str) : Prop :=
  ∃ D : SD, h.get? a = some (sObj "set" D) ∧ (∀ P, TxOk P w D xs) ∧ xs.Nodup ∧ Ris D.2.2.place.toList ∧ (w.params.followText "set-order" = true ∨ D.2.2.led = true)
theorem Tset.keep {w : World} {h h' : Heap} {a : Addr} {xs : List Str} (R : Tset w h a xs) (k : ∀ o, h.get? a = some o → h'.get? a = some o) : Tset w h' a xs := by
  obtain ⟨D, e, r⟩ := R
  exact ⟨D, k _ e, r⟩
theorem Tset.setOf {P : Program} {w : World} {h : Heap} {a : Addr} {xs : List Str} (R : Tset w h a xs) (room : xs.length < scanBound) : h.SetOf (strKind P w) a (fun k => decide (k ∈ xs)) xs.length := by
  obtain ⟨D, e, T, _⟩ := R
  obtain ⟨el, mem, sz, fit⟩ := T P
  exact ⟨_, _, _, _, e, ⟨rfl, rfl, rfl⟩, rfl, el, fun k => (decide_eq_true_iff).trans (mem k), by rw [sz]; exact room, fit, sz⟩
section
variable {P : Program} {w : World} {A : Around} {E : Value → Shared → Prop} {s : Shared} {a : Addr} {xs : List Str}
theorem add_ris {h : Int} {v : Value} {D : SD} (r : Ris D.2.2.place.toList) : Ris (addTx h v D).2.2.place.toList ∧ (addTx h v D).2.2.led = D.2.2.led := by
  obtain ⟨es, ep, t⟩ := D
  have r1 := layNew_ris t es h v r
  have l1 := layNew_led t es h v
  unfold addTx
  dsimp only at r1 l1 ⊢
  have both : Ris (if (layNew t es h v).2.1.plain = true then { (layNew t es h v).2.1 with plain := false } else (layNew t es h v).2.1).place.toList ∧ (if (layNew t es h v).2.1.plain = true then { (layNew t es h v).2.1 with plain := false } else (layNew t es h v).2.1).led = t.led := by
    by_cases c : (layNew t es h v).2.1.plain = true
    · rw [if_pos c]; exact ⟨r1, l1⟩
    · rw [if_neg c]; exact ⟨r1, l1⟩
  generalize (if (layNew t es h v).2.1.plain = true then { (layNew t es h v).2.1 with plain := false } else (layNew t es h v).2.1) = t2 at both ⊢
  unfold tailTx
  by_cases c : (!(layNew t es h v).2.2.1 && t2.tooFull) = true
  · rw [if_pos c]
    exact ⟨relayAll_ris _ _ _, (relayAll_led _ _ _).trans both.2⟩
  · rw [if_neg c]; exact both
/-- what is there already is not put in again -/
theorem there_tx {k : Str} {u : Tok} {Q : Bool → Shared → Prop} (R : Tset w s.heap a xs) (hk : k ∈ xs) (room : xs.length < scanBound) (q : Q false s) : wpAny (model P w) A (setAddHashed a (.str k u) (hashStr w k)) Q E s := by
  obtain ⟨⟨es, ep, t⟩, e, T, _⟩ := R
  obtain ⟨el, mem, sz, fit⟩ := T P
  have hd : (sObj "set" (es, ep, t)).data = .set es ep t := rfl
  unfold setAddHashed setAddHashedIn
  refine wpAny_holding (wpAny_bind (wpAny_setState_of e hd fit ?_))
  dsimp only at el mem sz fit ⊢
  rw [byScan_of (knd := strKind P w) rfl (by rw [sz]; exact room) el]
  refine wp_if_pos rfl ?_
  unfold setAddByScan
  refine wpAny_bind (wpAny_bind (wpAny_rule (wpAny_bind (wpAny_setScan_of (knd := strKind P w) (k := k) (is_str k u) e hd fit el ?_))))
  cases hf : List.findIdx? (fun e => (strKind P w).is k e.2) es.toList with
  | none =>
    obtain ⟨e0, h0, i0⟩ := (mem k).mp hk
    have z := List.findIdx?_eq_none_iff.mp hf e0 h0
    rw [i0] at z
    cases z
  | some j => exact wpAny_pure (wpAny_pure q)
theorem add_tx {k : Str} {u : Tok} {Q : Value → Shared → Prop} (R : Tset w s.heap a xs) (room : xs.length + 1 < scanBound)
    (q : ∀ h', Heap.SameBut a s.heap h' → Tset w h' a (if k ∈ xs then xs else k :: xs) → Q .none { s with heap := h', toks := s.toks + 1 }) : wpAny (model P w) A (call (.builtin "set.add") [.ref a, .str k u]) Q E s := by
  have S := R.setOf (P := P) (Nat.lt_of_succ_lt room)
  refine wpAny_call_entry F.slot_set_add S.typeIs F.entry_set_add ?_ (F.args_set_add_2 _ _)
  unfold Builtin.«set.add» Builtin.Frozenset.oneOther
  simp only [List.isEmpty_nil, bind_assoc]
  unfold Builtin.Frozenset.addrOf setAdd
  refine wpAny_bind (wpAny_pure (wpAny_bind (wpAny_pure (wpAny_bind (wpAny_holding (wpAny_bind ((strKind P w).pyHash (is_str (P := P) (w := w) k u) ?_)))))))
  have R1 : Tset w { s with toks := s.toks + 1 }.heap a xs := R
  by_cases hk : k ∈ xs
  · rw [if_pos hk] at q
    refine there_tx (s := { s with toks := s.toks + 1 }) R1 hk (Nat.lt_of_succ_lt room) ?_
    exact wpAny_pure ⟨_, rfl, q _ (Heap.SameBut.refl a s.heap) R⟩
  · rw [if_neg hk] at q
    obtain ⟨D, e, T, nd, ri, le⟩ := R
    refine add_x (s := { s with toks := s.toks + 1 }) (l := xs) (D := D) (T := "set") e (T P) hk room ?_
    have z := add_ris (h := hashStr w k) (v := .str k u) ri
    refine wpAny_pure ⟨_, rfl, q _ (Heap.SameBut.update ..) ⟨addTx (hashStr w k) (.str k u) D, get_upd _ e rfl, fun P' => add_ok u (T P'), List.nodup_cons.mpr ⟨hk, nd⟩, z.1, le.imp id fun y => z.2.trans y⟩⟩
theorem tset_new (h : Heap) : Tset w (h.push { cls := .type "set", dict := none, data := .set #[] 0 (.fresh 0 0 (!w.params.followText "set-order")) }) h.objs.size [] :=
  ⟨(#[], 0, .fresh 0 0 (!w.params.followText "set-order")), Heap.get?_push_size _ rfl, fun P => TxOk.nil rfl, List.nodup_nil, List.Pairwise.nil, by
    cases w.params.followText "set-order" with
    | true => exact .inl rfl
    | false => exact .inr rfl⟩
end
end TX

set_option Elab.async false
set_option linter.all false
set_option maxRecDepth 100000
/-! TO: the orders of texts and of pairs of texts, what sorting by them gives -/
namespace TO
open PySem PySem.Spec PyProof.Rows L2
/-! ### total orders -/
structure Lin {α : Type} (lt : α → α → Bool) : Prop where
  irr : ∀ x, lt x x = false
  tr : ∀ x y z, lt x y = true → lt y z = true → lt x z = true
  tri : ∀ x y, lt x y = false → lt y x = false → x = y
section
variable {α : Type} {lt : α → α → Bool}
theorem Lin.asym (L : Lin lt) {x y : α} (h : lt x y = true) : lt y x = false := by
  cases q : lt y x with
  | false => rfl
  | true => rw [← L.irr x, L.tr x y x h q]
theorem Lin.swo (L : Lin lt) : SrtO.Swo lt := ⟨fun x y h => L.asym h, fun x y z h1 h2 => by
  cases q : lt z x with
  | false => rfl
  | true =>
    cases q2 : lt x y with
    | true => rw [← h2, L.tr z x y q q2]
    | false =>
      have e := L.tri x y q2 h1
      rw [e] at q
      rw [← h2, q]⟩
/-- sorted by lt -/
def srt (lt : α → α → Bool) (l : List α) : List α := l.mergeSort fun a b => !lt b a
theorem srt_perm (l : List α) : (srt lt l).Perm l := List.mergeSort_perm ..
theorem srt_pw (L : Lin lt) (l : List α) : (srt lt l).Pairwise fun a b => lt b a = false := by
  refine List.Pairwise.imp (fun {a b} h => by simpa using h) (List.pairwise_mergeSort (le := fun a b => !lt b a) (fun a b c h1 h2 => ?_) (fun a b => ?_) l)
  · have := L.swo.tr a b c (by simpa using h1) (by simpa using h2)
    simpa using this
  · cases q : lt a b with
    | true => simp [L.asym q]
    | false => simp
theorem srt_eq (L : Lin lt) {out l : List α} (p : out.Perm l) (s : out.Pairwise fun a b => lt b a = false) : out = srt lt l :=
  List.Perm.eq_of_pairwise (le := fun a b => lt b a = false) (fun a b _ _ h1 h2 => L.tri a b h2 h1) s (srt_pw L l) (p.trans (srt_perm l).symm)
theorem srt_congr (L : Lin lt) {l m : List α} (p : l.Perm m) : srt lt l = srt lt m := srt_eq L ((srt_perm l).trans p) (srt_pw L l)
theorem srt_mem {l : List α} {x : α} : x ∈ srt lt l ↔ x ∈ l := (srt_perm l).mem_iff
theorem srt_len (l : List α) : (srt lt l).length = l.length := (srt_perm l).length_eq
/-- first by the first -/
def lexP (lt : α → α → Bool) [DecidableEq α] (p q : α × α) : Bool := if p.1 = q.1 then lt p.2 q.2 else lt p.1 q.1
theorem Lin.lex [DecidableEq α] (L : Lin lt) : Lin (lexP lt) := by
  refine ⟨fun x => ?_, fun x y z h1 h2 => ?_, fun x y h1 h2 => ?_⟩
  · unfold lexP
    rw [if_pos rfl]; exact L.irr _
  · unfold lexP at h1 h2 ⊢
    by_cases e1 : x.1 = y.1
    · rw [if_pos e1] at h1
      by_cases e2 : y.1 = z.1
      · rw [if_pos e2] at h2
        rw [if_pos (e1.trans e2)]; exact L.tr _ _ _ h1 h2
      · rw [if_neg e2] at h2
        rw [if_neg (by rw [e1]; exact e2), e1]; exact h2
    · rw [if_neg e1] at h1
      by_cases e2 : y.1 = z.1
      · rw [if_pos e2] at h2
        rw [← e2, if_neg e1]; exact h1
      · rw [if_neg e2] at h2
        have z1 := L.tr _ _ _ h1 h2
        rw [if_neg fun e => by rw [e, L.irr] at z1; cases z1]; exact z1
  · unfold lexP at h1 h2
    by_cases e1 : x.1 = y.1
    · rw [if_pos e1] at h1
      rw [if_pos e1.symm] at h2
      exact Prod.ext e1 (L.tri _ _ h1 h2)
    · rw [if_neg e1] at h1
      rw [if_neg fun e => e1 e.symm] at h2
      exact absurd (L.tri _ _ h1 h2) e1
end
/-! ### texts, pairs of texts -/
def lessS (a b : Str) : Bool := decide (a.cps.toList < b.cps.toList)
theorem linS : Lin lessS := by
  refine ⟨fun x => ?_, fun x y z h1 h2 => ?_, fun x y h1 h2 => ?_⟩
  · exact decide_eq_false (List.lt_irrefl _)
  · exact decide_eq_true (List.lt_trans (of_decide_eq_true h1) (of_decide_eq_true h2))
  · have e := List.le_antisymm (List.not_lt.mp (of_decide_eq_false h2)) (List.not_lt.mp (of_decide_eq_false h1))
    cases x; cases y
    exact congrArg Str.mk (Array.toList_inj.mp e)
abbrev lessP : Str × Str → Str × Str → Bool := lexP lessS
theorem linP : Lin lessP := linS.lex
def sv : Value → Str
  | .str x _ => x
  | _ => Str.empty
section
variable {P : Program} {w : World} {A : Around} {E : Value → Shared → Prop} {s : Shared}
theorem swo_by {α β : Type} {lt : α → α → Bool} (L : Lin lt) (f : β → α) : SrtO.Swo fun v u => lt (f v) (f u) := ⟨fun x y => L.swo.asym _ _, fun x y z => L.swo.tr _ _ _⟩
theorem text_cmp {vs : List Value} {xs : List Str} (h : StrsAre vs xs) : SrtO.Cmp P w A s oneType' (fun p => p.1 ∈ vs) (SrtO.lt2 fun v u => lessS (sv v) (sv u)) := by
  intro p q hp hq
  obtain ⟨x, t, e⟩ := h.all _ hp
  obtain ⟨y, u, e'⟩ := h.all _ hq
  show wpAny (model P w) A (keyLt' oneType' p.1 q.1) (fun r s' => s' = s ∧ r = lessS (sv p.1) (sv q.1)) (fun _ _ => False) s
  rw [e, e', keyLt'_oneType]
  exact oneLt_str ⟨rfl, rfl⟩
theorem texts_sortable {a : Addr} {vs : List Value} {xs : List Str} (h : StrsAre vs xs) (h2 : 2 ≤ vs.length) : SrtO.SortableO P w A s a vs fun v u => lessS (sv v) (sv u) := by
  intro h' _
  refine ⟨oneType', fun Q E q => ?_, text_cmp h⟩
  match vs, h, h2 with
  | v1 :: v2 :: r, h, _ => rw [keyKind_strs h]; exact wpAny_pure q
/-- v is the tuple of two texts -/
def Pr (h : Heap) (v : Value) (p : Str × Str) : Prop := ∃ a o t u n, v = .ref a ∧ h.get? a = some o ∧ o.cls = .type "tuple" ∧ o.data = .seq #[.str p.1 t, .str p.2 u] n
theorem Pr.keep {h h' : Heap} {v : Value} {p : Str × Str} (q : Pr h v p) (k : ∀ b o, h.get? b = some o → o.cls = .type "tuple" → h'.get? b = some o) : Pr h' v p := by
  obtain ⟨a, o, t, u, n, e1, e2, e3, e4⟩ := q
  exact ⟨a, o, t, u, n, e1, k _ _ e2 e3, e3, e4⟩
theorem pr_lt {v v' : Value} {p q : Str × Str} (h : Pr s.heap v p) (h' : Pr s.heap v' q) {Q : Bool → Shared → Prop} {E : Value → Shared → Prop} (hQ : Q (lessP p q) s) : wpAny (model P w) A (keyLt' (tuples' true) v v') Q E s := by
  obtain ⟨a, o, t, u, n, rfl, ho, _, hd⟩ := h
  obtain ⟨a', o', t', u', n', rfl, ho', _, hd'⟩ := h'
  unfold lessP lexP at hQ
  refine PySem.W.kat_lt ho hd ho' hd' (PySem.W.kat_cons (SeqAt.EqAt.str_str p.1 t q.1 t' P w _ _ (PySem.W.kat_go (fun e => PySem.W.kat_yes ?_) fun e => PySem.W.kat_no ?_)))
  · have e1 : p.1 = q.1 := eq_of_beq e
    rw [if_pos e1] at hQ
    refine PySem.W.kat_cons (SeqAt.EqAt.str_str p.2 u q.2 u' P w _ _ (PySem.W.kat_go (fun e2 => PySem.W.kat_yes (PySem.W.kat_nil ?_)) fun e2 => PySem.W.kat_no (PySem.W.kat_one _ _ (lt_str hQ))))
    have e3 : p.2 = q.2 := eq_of_beq e2
    rw [e3, linS.irr] at hQ
    exact hQ
  · have e1 : ¬ p.1 = q.1 := fun z => by rw [z] at e; simp at e
    rw [if_neg e1] at hQ
    exact oneLt_str hQ
theorem prs_firsts {h : Heap} {k : Value → Str × Str} : ∀ {vs : List Value}, (∀ v ∈ vs, Pr h v (k v)) → ∃ fs : List Value, PySem.W.KatTups h vs fs ∧ fs.length = vs.length ∧ ∀ f ∈ fs, ∃ x t, f = Value.str x t
  | [], _ => ⟨[], .nil, rfl, fun _ z => absurd z List.not_mem_nil⟩
  | v :: vs, hp => by
    obtain ⟨fs, f1, f2, f3⟩ := prs_firsts (vs := vs) fun u hu => hp u (List.mem_cons_of_mem _ hu)
    obtain ⟨a, o, t, u, n, e, ho, hc, hd⟩ := hp v List.mem_cons_self
    subst e
    refine ⟨.str (k (.ref a)).1 t :: fs, ?_, congrArg (· + 1) f2, fun f hf => ?_⟩
    · first | exact .cons ho hc hd (by decide) rfl f1 | exact .cons ho hc hd rfl f1 | skip
    · rcases List.mem_cons.mp hf with rfl | hf
      · exact ⟨_, _, rfl⟩
      · exact f3 f hf
theorem prs_sortable {a : Addr} {vs : List Value} {k : Value → Str × Str} (h0 : 0 < vs.length) (hp : ∀ v ∈ vs, Pr s.heap v (k v)) (ha : ∀ o, s.heap.get? a = some o → o.cls ≠ .type "tuple") : SrtO.SortableO P w A s a vs fun v u => lessP (k v) (k u) := by
  intro h' keep
  have hp' : ∀ v ∈ vs, Pr h' v (k v) := fun v hm => (hp v hm).keep fun b o e c => keep b o (fun z => ha o (z ▸ e) c) e
  obtain ⟨fs, h1, h2, h3⟩ := prs_firsts hp'
  refine ⟨tuples' true, fun Q E hq => ?_, fun p q hm hm' => pr_lt (s := { s with heap := h' }) (hp' _ hm) (hp' _ hm') ⟨rfl, rfl⟩⟩
  refine PySem.W.kat_kind (T := .type "str") h1 (by omega) (fun f hm => ?_) (by rfl) ?_
  · obtain ⟨x, t, rfl⟩ := h3 f hm
    exact PySem.W.Looks.now
  · rw [show (Value.type "str" != Value.type "tuple") = true by decide]
    exact hq
end
end TO

set_option Elab.async false
set_option linter.all false
set_option maxRecDepth 100000
/-! EL14: a def's own sets of texts and of tuples of texts; sorted(..) of texts and of pairs of texts -/
namespace DL
open PySem PySem.Spec PyProof.Rows L2 TL TX TO
/-! ### the sets as tracked things -/
def txO (w : World) (xs : List Str) (a : Addr) : HO := .ext fun h => Tset w h a xs
def psO (w : World) (L : List (Addr × List Str)) (a : Addr) : HO := .ext fun h => ∃ es ep t, PS.At w h a L es ep t
theorem txO_new {w : World} {P : Program} {H : Hp} {h : Heap} {a : Addr} {xs : List Str} (R : Tset w h a xs) : ObjOk P w H h a (txO w xs a) :=
  ⟨R, (let ⟨_, e, _⟩ := R; ⟨_, e⟩), fun _ _ p k => p.keep k⟩
theorem psO_new {w : World} {P : Program} {H : Hp} {h : Heap} {a : Addr} {L : List (Addr × List Str)} (R : ∃ es ep t, PS.At w h a L es ep t) : ObjOk P w H h a (psO w L a) :=
  ⟨R, (let ⟨_, _, _, T⟩ := R; let ⟨_, e, _⟩ := T.obj; ⟨_, e⟩), fun _ _ ⟨es, ep, t, T⟩ k => ⟨es, ep, t, (let ⟨o, e, r⟩ := T.obj; ⟨o, k o e, r⟩), T.lies, T.tab, T.once, T.room⟩⟩
section
variable {X : Cx} {pins : List (Addr × Obj)} {σ : L2.St} {H : Hp} {s : Shared} {a : Addr} {xs : List Str} {L : List (Addr × List Str)}
theorem txO_get (I : Inv X pins σ H s) (e : H a = some (txO X.w xs a)) : Tset X.w s.heap a xs := (I.hok a _ e).1
theorem psO_get (I : Inv X pins σ H s) (e : H a = some (psO X.w L a)) : ∃ es ep t, PS.At X.w s.heap a L es ep t := (I.hok a _ e).1
theorem items_txt {P : Program} {w : World} : ∀ {ks : List Str} {us : List Value}, Vals (ks.map V.str) us → ItemsAre (PySem.strKind P w) ks us
  | [], us, r => by cases r; exact .nil
  | k :: ks, us, r => by
    cases r with
    | cons r1 r2 =>
      obtain ⟨t, rfl⟩ := r1
      exact .cons (Froz.is_str (P := P) (w := w) k t) (items_txt r2)
theorem tt_of (I : Inv X pins σ H s) {ks : List Str} {b : Addr} (h : SqT X.K H b (ks.map V.str)) : PS.Tt X.prog X.w s.heap ks b := by
  obtain ⟨its, rv, ⟨o, e1, e2, n, e3⟩, _⟩ := I.tuple h
  exact ⟨o, _, n, e1, e2, e3, by simpa using items_txt rv⟩
/-- a set stands there -/
def SetThere (H : Hp) (a : Addr) : Prop := (∃ w xs, H a = some (txO w xs a)) ∨ ∃ w L, H a = some (psO w L a)
theorem set_there {I : Inv X pins σ H s} (h : SetThere H a) : ∃ o, s.heap.get? a = some o ∧ o.ExactSet := by
  rcases h with ⟨w, xs, e⟩ | ⟨w, L, e⟩
  · obtain ⟨⟨D, e1, _⟩, _⟩ := I.hok a _ e
    exact ⟨_, e1, rfl, rfl, rfl⟩
  · obtain ⟨⟨_, _, _, T⟩, _⟩ := I.hok a _ e
    obtain ⟨o, e1, e2, _⟩ := T.obj
    exact ⟨o, e1, e2⟩
/-! ### set() -/
def rTx0 (w : World) : List V → Hp → VK → Prop := fun xs H Q => xs = [] ∧ ∀ p, H p = none → Q (.ref p) (upd H p (txO w [] p))
theorem cr_tx0 : CallR X (.type "set") (rTx0 X.w) := by
  intro pins s σ H xs us Q I r h
  obtain ⟨rfl, q⟩ := h
  cases r
  exact setR_new fun _ => ⟨.ref _, upd H s.heap.objs.size (txO X.w [] s.heap.objs.size), I.laid (t' := s.toks) (fun b u e => Heap.get?_push_of_some _ e) (Nat.le_refl _) (txO_new (tset_new s.heap)), rfl, q _ (I.hok.fresh (Nat.le_refl _))⟩
def rPs0 (w : World) : List V → Hp → VK → Prop := fun xs H Q => xs = [] ∧ ∀ p, H p = none → Q (.ref p) (upd H p (psO w [] p))
theorem ps_new {w : World} (h : Heap) : PS.At w (h.push { cls := .type "set", dict := none, data := .set #[] 0 (.fresh 0 0 (!w.params.followText "set-order")) }) h.objs.size [] #[] 0 (.fresh 0 0 (!w.params.followText "set-order")) :=
  ⟨⟨_, Heap.get?_push_size _ rfl, ⟨rfl, rfl, rfl⟩, rfl⟩, rfl, ⟨List.Pairwise.nil, rfl, rfl, .inl rfl, fun x hx => absurd hx (by simp [SetTable.fresh]), fun i h j e => absurd e (by simp)⟩, List.nodup_nil, (by show 0 * 5 < 7 * 3; decide)⟩
theorem cr_ps0 : CallR X (.type "set") (rPs0 X.w) := by
  intro pins s σ H xs us Q I r h
  obtain ⟨rfl, q⟩ := h
  cases r
  exact setR_new fun _ => ⟨.ref _, upd H s.heap.objs.size (psO X.w [] s.heap.objs.size), I.laid (t' := s.toks) (fun b u e => Heap.get?_push_of_some _ e) (Nat.le_refl _) (psO_new ⟨_, _, _, ps_new s.heap⟩), rfl, q _ (I.hok.fresh (Nat.le_refl _))⟩
/-! ### x.add(e) -/
def rTxAdd (w : World) : V → List V → Hp → VK → Prop := fun x ys H Q => ∃ a k xs, x = V.ref a ∧ ys = [V.str k] ∧ H a = some (txO w xs a) ∧ xs.length + 1 < 4096 ∧ Q .non (upd H a (txO w (if k ∈ xs then xs else k :: xs) a))
theorem mt_txAdd : MtR X "set.add" (rTxAdd X.w) := by
  intro pins s σ H x ys v us Q I rx rys h
  obtain ⟨a, k, xs, rfl, rfl, ha, room, q⟩ := h
  cases rx
  cases rys with
  | cons ry rt =>
    cases rt
    obtain ⟨t, rfl⟩ := ry
    refine add_tx (txO_get I ha) room fun h' sb new => ?_
    have he : ∃ u, h'.get? a = some u := let ⟨_, e, _⟩ := new; ⟨_, e⟩
    exact ⟨.non, _, I.write (e := a) (t' := s.toks + 1) (by rw [ha]; trivial) (.inl rfl) (fun b u hb hu => (sb.2 b hb).trans hu) he (txO_new new), rfl, q⟩
def rPsAdd (K : PySem.W.Frag) (w : World) : V → List V → Hp → VK → Prop := fun x ys H Q => ∃ a b k L, x = V.ref a ∧ ys = [V.ref b] ∧ H a = some (psO w L a) ∧ SqT K H b (k.map V.str) ∧ (∀ q ∈ L, SqT K H q.1 (q.2.map V.str)) ∧ L.length < 76 ∧
  ∀ L', (k ∈ L.map (·.2) → L' = L) → (k ∉ L.map (·.2) → L'.Perm ((b, k) :: L)) → Q .non (upd H a (psO w L' a))
theorem mt_psAdd (hu : X.A.units + 64 < cLine) : MtR X "set.add" (rPsAdd X.K X.w) := by
  intro pins s σ H x ys v us Q I rx rys h
  obtain ⟨a, b, k, L, rfl, rfl, ha, hb, hL, few, q⟩ := h
  cases rx
  cases rys with
  | cons ry rt =>
    cases rt
    cases ry
    obtain ⟨es, ep, t, T⟩ := psO_get I ha
    have hk := tt_of I hb
    obtain ⟨o, ho, hex, hd⟩ := id T.obj
    have isS : s.TypeIs (.ref a) "set" := ⟨o, ho, hex.1⟩
    refine wpAny_call_entry PySem.F.slot_set_add isS PySem.F.entry_set_add ?_ (PySem.F.args_set_add_2 _ _)
    unfold Builtin.«set.add» Builtin.Frozenset.oneOther
    simp only [List.isEmpty_nil, bind_assoc]
    unfold Builtin.Frozenset.addrOf setAdd
    refine wpAny_bind (wpAny_pure (wpAny_bind (wpAny_pure (wpAny_bind (wpAny_holding (wpAny_bind (wpAny_pyHash_tuple (by first | (show X.A.units + _ < cLine; omega) | (simp [Around.in1]; omega) | omega) hk ?_)))))))
    have I1 := I.tok (s.toks + (k.length + 1))
    refine PS.add_to (s := { s with toks := s.toks + (k.length + 1) }) T (fun q hq => tt_of I (hL q hq)) hk (by first | (show X.A.units + _ < cLine; omega) | omega) few fun r h' L' es' ep' t' sb T' k1 k2 => ?_
    have he : ∃ u, h'.get? a = some u := let ⟨_, e, _⟩ := T'.obj; ⟨_, e⟩
    exact wpAny_pure ⟨_, rfl, .non, _, I.write (e := a) (t' := s.toks + (k.length + 1)) (by rw [ha]; trivial) (.inl rfl) (fun b u hb hu => (sb.2 b hb).trans hu) he (psO_new ⟨_, _, _, T'⟩), rfl, q L' k1 k2⟩
def tSetAdd (r : V → List V → Hp → VK → Prop) (to : TE) (t : TA) : TE := fun σ H Q => to σ H fun x H1 => (∃ a, x = V.ref a ∧ SetThere H1 a) ∧ t σ H1 fun xs H2 => r x xs H2 Q
theorem pe_setAdd {r : V → List V → Hp → VK → Prop} (hm : MtR X "set.add" r) {o e : Expr} {es : List Expr} {to : TE} {t : TA} {apos cpos : Pos} (ho : PE X o to) (ha : PA X (e :: es) t)
    (hbase : attributeBase o "add" X.env (eval o X.env) = eval o X.env := by rfl)
    (hfew : ((backTo cpos (starEach (e :: es) X.env)).all (fun x => !x.1) && (backToKw cpos (keywordEach [] X.env)).all (fun x => x.1.isSome) && decide ((e :: es).length + ([] : List Keyword).length + (if ([] : List Keyword).isEmpty then 0 else 1) < 30)) = true := by rfl)
    (hline : (apos.endLine == cpos.line) = true := by rfl) (hs : starEach (e :: es) X.env = (false, eval e X.env) :: starEach es X.env := by rfl) (hpl : (backTo cpos (starEach es X.env)).any (·.1) = false := by rfl) :
    PE X (.Call (.Attribute o "add" apos) (e :: es) [] cpos) (tSetAdd r to t) := by
  refine ⟨fun pins s σ H Q I h => wpAny_Call_method_late hbase hfew hline rfl (thn (ho.run pins s σ H _ I h) fun v s1 ⟨x, H1, I1, r1, ⟨a, ex, th⟩, q1⟩ => ?_)⟩
  subst ex
  obtain ⟨ob, e1, e2⟩ := set_there (I := I1) th
  cases r1
  refine ⟨"set", "set.add", PySem.F.plainAttrs_set, PySem.F.slot_set_add, PySem.F.type_set_add, ⟨ob, e1, e2.1⟩, fun b eb => by cases eb; exact ⟨ob, e1, e2.2.1⟩, ?_⟩
  have run := ha.run cpos pins s1 σ H1 _ I1 q1
  rw [hs] at run ⊢
  exact Calls.callWith_builtin (by show (false || (backTo cpos (starEach es X.env)).any (·.1)) = false; rw [hpl]; rfl) (Calls.evalArgs_plain (thn run fun us s2 ⟨vs, H2, I2, r2, q2⟩ => hm pins s2 σ H2 (.ref a) vs (.ref a) us Q I2 rfl r2 q2))
/-! ### e in x, e not in x, x a set of tuples of texts -/
theorem holds_ps (hu : X.A.units + 64 < cLine) (I : Inv X pins σ H s) {b : Addr} {k : List Str} (ha : H a = some (psO X.w L a)) (hb : SqT X.K H b (k.map V.str)) (hL : ∀ q ∈ L, SqT X.K H q.1 (q.2.map V.str)) {Q : Bool → Shared → Prop} {E : Value → Shared → Prop}
    (q : ∀ n, Q (decide (k ∈ L.map (·.2))) { s with toks := n }) : wpAny (model X.prog X.w) X.A (contains (.ref a) (.ref b)) Q E s := by
  obtain ⟨es, ep, t, T⟩ := psO_get I ha
  have hk := tt_of I hb
  obtain ⟨o, ho, hex, hd⟩ := id T.obj
  have isS : s.TypeIs (.ref a) "set" := ⟨o, ho, hex.1⟩
  unfold contains
  refine wpAny_holding (wpAny_bind (wpAny_specialOf isS PySem.F.slot_set_contains.lookup (wp_if_neg (by rw [beq_builtin_none]; exact Bool.false_ne_true) ?_)))
  refine wpAny_bind (wpAny_callSpecialUnlessNone?_slot (name := Str.ofString "__contains__") isS PySem.F.slot_set_contains (wpAny_call_entry PySem.F.slot_set_contains isS entry_set_contains ?_ (PySem.F.args_set_contains_2 _ _)))
  unfold Builtin.«frozenset.__contains__» Builtin.Frozenset.oneOther
  simp only [List.isEmpty_nil, bind_assoc]
  unfold Builtin.Frozenset.addrOf Builtin.Frozenset.withSetAsKey setContains
  refine wpAny_bind (wpAny_pure (wpAny_bind (wpAny_pure (wpAny_bind (wpAny_tryCatch (wpAny_holding (wpAny_bind (wpAny_pyHash_tuple (by first | (show X.A.units + _ < cLine; omega) | (simp [Around.in1]; omega) | omega) hk ?_))))))))
  refine wpAny_bind (PS.find_plain (s := { s with toks := s.toks + (k.length + 1) }) T (fun q hq => tt_of I (hL q hq)) hk (by first | (show X.A.units + _ < cLine; omega) | omega) fun r hr => wpAny_pure ?_)
  show wpAny _ _ (ret (Value.bool r.isSome)) _ _ _
  rw [hr]
  exact wpAny_pure ⟨_, rfl, wpAny_truthy_bool (q _)⟩
def rPsIn (K : PySem.W.Frag) (w : World) (neg : Bool) : R2 := fun x y H Q => ∃ a b k L, x = V.ref b ∧ y = V.ref a ∧ H a = some (psO w L a) ∧ SqT K H b (k.map V.str) ∧ (∀ q ∈ L, SqT K H q.1 (q.2.map V.str)) ∧ Q (.bl (neg ^^ decide (k ∈ L.map (·.2)))) H
theorem op_psIn (hu : X.A.units + 64 < cLine) : OpR X (compareOp .In) (rPsIn X.K X.w false) := by
  intro pins s σ H x y v u Q I rx ry h
  obtain ⟨a, b, k, L, rfl, rfl, ha, hb, hL, q⟩ := h
  cases rx
  cases ry
  rw [Bool.false_xor] at q
  show wpAny _ _ (do return Value.bool (← contains (.ref a) (.ref b))) _ _ s
  exact wpAny_bind (holds_ps hu I ha hb hL fun n => wpAny_pure ⟨.bl _, H, I.tok n, rfl, q⟩)
/-! ### sorted(x), x a set of texts -/
theorem strs_of : ∀ (vs : List Value), (∀ v ∈ vs, ∃ x t, v = Value.str x t) → StrsAre vs (vs.map sv)
  | [], _ => .nil
  | v :: vs, h => by
    obtain ⟨x, t, rfl⟩ := h v List.mem_cons_self
    exact .cons x t (strs_of vs fun u hu => h u (List.mem_cons_of_mem _ hu))
theorem vals_strs : ∀ {vs : List Value} {xs : List Str}, StrsAre vs xs → Vals (xs.map V.str) vs
  | _, _, .nil => .nil
  | _, _, .cons y t r => .cons ⟨t, rfl⟩ (vals_strs r)
theorem strs_vals : ∀ {xs : List Str} {vs : List Value}, Vals (xs.map V.str) vs → StrsAre vs xs
  | [], vs, r => by cases r; exact .nil
  | x :: xs, vs, r => by
    cases r with
    | cons r1 r2 =>
      obtain ⟨t, rfl⟩ := r1
      exact .cons x t (strs_vals r2)
theorem sv_strs : ∀ {vs : List Value} {xs : List Str}, StrsAre vs xs → vs.map sv = xs
  | _, _, .nil => rfl
  | _, _, .cons y t r => congrArg (y :: ·) (sv_strs r)
theorem out_texts {vs out : List Value} {xs : List Str} (h : StrsAre vs xs) (hs : SrtO.Srtd (fun v u => lessS (sv v) (sv u)) out) (hb : SrtO.Stb (fun v u => lessS (sv v) (sv u)) out vs) : StrsAre out (srt lessS xs) := by
  have st : ∀ v ∈ out, ∃ x t, v = Value.str x t := fun v hv => h.all v (hb.perm.mem_iff.mp hv)
  have e : out.map sv = srt lessS xs := by
    refine srt_eq linS ?_ (List.pairwise_map.mpr hs)
    have z := hb.perm.map sv
    rw [sv_strs h] at z; exact z
  rw [← e]; exact strs_of out st
theorem perm_sub {α : Type} [DecidableEq α] : ∀ {xs ys : List α}, xs.Nodup → (∀ k ∈ xs, k ∈ ys) → ys.length ≤ xs.length → ys.Perm xs
  | [], ys, _, _, h => by rw [List.eq_nil_of_length_eq_zero (Nat.le_zero.mp h)]
  | x :: xs, ys, nd, sub, h => by
    obtain ⟨n1, n2⟩ := List.nodup_cons.mp nd
    have hx := sub x List.mem_cons_self
    have pe := List.perm_cons_erase hx
    refine pe.trans ((perm_sub n2 (fun k hk => ?_) ?_).cons x)
    · have z := pe.mem_iff.mp (sub k (List.mem_cons_of_mem _ hk))
      rcases List.mem_cons.mp z with e | z
      · exact absurd (e ▸ hk) n1
      · exact z
    · have l := pe.length_eq
      rw [List.length_cons] at l h; omega
def rTxSorted (w : World) : List V → Hp → VK → Prop := fun vs H Q => ∃ a xs, vs = [V.ref a] ∧ H a = some (txO w xs a) ∧ xs.length < 4096 ∧ ∀ p, H p = none → Q (.ref p) (upd H p (.lst ((srt lessS xs).map V.str)))
theorem cr_txSorted (hc : X.calm = true) : CallR X (.builtin "sorted") (rTxSorted X.w) := by
  intro pins s σ H vs us Q I r h
  obtain ⟨a, xs, rfl, ha, few, q⟩ := h
  rw [Vals.ref1 r]
  obtain ⟨⟨es, ep, t⟩, e, T, nd, ri, le⟩ := txO_get I ha
  obtain ⟨el, mem, sz, fit⟩ := T X.prog
  dsimp only at el mem sz fit ri le
  refine Calls.call_function_entry kind_sorted plain_sorted entry_sorted (args_sorted1 _) ?_
  unfold Builtin.«sorted»
  refine wpAny_bind (m := checkCount "sorted" 1 1 _) (wpAny_pure (wpAny_bind (collect_set (A := X.A.in1) (I.ok.hd hc) ⟨_, e, rfl, rfl⟩ fit (by rw [sz]; exact few) ri le fun s1 vs k1 hz g1 o1 pm => ?_)))
  have all : ∀ v ∈ vs, ∃ x t, v = Value.str x t := fun v hv => by
    obtain ⟨e0, h0, rfl⟩ := List.mem_map.mp (pm.mem_iff.mp hv)
    obtain ⟨⟨k, hk, _⟩, _⟩ := el e0 h0
    obtain ⟨t, e⟩ := Value.isStrOf_shape hk
    exact ⟨k, t, e⟩
  have len : vs.length = xs.length := by rw [pm.length_eq, List.length_map, Array.length_toList]; exact sz
  have mm : ∀ k, k ∈ vs.map sv ↔ k ∈ xs := fun k => by
    rw [mem k, List.mem_map]
    constructor
    · rintro ⟨v, hv, rfl⟩
      obtain ⟨e0, h0, rfl⟩ := List.mem_map.mp (pm.mem_iff.mp hv)
      obtain ⟨x, t, ex⟩ := all _ hv
      exact ⟨e0, h0, by rw [ex]; exact Froz.is_str (P := X.prog) (w := X.w) x t⟩
    · rintro ⟨e0, h0, hk⟩
      obtain ⟨t, ex⟩ := Value.isStrOf_shape hk
      exact ⟨e0.2, pm.mem_iff.mpr (List.mem_map.mpr ⟨e0, h0, rfl⟩), by rw [ex]; rfl⟩
  have pmx : (vs.map sv).Perm xs := by
    refine perm_sub nd (fun k hk => (mm k).mpr hk) ?_
    rw [List.length_map, len]; exact Nat.le_refl _
  have hS := strs_of vs all
  refine wpAny_bind (wpAny_newList ?_ (by rw [len, sizeLine_eq]; omega))
  have hoL : (s1.heap.push (seqObj "list" vs.toArray 0)).get? s1.heap.objs.size = some (seqObj "list" vs.toArray 0) := Heap.get?_push_size _ rfl
  refine wpAny_bind (wpAny_holding (wpAny_call_entry slot_list_sort ⟨_, hoL, rfl⟩ entry_list_sort (SrtO.list_sort_ord (s := { s1 with heap := s1.heap.push (seqObj "list" vs.toArray 0) }) (swo_by linS sv) hoL (by rw [len, sizeLine_eq]; omega) (fun h2 => texts_sortable hS h2) fun out h1 h2 => ⟨_, rfl, ?_⟩) (args_list_sort _)))
  obtain ⟨c, hc'⟩ := sortedHeap_at (vs := vs) (out := out.toArray) hoL
  have fin := out_texts hS h1 h2
  rw [srt_congr linS pmx] at fin
  have hn : H s1.heap.objs.size = none := I.hok.fresh hz
  have old : ∀ b u, s.heap.get? b = some u → (sortedHeap (s1.heap.push (seqObj "list" vs.toArray 0)) s1.heap.objs.size vs out.toArray).get? b = some u := fun b u eb => by
    have z := k1 b u eb
    have lt := Heap.lt_size z
    rw [sortedHeap_old (Nat.ne_of_lt lt) (by rw [size_push']; exact Nat.lt_succ_of_lt lt)]
    exact Heap.get?_push_of_some _ z
  have J : Inv X pins σ (upd H s1.heap.objs.size (.lst ((srt lessS xs).map V.str))) { s with heap := sortedHeap (s1.heap.push (seqObj "list" vs.toArray 0)) s1.heap.objs.size vs out.toArray, gens := s1.gens, drawn := s1.drawn, toks := s1.toks } :=
    I.call (ch := []) (Un.laid old hz hn) (I.hok.laid old hz ⟨by rw [List.length_map, srt_len, sizeLine_eq]; omega, out, c, vals_strs fin, hc'⟩) (by rw [g1]; exact I.bare) (fun _ z => nomatch z)
  refine wpAny_pure ⟨_, rfl, .ref s1.heap.objs.size, _, ?_, rfl, q _ hn⟩
  have e2 : ({ s1 with heap := sortedHeap (s1.heap.push (seqObj "list" vs.toArray 0)) s1.heap.objs.size vs out.toArray } : Shared) = { s with heap := sortedHeap (s1.heap.push (seqObj "list" vs.toArray 0)) s1.heap.objs.size vs out.toArray, gens := s1.gens, drawn := s1.drawn, toks := s1.toks } := by
    cases s1; cases s; cases o1; rfl
  first | exact e2 ▸ J | (show Inv X pins σ _ _; rw [← e2] at J; exact J)
end
end DL

set_option Elab.async false
set_option linter.all false
set_option maxRecDepth 100000
set_option maxHeartbeats 3200000
/-! SF: set(xs) of a list or a tuple, by what stands behind each item -/
namespace SF
open PySem PySem.Spec PyProof.Rows L2
/-- a new set -/
abbrev ns0 (w : World) : Obj := { cls := .type "set", dict := none, data := .set #[] 0 (.fresh 0 0 (!w.params.followText "set-order")) }
section
variable {P : Program} {w : World} {A : Around} {E : Value → Shared → Prop}
/-- what is asked of the states behind each item: S the set's place, h0 the heap ahead of all -/
structure Grows (P : Program) (w : World) (A : Around) (E : Value → Shared → Prop) (h0 : Heap) (S : Addr) (items : Array Value) (R : Nat → Heap → Prop) : Prop where
  keep : ∀ i h h', R i h → (∀ o, h.get? S = some o → h'.get? S = some o) → R i h'
  step : ∀ (i : Nat) (v : Value) (s' : Shared) (Q : Bool → Shared → Prop), items[i]? = some v → (∀ b o, h0.get? b = some o → s'.heap.get? b = some o) → R i s'.heap →
    (∀ b h' tk, Heap.SameBut S s'.heap h' → s'.toks ≤ tk → R (i + 1) h' → Q b { s' with heap := h', toks := tk }) → wpAny (model P w) A (setAdd S v) Q E s'
variable {h0 : Heap} {S I : Addr} {items : Array Value} {R : Nat → Heap → Prop} {fp wr : List Addr} {G : Array GenState → Array GenState → Prop} {St : Nat → Shared → Prop} {Z : Result → Shared → Prop}
theorem loop_by (W : WalksS P w A.in1 I fp wr G items.size (fun i v => items[i]? = some v) St) (g : Grows P w A.in1 (fun _ _ => False) h0 S items R) (out : S ∉ fp) (low : ∀ b o, h0.get? b = some o → b ≠ S ∧ b ∉ wr) (fine : ∀ e s', False → Z (.error e) s') :
    ∀ (left i : Nat) (s : Shared), i + left = items.size → St i s → (∀ b o, h0.get? b = some o → s.heap.get? b = some o) → R i s.heap →
      (∀ s', Moved (S :: wr) G s s' → R items.size s'.heap → Z (.ok (.ret .none)) s') → codeAny (model P w) A (.builtin "set.update.loop" ⟨[.ref S, .ref I], []⟩) Z s
  | left, i, s, hi, hst, old, hR, fin => by
    have Sw : S ∉ wr := fun z => out (W.sub _ z)
    have sub : ∀ b ∈ wr, b ∈ S :: wr := fun b hb => List.mem_cons_of_mem _ hb
    refine codeAny_builtin PyProof.Rows.F.entry_set_update_loop ?_
    rw [Around.under_plainId PyProof.Rows.F.plain_set_update_loop _]
    match left, hi with
    | 0, hi =>
      have e : i = items.size := hi
      subst e
      refine wpAny_bind (W.done s _ _ hst fun s' hm => ?_)
      exact wpAny_pure (fin s' (hm.mono sub) (g.keep _ _ _ hR fun o e => hm.heap S o Sw e))
    | left + 1, hi =>
      refine wpAny_bind (W.item i s _ _ (by omega) hst fun v s' hv hst' hm => ?_)
      have hR' := g.keep _ _ _ hR fun o e => hm.heap S o Sw e
      have old' : ∀ b o, h0.get? b = some o → s'.heap.get? b = some o := fun b o e => hm.heap b o (low b o e).2 (old b o e)
      refine wpAny_bind (wpAny_holding (wpAny_mono (g.step i v s' (fun b s2 => ∃ h' tk, s2 = { s' with heap := h', toks := tk } ∧ Heap.SameBut S s'.heap h' ∧ s'.toks ≤ tk ∧ R (i + 1) h') hv old' hR' fun b h' tk sb ht r => ⟨h', tk, rfl, sb, ht, r⟩) (fun b s2 z => ?_) fun e s2 z => fine e s2 z))
      obtain ⟨h', tk, rfl, sb, ht, r⟩ := z
      refine wpAny_pure ⟨plainId_quiet PyProof.Rows.F.plain_set_update_loop _, loop_by W g out low fine left (i + 1) _ (by omega) (W.frame _ s' _ _ hst' ht fun b hb o e => ?_) (fun b o e => ?_) r fun s'' hm'' r'' => ?_⟩
      · rw [sb.2 b fun z => out (z ▸ hb)]; exact e
      · show h'.get? b = some o
        rw [sb.2 b (low b o e).1]; exact old' b o e
      · refine fin s'' (Moved.trans W.gtrans ((hm.mono sub).then_heap ht fun b o hb e => ?_) hm'') r''
        rw [sb.2 b fun z => hb (z ▸ List.mem_cons_self)]; exact e
/-- set(l): the set stands at a new place -/
theorem made {s : Shared} {l : Addr} {tn : String} (htn : tn = "list" ∨ tn = "tuple") (hh : A.handled = none) (hl : ∃ o n, s.heap.get? l = some o ∧ o.cls = .type tn ∧ o.data = .seq items n) (g : Grows P w A.in1.in1.in1 (fun _ _ => False) s.heap s.heap.objs.size items R)
    (r0 : ∀ h : Heap, h.get? s.heap.objs.size = some (ns0 w) → R 0 h) {Q : Value → Shared → Prop}
    (q : ∀ h' tk, R items.size h' → (∀ b o, s.heap.get? b = some o → h'.get? b = some o) → Q (.ref s.heap.objs.size) { s with heap := h', toks := tk }) : wpAny (model P w) A (call (.type "set") [.ref l]) Q E s := by
  obtain ⟨c, tl, hmro⟩ := PySem.F.called_set.mro
  have f1 := PySem.F.called_set.made
  have f2 := PySem.F.called_set.sub
  refine wpAny_call (codeAny_of_tree ?_)
  show wpAny _ _ (callAny (.type "set") _) _ _ _
  refine wpAny_pure ⟨Code.quiet_builtin _ (by decide +kernel), codeAny_builtin PySem.F.entry_type_call ?_⟩
  rw [Around.under_plain (weight_type_call_type "set" [.ref l] []) rfl]
  have f3 := PySem.F.called_set.notType
  have f4 := PySem.F.called_set.canCreate
  have f5 := PySem.F.typeCall_set_1 (.ref l)
  repeat (any_goals (first | assumption | wp_step))
  refine codeAny_mono (code_set_led1 (.ref l) (E := E) (Q₁ := fun obj s₁ => obj = .ref s.heap.objs.size ∧ s₁ = { s with heap := s.heap.push (ns0 w) }) ⟨rfl, rfl⟩) fun r s₁ hr => ?_
  rcases r with e | (_ | _ | _ | obj)
  · exact hr
  · exact hr.elim
  · exact hr.elim
  · exact hr.elim
  · obtain ⟨rfl, rfl⟩ := hr
    have atS : (s.heap.push (ns0 w)).get? s.heap.objs.size = some (ns0 w) := Heap.get?_push_size _ rfl
    have tyS : Shared.TypeIs { s with heap := s.heap.push (ns0 w) } (.ref s.heap.objs.size) "set" := ⟨_, atS, rfl⟩
    have f6 := PySem.F.called_set.init.lookup
    have f7 := PySem.F.called_set.init.bind (.ref s.heap.objs.size)
    repeat (any_goals (first | assumption | wp_step))
    refine codeAny_mono (codeAny_call_builtin (R := wants (fun r s₂ => r = .none ∧ ∃ h' tk, s₂ = { s with heap := h', toks := tk } ∧ R items.size h' ∧ (∀ b o, s.heap.get? b = some o → h'.get? b = some o)) E) PySem.F.called_set.init.plain PySem.F.entry_set_init (check_set_init_1 tyS ?_)) fun r₂ s₂ hr₂ => ?_
    · obtain ⟨ol, nl, hol, hcl, hdl⟩ := hl
      have lS : l < s.heap.objs.size := Heap.lt_size hol
      obtain ⟨ocls, odict, odata, oslots⟩ := ol
      dsimp only at hcl hdl
      subst hcl
      subst hdl
      have hol2 : (s.heap.push (ns0 w)).get? l = some { cls := .type tn, dict := odict, data := .seq items nl, slots := oslots } := Heap.get?_push_of_some _ hol
      have sz : (s.heap.push (ns0 w)).objs.size = s.heap.objs.size + 1 := Heap.size_push ..
      have neI : l ≠ (s.heap.push (ns0 w)).objs.size := by rw [sz]; exact Nat.ne_of_lt (Nat.lt_succ_of_lt lS)
      have out : s.heap.objs.size ∉ [(s.heap.push (ns0 w)).objs.size, l] := by
        rw [sz]
        intro z
        rcases List.mem_cons.mp z with z | z
        · exact absurd z (Nat.ne_of_lt (Nat.lt_succ_self _))
        · exact absurd (List.mem_singleton.mp z) (Nat.ne_of_gt lS)
      have h3 : A.in1.in1.in1.handled = none := by simp [hh]
      have low : ∀ b o, s.heap.get? b = some o → b ≠ s.heap.objs.size ∧ b ∉ [(s.heap.push (ns0 w)).objs.size] := fun b o e => by
        have lb := Heap.lt_size e
        rw [sz]
        exact ⟨Nat.ne_of_lt lb, fun z => absurd (List.mem_singleton.mp z) (Nat.ne_of_lt (Nat.lt_succ_of_lt lb))⟩
      have fin : ∀ (itn : Obj) (s' : Shared), Moved [s.heap.objs.size, (s.heap.push (ns0 w)).objs.size] Eq { s with heap := (s.heap.push (ns0 w)).push itn } s' → R items.size s'.heap →
          ∃ h' tk, s' = { s with heap := h', toks := tk } ∧ R items.size h' ∧ (∀ b o, s.heap.get? b = some o → h'.get? b = some o) := fun itn s' hm r => by
        obtain ⟨h', g2, d', tk', os'⟩ := s'
        have e1 : s.gens = g2 := hm.gens
        have e2 : d' = s.drawn := hm.drawn
        have e3 : os' = s.os := hm.os
        subst e1; subst e2; subst e3
        refine ⟨h', tk', rfl, r, fun b o e => hm.heap b o ?_ (Heap.get?_push_of_some _ (Heap.get?_push_of_some _ e))⟩
        have lb := Heap.lt_size e
        rw [sz]
        intro z
        rcases List.mem_cons.mp z with z | z
        · exact absurd z (Nat.ne_of_lt lb)
        · exact absurd (List.mem_singleton.mp z) (Nat.ne_of_lt (Nat.lt_succ_of_lt lb))
      have g' : Grows P w A.in1.in1.in1 (fun _ _ => False) s.heap s.heap.objs.size items R := g
      have sub1 : isSubtype (.type tn) (.type "set") = pure false := by
        rcases htn with rfl | rfl
        · exact PySem.F.sub_list_set
        · exact PySem.F.sub_tuple_set
      have sub2 : isSubtype (.type tn) (.type "frozenset") = pure false := by
        rcases htn with rfl | rfl
        · exact PySem.F.sub_list_frozenset
        · exact PySem.F.sub_tuple_frozenset
      have ne1 : (Value.type tn == Value.type "dict") = false := by rcases htn with rfl | rfl <;> decide
      unfold Builtin.«set.__init__» noKeywords Builtin.Frozenset.updateFrom
      generalize hPI : pyIter = PI
      wp_walk
      subst hPI
      rcases htn with rfl | rfl
      · have hl1 : (s.heap.push (ns0 w)).IsList l items := ⟨_, hol2, rfl, nl, rfl⟩
        refine wpAny_pyIter_list hl1 (wpAny_bind (wpAny_runValue ?_))
        refine loop_by ((Walks.list h3 _ l neI items).toS) g' out low (fun e s' z => z.elim) items.size 0 _ (by omega) ⟨⟨_, Heap.get?_push_size _ rfl, rfl, rfl⟩, (hl1.push _)⟩ (fun b o e => Heap.get?_push_of_some _ (Heap.get?_push_of_some _ e)) (r0 _ (Heap.get?_push_of_some _ atS)) fun s' hm r => ?_
        obtain ⟨h', tk', rfl, r', old⟩ := fin _ s' ⟨hm.heap, hm.gens.symm, hm.drawn, hm.os, hm.toks⟩ r
        exact wpAny_pure (wpAny_pure ⟨rfl, h', tk', rfl, r', old⟩)
      · have hl1 : (s.heap.push (ns0 w)).IsTuple l items := ⟨_, hol2, rfl, nl, rfl⟩
        refine wpAny_pyIter_tuple hl1 (wpAny_bind (wpAny_runValue ?_))
        refine loop_by ((Walks.tuple h3 _ l neI items).toS) g' out low (fun e s' z => z.elim) items.size 0 _ (by omega) ⟨⟨_, Heap.get?_push_size _ rfl, rfl, rfl⟩, (hl1.push _)⟩ (fun b o e => Heap.get?_push_of_some _ (Heap.get?_push_of_some _ e)) (r0 _ (Heap.get?_push_of_some _ atS)) fun s' hm r => ?_
        obtain ⟨h', tk', rfl, r', old⟩ := fin _ s' ⟨hm.heap, hm.gens.symm, hm.drawn, hm.os, hm.toks⟩ r
        exact wpAny_pure (wpAny_pure ⟨rfl, h', tk', rfl, r', old⟩)
    · rcases r₂ with e | (_ | _ | _ | r)
      · exact hr₂
      · exact hr₂.elim
      · exact hr₂.elim
      · exact hr₂.elim
      · obtain ⟨rfl, h', tk, rfl, r, old⟩ := hr₂
        repeat (any_goals (first | assumption | wp_step))
        exact q _ _ r old
end
end SF

set_option Elab.async false
set_option linter.all false
set_option maxRecDepth 100000
/-! EL15: sorted(..) of lists and tuples of texts and of pairs of texts; the rules for own sets, over data -/
namespace DL
open PySem PySem.Spec PyProof.Rows L2 TL TX TO
section
variable {X : Cx} {pins : List (Addr × Obj)} {σ : L2.St} {H : Hp} {s : Shared}
/-- a list or a tuple -/
def SqA (K : PySem.W.Frag) (H : Hp) (a : Addr) (xs : List V) : Prop := SqL K H a xs ∨ SqT K H a xs
theorem sorted_any2 {A : Around} {E : Value → Shared → Prop} {a : Addr} {ys : List V} {its : List Value} {ltv : Value → Value → Bool} {Q : Value → Shared → Prop} (O : SrtO.Swo ltv)
    (h : (s.heap.IsList a its.toArray) ∨ IsTup s.heap a its.toArray) (hz : its.length ≤ sizeLine)
    (cmp : 2 ≤ its.length → ∀ (h₁ : Heap) (a : Addr), h₁.get? a = some (seqObj "list" its.toArray 0) → (∀ b o, s.heap.get? b = some o → b ≠ a ∧ h₁.get? b = some o) → SrtO.SortableO X.prog X.w A.in1.in1 { s with heap := h₁ } a its ltv)
    (q : ∀ out : List Value, SrtO.Srtd ltv out → SrtO.Stb ltv out its → Q (.ref (s.heap.objs.size + 1)) { s with heap := sortedAll s.heap its out.toArray }) : wpAny (model X.prog X.w) A (call (.builtin "sorted") [.ref a]) Q E s := by
  rcases h with h | h
  · exact SrtO.sorted_ord O h hz cmp q
  · exact ELR.list_made O h hz cmp q
theorem sqa_at (I : Inv X pins σ H s) {a : Addr} {ys : List V} (h : SqA X.K H a ys) : ∃ its, Vals ys its ∧ (s.heap.IsList a its.toArray ∨ IsTup s.heap a its.toArray) ∧ its.length ≤ sizeLine := by
  rcases h with h | h
  · obtain ⟨its, rv, hl, hz⟩ := I.list h
    exact ⟨its, rv, .inl hl.isList, by rw [← rv.length]; exact hz⟩
  · obtain ⟨its, rv, hl, hz⟩ := I.tuple h
    exact ⟨its, rv, .inr hl, by rw [← rv.length]; exact hz⟩
def rSrtS (K : PySem.W.Frag) : List V → Hp → VK → Prop := fun vs H Q => ∃ a xs, vs = [V.ref a] ∧ SqA K H a (xs.map V.str) ∧ ∀ p, H p = none → Q (.ref p) (upd H p (.lst ((srt lessS xs).map V.str)))
theorem cr_srtS : CallR X (.builtin "sorted") (rSrtS X.K) := by
  intro pins s σ H vs us Q I r h
  obtain ⟨a, xs, rfl, hs, q⟩ := h
  obtain ⟨its, rv, hl, hz⟩ := sqa_at I hs
  rw [Vals.ref1 r]
  have st := strs_vals rv
  refine sorted_any2 (ys := xs.map V.str) (swo_by linS sv) hl hz (fun h2 h₁ b _ _ => texts_sortable st h2) fun out h1 h2 => ?_
  have fin := out_texts st h1 h2
  obtain ⟨n, hn⟩ := sortedAll_at s.heap its out.toArray
  have len : (xs.map V.str).length = its.length := rv.length
  rw [List.length_map] at len
  exact ⟨.ref _, upd H (s.heap.objs.size + 1) (.lst ((srt lessS xs).map V.str)), I.laid (t' := s.toks) (fun _ _ => sortedAll_old) (Nat.le_succ _) ⟨by rw [List.length_map, srt_len, len]; exact hz, out, n, vals_strs fin, hn⟩, rfl, q _ (I.hok.fresh (Nat.le_succ _))⟩
/-! ### pairs -/
def PrV (K : PySem.W.Frag) (H : Hp) (y : V) (p : Str × Str) : Prop := ∃ t, y = .ref t ∧ SqT K H t [V.str p.1, V.str p.2]
theorem pr_of (I : Inv X pins σ H s) {y : V} {p : Str × Str} {u : Value} (h : PrV X.K H y p) (r : RelV y u) : Pr s.heap u p := by
  obtain ⟨t, rfl, h⟩ := h
  cases r
  obtain ⟨its, rv, ⟨o, e1, e2, n, e3⟩, _⟩ := I.tuple h
  match its, rv with
  | [x1, x2], .cons r1 (.cons r2 .nil) =>
    obtain ⟨t1, rfl⟩ := r1
    obtain ⟨t2, rfl⟩ := r2
    exact ⟨t, o, t1, t2, n, rfl, e1, e2, e3⟩
theorem pr_one {h : Heap} {v : Value} {p q : Str × Str} (a : Pr h v p) (b : Pr h v q) : p = q := by
  obtain ⟨a, o, t, u, n, rfl, h1, _, h2⟩ := a
  obtain ⟨a', o', t', u', n', e, h1', _, h2'⟩ := b
  cases e
  rw [h1] at h1'; cases h1'
  rw [h2] at h2'
  injection h2' with e _
  have e := congrArg Array.toList e
  simp at e
  exact Prod.ext e.1.1 e.2.1
/-- side by side -/
def PrsV (K : PySem.W.Frag) (H : Hp) : List V → List (Str × Str) → Prop
  | [], ps => ps = []
  | y :: ys, ps => ∃ p qs, ps = p :: qs ∧ PrV K H y p ∧ PrsV K H ys qs
theorem prs_of (I : Inv X pins σ H s) : ∀ {ys : List V} {ps : List (Str × Str)} {us : List Value}, PrsV X.K H ys ps → Vals ys us → ∀ k : Value → Str × Str, (∀ u p, Pr s.heap u p → k u = p) → us.map k = ps ∧ ∀ u ∈ us, Pr s.heap u (k u)
  | [], ps, us, h, r, k, hk => by
    cases r
    cases h
    exact ⟨rfl, fun _ z => absurd z List.not_mem_nil⟩
  | y :: ys, ps, us, ⟨p, qs, e, h1, h2⟩, r, k, hk => by
    subst e
    cases r with
    | cons r1 r2 =>
      obtain ⟨e1, e2⟩ := prs_of I h2 r2 k hk
      have z := pr_of I h1 r1
      refine ⟨by rw [List.map_cons, e1, hk _ _ z], fun u hu => ?_⟩
      rcases List.mem_cons.mp hu with rfl | hu
      · rw [hk _ _ z]; exact z
      · exact e2 u hu
theorem prs_refs {K : PySem.W.Frag} : ∀ {ys : List V} {ps : List (Str × Str)}, PrsV K H ys ps → ∀ y ∈ ys, ∃ a, y = V.ref a
  | [], _, _, y, hy => absurd hy List.not_mem_nil
  | z :: ys, _, ⟨p, qs, _, ⟨t, e, _⟩, h2⟩, y, hy => by
    rcases List.mem_cons.mp hy with rfl | hy
    · exact ⟨t, e⟩
    · exact prs_refs h2 y hy
/-- sorted(xs), pairs of texts -/
def rSrtP (K : PySem.W.Frag) : List V → Hp → VK → Prop := fun vs H Q => ∃ a ys ps, vs = [V.ref a] ∧ SqA K H a ys ∧ PrsV K H ys ps ∧ ∀ zs p, zs.length = ps.length → (zs.zip (srt lessP ps)).Perm (ys.zip ps) → H p = none → Q (.ref p) (upd H p (.lst zs))
theorem cr_srtP : CallR X (.builtin "sorted") (rSrtP X.K) := by
  intro pins s σ H vs us Q I r h
  obtain ⟨a, ys, ps, rfl, hs, hp, q⟩ := h
  obtain ⟨its, rv, hl, hz⟩ := sqa_at I hs
  rw [Vals.ref1 r]
  obtain ⟨k, hk⟩ : ∃ k : Value → Str × Str, ∀ u p, Pr s.heap u p → k u = p := by
    have each : ∀ u : Value, ∃ x : Str × Str, ∀ p, Pr s.heap u p → x = p := fun u => by
      by_cases ex : ∃ p, Pr s.heap u p
      · obtain ⟨x, hx⟩ := ex
        exact ⟨x, fun p hp => pr_one hx hp⟩
      · exact ⟨(Str.empty, Str.empty), fun p hp => absurd ⟨p, hp⟩ ex⟩
    exact ⟨fun u => Classical.choose (each u), fun u => Classical.choose_spec (each u)⟩
  obtain ⟨ek, all⟩ := prs_of I hp rv k hk
  obtain ⟨ey, _⟩ := bkV_refs rv (prs_refs hp)
  refine sorted_any2 (ys := ys) (swo_by linP k) hl hz (fun h2 h₁ b hb kk => ?_) fun out h1 h2 => ?_
  · refine prs_sortable (s := { s with heap := h₁ }) (by omega) (fun v hv => (all v hv).keep fun b o e _ => (kk b o e).2) fun o e c => ?_
    have e' : some o = some (seqObj "list" its.toArray 0) := e.symm.trans hb
    cases e'
    exact absurd (Value.type.inj c) (by decide)
  · have eo : out.map k = srt lessP ps := by
      refine srt_eq linP ?_ (List.pairwise_map.mpr h1)
      have z := h2.perm.map k
      rw [ek] at z; exact z
    have vo : ∀ v ∈ out, ∃ a, v = Value.ref a := fun v hv => by
      obtain ⟨a, _, _, _, _, e, _⟩ := all v (h2.perm.mem_iff.mp hv)
      exact ⟨a, e⟩
    obtain ⟨n, hn⟩ := sortedAll_at s.heap its out.toArray
    have len : ys.length = its.length := rv.length
    have lo : out.length = its.length := h2.perm.length_eq
    have lp : ps.length = its.length := by rw [← ek, List.length_map]
    refine ⟨.ref _, upd H (s.heap.objs.size + 1) (.lst (out.map bkV)), I.laid (t' := s.toks) (fun _ _ => sortedAll_old) (Nat.le_succ _) ⟨by rw [List.length_map, lo]; exact hz, out, n, bkV_vals vo, hn⟩, rfl, q _ _ (by rw [List.length_map, lo, lp]) ?_ (I.hok.fresh (Nat.le_succ _))⟩
    have z : ∀ l : List Value, (l.map bkV).zip (l.map k) = l.map fun u => (bkV u, k u) := fun l => by
      induction l with
      | nil => rfl
      | cons x l ih => rw [List.map_cons, List.map_cons, List.zip_cons_cons, ih, List.map_cons]
    rw [← eo, ey, ← ek, z, z]
    exact h2.perm.map _
end
/-! ### over data -/
/-- a tuple of texts, a pair of texts as data -/
def tpD (xs : List Str) : D := .tup (xs.map D.str)
def ptD (p : Str × Str) : D := tpD [p.1, p.2]
def sortD (ds : List D) (Q : D → Prop) : Prop := (∃ x xs, ds = [x] ∧ seqD x = some (xs.map D.str) ∧ Q (.lst ((srt lessS xs).map D.str))) ∨ ∃ x ps, ds = [x] ∧ seqD x = some (ps.map ptD) ∧ Q (.lst ((srt lessP ps).map ptD))
theorem prs_rep {K : PySem.W.Frag} {F H : Hp} (sub : Same F H) : ∀ {ps : List (Str × Str)} {vs : List V}, Reps K F (ps.map ptD) vs → PrsV K H vs ps
  | [], vs, h => by cases h; rfl
  | p :: ps, vs, ⟨v, r, e, h1, h2⟩ => by
    subst e
    obtain ⟨t, ws, rfl, h3, _, h4⟩ := h1
    obtain ⟨ew, _⟩ := reps_strs (ns := [p.1, p.2]) h4
    subst ew
    exact ⟨p, ps, rfl, ⟨t, rfl, Same.seqT sub h3⟩, prs_rep sub h2⟩
theorem reps_zip {K : PySem.W.Frag} {F : Hp} : ∀ {ds : List D} {vs : List V}, Reps K F ds vs → ∀ q ∈ vs.zip ds, Rep K F q.2 q.1
  | [], vs, h, q, hq => by simp at hq
  | d :: ds, _, ⟨v, r, e, h1, h2⟩, q, hq => by
    subst e
    rw [List.zip_cons_cons] at hq
    rcases List.mem_cons.mp hq with rfl | hq
    · exact h1
    · exact reps_zip h2 q hq
theorem zip_reps {K : PySem.W.Frag} {F : Hp} : ∀ {ds : List D} {vs : List V}, vs.length = ds.length → (∀ q ∈ vs.zip ds, Rep K F q.2 q.1) → Reps K F ds vs
  | [], vs, h, _ => List.eq_nil_of_length_eq_zero h
  | d :: ds, [], h, _ => by cases h
  | d :: ds, v :: vs, h, a => .cons (a (v, d) (by rw [List.zip_cons_cons]; exact List.mem_cons_self)) (zip_reps (by simpa using h) fun q hq => a q (by rw [List.zip_cons_cons]; exact List.mem_cons_of_mem _ hq))
def rSortT (K : PySem.W.Frag) : List V → Hp → VK → Prop := fun vs H Q => rSrtS K vs H Q ∨ rSrtP K vs H Q
theorem cr_sortT2 {X : Cx} : CallR X (.builtin "sorted") (rSortT X.K) := fun pins s σ H vs us Q I r h => by
  rcases h with h | h
  · exact cr_srtS pins s σ H vs us Q I r h
  · exact cr_srtP pins s σ H vs us Q I r h
theorem o_sortT {K : PySem.W.Frag} : OpN K (rSortT K) sortD := by
  intro F H ds vs Qd Q sub rs h hQ
  rcases h with ⟨x, xs, rfl, e, q⟩ | ⟨x, ps, rfl, e, q⟩
  · obtain ⟨v, _, rfl, rv, rn⟩ := rs
    cases rn
    obtain ⟨a, ws, rfl, h1, h2, h3⟩ := seq_at sub rv e
    obtain ⟨ew, ok⟩ := reps_strs h3
    subst ew
    refine .inl ⟨a, xs, rfl, h1, fun p np => ?_⟩
    have g : Grow F H (upd F p (.lst ((srt lessS xs).map V.str))) (upd H p (.lst ((srt lessS xs).map V.str))) := Grow.new sub np
    exact hQ _ _ _ _ q g ⟨p, _, rfl, upd_same, by rw [List.length_map, srt_len]; rw [List.length_map] at h2; exact h2, reps_of_strs _ fun y hy => ok y (srt_mem.mp hy)⟩
  · obtain ⟨v, _, rfl, rv, rn⟩ := rs
    cases rn
    obtain ⟨a, ws, rfl, h1, h2, h3⟩ := seq_at sub rv e
    have len := h3.length
    rw [List.length_map] at len
    refine .inr ⟨a, ws, ps, rfl, h1, prs_rep sub h3, fun zs p lz pm np => ?_⟩
    have g : Grow F H (upd F p (.lst zs)) (upd H p (.lst zs)) := Grow.new sub np
    refine hQ _ _ _ _ q g ⟨p, zs, rfl, upd_same, by rw [lz, ← len]; exact h2, ?_⟩
    refine Reps.mono g.fF _ _ (zip_reps (by rw [List.length_map, srt_len, lz]) fun q hq => ?_)
    rw [List.zip_map_right] at hq
    obtain ⟨q0, hq0, rfl⟩ := List.mem_map.mp hq
    have z := pm.mem_iff.mp hq0
    exact reps_zip h3 (q0.1, ptD q0.2) (by rw [List.zip_map_right]; exact List.mem_map.mpr ⟨q0, z, rfl⟩)
end DL

set_option Elab.async false
set_option linter.all false
set_option maxRecDepth 100000
/-! EL16: the rules for a def's own sets of texts and of tuples of texts, over data -/
namespace DL
open PySem PySem.Spec PyProof.Rows L2 TL TX TO
section
variable {X : Cx} {m : Mem} {E : Ent m} {e : Expr} {te : DT m} {pos : Pos}
/-- x = set(), then for texts -/
def dSetT {m : Mem} (w : World) (i : Nat) : DTS m := fun dd ρ s => dd.nx (ρ.set i (.ow (.box (txO w [])))) s
/-- x = set(), then for tuples of texts -/
def dSetP {m : Mem} (w : World) (i : Nat) : DTS m := fun dd ρ s => dd.nx (ρ.set i (.ow (.bag (psO w) []))) s
theorem ds_setT (i : Nat) {x : Str} {pos' cp np : Pos} (hN : X.N.Nodup) (hg : Gl X "set") (hm : X.mg "set" = none) (hi : X.N[i]? = some x := by rfl) (hx : Loc X.env.scope x := by first | exact Or.inl rfl | exact Or.inr rfl)
    (hs : swapsWith (.Call (.Name "set" np) [] [] cp) (some (.Name x pos')) pos.line X.env = pure false := by rfl) (hf : X.fn x = true ∨ X.env.scope.names.lookup x = some .local := by first | exact .inl rfl | exact .inr rfl) :
    PS X (.Assign [.Name x pos'] (.Call (.Name "set" np) [] [] cp) pos) (upS X.K m E (dSetT X.w i)) := PS.imp (ps_set hN hi hx (pe_callTy0 cr_tx0 hg hm (by decide +kernel)) hs hf) fun DD σ H h => by
  obtain ⟨F, ρ, s, dd, r, o, ht, f⟩ := h
  exact ⟨rfl, fun p np => f.nx F _ _ _ s (Same.refl F) (r.putO (o := .box (txO X.w [])) np rfl) (Own.putO r o np) ht⟩
theorem ds_setP (i : Nat) {x : Str} {pos' cp np : Pos} (hN : X.N.Nodup) (hg : Gl X "set") (hm : X.mg "set" = none) (hi : X.N[i]? = some x := by rfl) (hx : Loc X.env.scope x := by first | exact Or.inl rfl | exact Or.inr rfl)
    (hs : swapsWith (.Call (.Name "set" np) [] [] cp) (some (.Name x pos')) pos.line X.env = pure false := by rfl) (hf : X.fn x = true ∨ X.env.scope.names.lookup x = some .local := by first | exact .inl rfl | exact .inr rfl) :
    PS X (.Assign [.Name x pos'] (.Call (.Name "set" np) [] [] cp) pos) (upS X.K m E (dSetP X.w i)) := PS.imp (ps_set hN hi hx (pe_callTy0 cr_ps0 hg hm (by decide +kernel)) hs hf) fun DD σ H h => by
  obtain ⟨F, ρ, s, dd, r, o, ht, f⟩ := h
  exact ⟨rfl, fun p np => f.nx F _ _ _ s (Same.refl F) (r.putO (o := .bag (psO X.w) []) np ⟨[], rfl, .nil, fun _ z => absurd z List.not_mem_nil⟩) (Own.putO r o np) ht⟩
/-- x.add(e), texts -/
def dAddT {m : Mem} (w : World) (i : Nat) (te : DT m) : DTS m := fun dd ρ s => (∃ xs, ρ[i]? = some (.ow (.box (txO w xs)))) ∧ te ρ s fun d ρ1 s1 => ∃ k xs, d = .str k ∧ ρ1[i]? = some (.ow (.box (txO w xs))) ∧ xs.length + 1 < 4096 ∧ dd.nx (ρ1.set i (.ow (.box (txO w (if k ∈ xs then xs else k :: xs))))) s1
/-- x.add(e), tuples of texts -/
def dAddP {m : Mem} (w : World) (i : Nat) (te : DT m) : DTS m := fun dd ρ s => (∃ ks, ρ[i]? = some (.ow (.bag (psO w) ks))) ∧ te ρ s fun d ρ1 s1 => ∃ k ks, d = tpD k ∧ ρ1[i]? = some (.ow (.bag (psO w) ks)) ∧ ks.length < 76 ∧ dd.nx (ρ1.set i (.ow (.bag (psO w) (if k ∈ ks then ks else k :: ks)))) s1
theorem ds_addT (i : Nat) {x : Str} {xpos apos cpos : Pos} (he : PE X e (up X.K m te)) (hN : X.N[i]? = some x := by rfl) (hv : Vis X.env.scope x := by first | exact Or.inl rfl | exact Or.inr (Or.inl rfl) | exact Or.inr (Or.inr rfl))
    (hd : (x == ("__debug__" : Str)) = false := by decide) (hcd : (x == ("__classdict__" : Str)) = false := by decide)
    (hbase : attributeBase (.Name x xpos) "add" X.env (eval (.Name x xpos) X.env) = eval (.Name x xpos) X.env := by rfl)
    (hfew : ((backTo cpos (starEach [e] X.env)).all (fun x => !x.1) && (backToKw cpos (keywordEach [] X.env)).all (fun x => x.1.isSome)
      && decide ([e].length + ([] : List Keyword).length + (if ([] : List Keyword).isEmpty then 0 else 1) < 30)) = true := by rfl)
    (hline : (apos.endLine == cpos.line) = true := by rfl) (hs : starEach [e] X.env = [(false, eval e X.env)] := by rfl)
    (hsw : swapsWith (.Call (.Attribute (.Name x xpos) "add" apos) [e] [] cpos) none pos.line X.env = pure false := by rfl) :
    PS X (.Expr (.Call (.Attribute (.Name x xpos) "add" apos) [e] [] cpos) pos) (upS X.K m E (dAddT X.w i te)) :=
  PS.imp (ps_expr (pe_setAdd mt_txAdd (pv i hN hv hd hcd) (pa_cons he pa_nil (by rw [hs]; rfl)) hbase hfew hline (by rw [hs]; rfl) rfl) hsw) fun DD σ H h => by
  obtain ⟨F, ρ, s, dd, r, o, ⟨⟨xs0, e0⟩, ht⟩, f⟩ := h
  obtain ⟨p, ho, h1, h2, h3, h4, h5⟩ := r.own_at e0
  have h3 : ho = txO X.w xs0 p := h3
  subst h3
  refine ⟨_, h1, ⟨p, rfl, .inl ⟨_, _, h2⟩⟩, F, ρ, s, _, r, ht, fun d ρ1 s1 v F1 H1 ⟨k, xs, ed, e1, few, q1⟩ r1 st1 rv => ?_⟩
  subst ed
  obtain ⟨rfl, _⟩ := rv
  obtain ⟨p', ho, g1, g2, g3, g4, g5⟩ := r1.own_at e1
  have g3 : ho = txO X.w xs p' := g3
  subst g3
  rw [h1] at g1; cases g1
  refine ⟨p, k, xs, rfl, rfl, g2, few, ?_⟩
  exact f.nx F1 _ σ _ s1 st1.ext (r1.write (o' := .box (txO X.w (if k ∈ xs then xs else k :: xs))) e1 h1 rfl) ((o.stp st1).write (K := X.K) e1 h1) q1
theorem ds_addP (i : Nat) {x : Str} {xpos apos cpos : Pos} (hu : X.A.units + 64 < cLine) (he : PE X e (up X.K m te)) (hN : X.N[i]? = some x := by rfl) (hv : Vis X.env.scope x := by first | exact Or.inl rfl | exact Or.inr (Or.inl rfl) | exact Or.inr (Or.inr rfl))
    (hd : (x == ("__debug__" : Str)) = false := by decide) (hcd : (x == ("__classdict__" : Str)) = false := by decide)
    (hbase : attributeBase (.Name x xpos) "add" X.env (eval (.Name x xpos) X.env) = eval (.Name x xpos) X.env := by rfl)
    (hfew : ((backTo cpos (starEach [e] X.env)).all (fun x => !x.1) && (backToKw cpos (keywordEach [] X.env)).all (fun x => x.1.isSome)
      && decide ([e].length + ([] : List Keyword).length + (if ([] : List Keyword).isEmpty then 0 else 1) < 30)) = true := by rfl)
    (hline : (apos.endLine == cpos.line) = true := by rfl) (hs : starEach [e] X.env = [(false, eval e X.env)] := by rfl)
    (hsw : swapsWith (.Call (.Attribute (.Name x xpos) "add" apos) [e] [] cpos) none pos.line X.env = pure false := by rfl) :
    PS X (.Expr (.Call (.Attribute (.Name x xpos) "add" apos) [e] [] cpos) pos) (upS X.K m E (dAddP X.w i te)) :=
  PS.imp (ps_expr (pe_setAdd (mt_psAdd hu) (pv i hN hv hd hcd) (pa_cons he pa_nil (by rw [hs]; rfl)) hbase hfew hline (by rw [hs]; rfl) rfl) hsw) fun DD σ H h => by
  obtain ⟨F, ρ, s, dd, r, o, ⟨⟨ks0, e0⟩, ht⟩, f⟩ := h
  obtain ⟨p, ho, h1, h2, ⟨L0, rfl, _, _⟩, h4, h5⟩ := r.own_at e0
  refine ⟨_, h1, ⟨p, rfl, .inr ⟨_, _, h2⟩⟩, F, ρ, s, _, r, ht, fun d ρ1 s1 v F1 H1 ⟨k, ks, ed, e1, few, q1⟩ r1 st1 rv => ?_⟩
  subst ed
  obtain ⟨t, ws, rfl, t1, _, t2⟩ := rv
  obtain ⟨ew, _⟩ := reps_strs t2
  subst ew
  obtain ⟨p', ho, g1, g2, ⟨L, rfl, pm, al⟩, g4, g5⟩ := r1.own_at e1
  rw [h1] at g1; cases g1
  have lenL : L.length = ks.length := by rw [← pm.length_eq, List.length_map]
  refine ⟨p, t, k, L, rfl, rfl, g2, Same.seqT r1.sub t1, fun q hq => Same.seqT r1.sub (al q hq), by omega, fun L' k1 k2 => ?_⟩
  refine f.nx F1 _ σ _ s1 st1.ext (r1.write (o' := .bag (psO X.w) (if k ∈ ks then ks else k :: ks)) e1 h1 ⟨L', rfl, ?_, ?_⟩) ((o.stp st1).write (K := X.K) e1 h1) q1
  · by_cases hk : k ∈ ks
    · rw [if_pos hk, k1 (pm.mem_iff.mpr hk)]; exact pm
    · rw [if_neg hk]
      have z := (k2 fun z => hk (pm.mem_iff.mp z)).map (·.2)
      exact z.trans (pm.cons k)
  · by_cases hk : k ∈ ks
    · rw [k1 (pm.mem_iff.mpr hk)]; exact al
    · intro q hq
      have z := (k2 fun z => hk (pm.mem_iff.mp z)).mem_iff.mp hq
      rcases List.mem_cons.mp z with rfl | z
      · exact t1
      · exact al q z
/-- sorted(x) -/
def dSortT {m : Mem} (w : World) (i : Nat) : DT m := fun ρ s Q => ∃ xs, ρ[i]? = some (.ow (.box (txO w xs))) ∧ xs.length < 4096 ∧ (∀ x ∈ xs, sOk x = true) ∧ Q (.lst ((srt lessS xs).map D.str)) ρ s
theorem de_sortT (i : Nat) {x : Str} {xpos p : Pos} (hc : X.calm = true) (hg : Gl X "sorted") (hm : X.mg "sorted" = none) (hN : X.N[i]? = some x := by rfl) (hv : Vis X.env.scope x := by first | exact Or.inl rfl | exact Or.inr (Or.inl rfl) | exact Or.inr (Or.inr rfl))
    (hd : (x == ("__debug__" : Str)) = false := by decide) (hcd : (x == ("__classdict__" : Str)) = false := by decide)
    (hs : starEach [.Name x xpos] X.env = [(false, eval (.Name x xpos) X.env)] := by rfl) : PE X (.Call (.Name "sorted" p) [.Name x xpos] [] pos) (up X.K m (dSortT X.w i)) :=
  PE.imp (pe_callB (cr_txSorted hc) hg hm (by decide +kernel) (pa_cons (pv i hN hv hd hcd) pa_nil (by rw [hs]; rfl)) (by decide) (by decide) (by rw [hs]; rfl) rfl) fun σ H Q h => by
    obtain ⟨F, ρ, s, Qd, r, ⟨xs, e0, few, ok, q⟩, hQ⟩ := h
    obtain ⟨a, ho, h1, h2, h3, h4, h5⟩ := r.own_at e0
    have h3 : ho = txO X.w xs a := h3
    subst h3
    refine ⟨_, h1, a, xs, rfl, h2, few, fun p np => ?_⟩
    have g : Grow F H (upd F p (.lst ((srt lessS xs).map V.str))) (upd H p (.lst ((srt lessS xs).map V.str))) := Grow.new r.sub np
    exact hQ _ ρ s _ _ _ q (r.grow g) g.stp ⟨p, _, rfl, upd_same, by rw [List.length_map, srt_len, sizeLine_eq]; omega, reps_of_strs _ fun y hy => ok y (srt_mem.mp hy)⟩
/-- e in x, e not in x -/
def dInP {m : Mem} (w : World) (neg : Bool) (te : DT m) (i : Nat) : DTT m := fun ρ s Q => te ρ s fun d ρ1 s1 => ∃ k ks, d = tpD k ∧ ρ1[i]? = some (.ow (.bag (psO w) ks)) ∧ Q (neg ^^ decide (k ∈ ks)) ρ1 s1
theorem up_inP {K : PySem.W.Frag} {w : World} {i : Nat} {neg : Bool} {σ : L2.St} {H : Hp} {Q : Bool → Hp → Prop} (h : upT K m (dInP w neg te i) σ H Q) :
    up K m te σ H fun x H1 => tVar i σ H1 fun y H2 => rPsIn K w neg x y H2 fun v H3 => ∃ b, v = .bl b ∧ Q b H3 := by
  obtain ⟨F, ρ, s, Qd, r, ht, hQ⟩ := h
  refine ⟨F, ρ, s, _, r, ht, fun d ρ1 s1 v F1 H1 ⟨k, ks, ed, e1, q1⟩ r1 st1 rv => ?_⟩
  subst ed
  obtain ⟨t, ws, rfl, t1, _, t2⟩ := rv
  obtain ⟨ew, _⟩ := reps_strs t2
  subst ew
  obtain ⟨p, ho, g1, g2, ⟨L, rfl, pm, al⟩, g4, g5⟩ := r1.own_at e1
  refine ⟨.ref p, g1, p, t, k, L, rfl, rfl, g2, Same.seqT r1.sub t1, fun q hq => Same.seqT r1.sub (al q hq), _, rfl, ?_⟩
  rw [show decide (k ∈ L.map (·.2)) = decide (k ∈ ks) from decide_eq_decide.mpr pm.mem_iff]
  exact hQ _ ρ1 s1 F1 H1 q1 r1 st1
theorem dt_inP (i : Nat) {x : Str} {xpos : Pos} (hu : X.A.units + 64 < cLine) (he : PE X e (up X.K m te)) (hN : X.N[i]? = some x := by rfl) (hv : Vis X.env.scope x := by first | exact Or.inl rfl | exact Or.inr (Or.inl rfl) | exact Or.inr (Or.inr rfl))
    (hd : (x == ("__debug__" : Str)) = false := by decide) (hcd : (x == ("__classdict__" : Str)) = false := by decide) (hm : behindInMarks .In (.Name x xpos) = false := by first | exact nobehind _ (by decide) (by decide) | rfl) : PT X (.Compare e [.In] [.Name x xpos] pos) (upT X.K m (dInP X.w false te i)) :=
  PT.imp (pt_cmpR (op_psIn hu) he (pv i hN hv hd hcd) hm) fun _ _ _ h => up_inP h
end
end DL

set_option Elab.async false
set_option linter.all false
set_option maxRecDepth 100000
/-! EL17: what is asked of an own class by one Bool over K; isinstance of it; its properties by facts -/
namespace DL
open PySem PySem.Spec PyProof.Rows L2 TL
def allTg : List Tg := [.non, .bl, .int, .str, .lst, .tup, .dic]
theorem allTg_mem (t : Tg) : t ∈ allTg := by cases t <;> simp [allTg]
structure OwnC (K : PySem.W.Frag) (C : Addr) : Prop where
  nf : NoFirst K C
  kt : ∀ t, PySem.W.kitOne K (.type (tgS t)) (.ref C) = some false
  ks : PySem.W.kitOne K (.ref C) (.ref C) = some true
  sf : PySem.W.selfFirst K C = true
def ownB (K : PySem.W.Frag) (C : Addr) : Bool := (allTg.all fun t => PySem.W.notFirst K C (.type (tgS t)) && (PySem.W.kitOne K (.type (tgS t)) (.ref C) == some false)) && (PySem.W.kitOne K (.ref C) (.ref C) == some true) && PySem.W.selfFirst K C
theorem ownC_of {K : PySem.W.Frag} {C : Addr} (h : ownB K C = true) : OwnC K C := by
  unfold ownB at h
  rw [Bool.and_eq_true, Bool.and_eq_true, List.all_eq_true] at h
  obtain ⟨⟨h1, h2⟩, h3⟩ := h
  refine ⟨fun t => ?_, fun t => ?_, eq_of_beq h2, h3⟩
  · have z := h1 t (allTg_mem t)
    rw [Bool.and_eq_true] at z; exact z.1
  · have z := h1 t (allTg_mem t)
    rw [Bool.and_eq_true] at z; exact eq_of_beq z.2
/-- isinstance(x, C), x data of a built-in type or an instance of C -/
def isoC (C : Addr) (ds : List D) (Q : D → Prop) : Prop := (∃ x, ds = [x, .any (.ref C)] ∧ (tyT x).isSome = true ∧ Q (.bl false)) ∨ ∃ ns es, ds = [.ins C ns es, .any (.ref C)] ∧ Q (.bl true)
theorem o_isoC {K : PySem.W.Frag} {C : Addr} (O : OwnC K C) (I : InsK K C) : OpN K (rIsi K) (isoC C) := by
  intro F H ds vs Qd Q sub rs h hQ
  rcases h with ⟨x, rfl, e, q⟩ | ⟨ns, es, rfl, q⟩
  · obtain ⟨t, e⟩ := Option.isSome_iff_exists.mp e
    exact o_iso F H _ vs Qd Q sub rs (.inl ⟨x, t, C, false, rfl, e, O.kt t, q⟩) hQ
  · exact o_iso F H _ vs Qd Q sub rs (.inr ⟨C, ns, es, C, true, rfl, I, O.ks, q⟩) hQ
theorem propOf_mk {K : PySem.W.Frag} {C p g : Addr} {f : Str} {rest : List Value} (h1 : PySem.W.findIn K (.ref C) f = some (some (.ref p))) (h2 : PySem.W.specialIn K (.ref p) "__get__" = some (some (.builtin "property.__get__")))
    (h3 : PySem.W.takesIn K (.ref p) = some true) (h4 : PySem.W.recIn K p "property" = some (.ref g :: rest)) : PropOf K C f p g := ⟨h1, h2, h3, rest, h4⟩
end DL

set_option Elab.async false
set_option linter.all false
set_option maxRecDepth 100000
/-! EL18: sorted(set(xs)), xs a list or a tuple of texts -/
namespace DL
open PySem PySem.Spec PyProof.Rows L2 TL TX TO
/-- each once -/
def once {α : Type} [DecidableEq α] (xs : List α) : List α := xs.foldl (fun acc k => if k ∈ acc then acc else k :: acc) []
section
variable {α : Type} [DecidableEq α]
theorem once_snoc (xs : List α) (k : α) : once (xs ++ [k]) = if k ∈ once xs then once xs else k :: once xs := by
  unfold once
  rw [List.foldl_append]; rfl
theorem once_both : ∀ (xs acc : List α), acc.Nodup → (xs.foldl (fun acc k => if k ∈ acc then acc else k :: acc) acc).Nodup ∧ ∀ x, x ∈ xs.foldl (fun acc k => if k ∈ acc then acc else k :: acc) acc ↔ x ∈ xs ∨ x ∈ acc
  | [], acc, h => ⟨h, fun x => by simp⟩
  | k :: xs, acc, h => by
    rw [List.foldl_cons]
    by_cases hk : k ∈ acc
    · rw [if_pos hk]
      obtain ⟨h1, h2⟩ := once_both xs acc h
      refine ⟨h1, fun x => (h2 x).trans ⟨fun z => z.elim (fun y => .inl (List.mem_cons_of_mem _ y)) .inr, fun z => z.elim (fun y => ?_) .inr⟩⟩
      rcases List.mem_cons.mp y with rfl | y
      · exact .inr hk
      · exact .inl y
    · rw [if_neg hk]
      obtain ⟨h1, h2⟩ := once_both xs (k :: acc) (List.nodup_cons.mpr ⟨hk, h⟩)
      refine ⟨h1, fun x => (h2 x).trans ?_⟩
      rw [List.mem_cons, List.mem_cons]
      constructor
      · rintro (z | z | z)
        · exact .inl (.inr z)
        · exact .inl (.inl z)
        · exact .inr z
      · rintro ((z | z) | z)
        · exact .inr (.inl z)
        · exact .inl z
        · exact .inr (.inr z)
theorem once_mem {xs : List α} {x : α} : x ∈ once xs ↔ x ∈ xs := ((once_both xs [] List.nodup_nil).2 x).trans (by simp)
theorem once_len : ∀ (xs : List α), (once xs).length ≤ xs.length := fun xs => by
  have key : ∀ (xs acc : List α), (xs.foldl (fun acc k => if k ∈ acc then acc else k :: acc) acc).length ≤ xs.length + acc.length := by
    intro xs
    induction xs with
    | nil => intro acc; simp
    | cons k xs ih =>
      intro acc
      rw [List.foldl_cons, List.length_cons]
      by_cases hk : k ∈ acc
      · rw [if_pos hk]; have := ih acc; omega
      · rw [if_neg hk]
        have := ih (k :: acc)
        rw [List.length_cons] at this; omega
  exact key xs []
end
section
variable {P : Program} {w : World} {A : Around} {E : Value → Shared → Prop} {s : Shared} {a : Addr} {xs : List Str}
end
section
variable {X : Cx}
variable {m : Mem} {e : Expr} {te : DT m} {pos p p2 cp : Pos}
end
end DL

set_option Elab.async false
set_option linter.all false
set_option maxRecDepth 100000
/-! EL19: o.m(e, ..), o an instance, m a def of its class -/
namespace DL
open PySem PySem.Spec PyProof.Rows L2 TL
section
variable {X : Cx} {m : Mem} {o e : Expr} {es : List Expr} {to : DT m} {u : DTA m} {pos apos : Pos} {C f : Addr} {k n : Nat} {fd : FuncData} {ps : List Str} {mn : Str}
end
end DL

set_option Elab.async false
set_option linter.all false
set_option maxRecDepth 100000
set_option maxHeartbeats 1000000
namespace RP
open PySem PySem.Spec PyProof.Rows L2 TL DL TX TO
theorem line_of2 {n : Nat} (h : n ≤ 1000000) : n ≤ sizeLine := Nat.le_trans h (by rw [sizeLine_eq]; decide)
theorem lz {n : Nat} (h : Nat.ble n 1000000 = true) : n ≤ sizeLine := line_of2 (Nat.le_of_ble_eq_true h)
theorem len_add (a b : Str) : (a ++ b).length = a.length + b.length := by rw [len_tl, tl_append, List.length_append, ← len_tl, ← len_tl]
/-- data that is like itself in all parts -/
def smD : Nat → D → Prop
  | _, .non => True
  | _, .bl _ => True
  | _, .int _ => True
  | _, .str _ => True
  | 0, .lst _ => False
  | n + 1, .lst xs => xs.length ≤ 1000 ∧ ∀ x ∈ xs, smD n x
  | 0, .tup _ => False
  | n + 1, .tup xs => xs.length ≤ 1000 ∧ ∀ x ∈ xs, smD n x
  | _, .dic ks xs => repOk (.dic ks xs) = true
  | _, _ => False
end RP

set_option Elab.async false
set_option linter.all false
set_option maxRecDepth 100000
set_option maxHeartbeats 1000000
/-! LP1: paths, modules, uses, programs: what is said of them over data -/
namespace RP
open PySem PySem.Spec PyProof.Rows L2 TL DL TX TO
/-! ### equality of texts and pairs -/
theorem eqD_pr (p q : Str × Str) : eqD (ptD p) (ptD q) = decide (p = q) := by
  show eqDs [.str p.1, .str p.2] [.str q.1, .str q.2] = _
  rw [show ([.str p.1, .str p.2] : List D) = [p.1, p.2].map .str from rfl, show ([.str q.1, .str q.2] : List D) = [q.1, q.2].map .str from rfl, eqss]
  by_cases h : p = q
  · subst h; simp
  · rw [decide_eq_false h]
    refine beq_eq_false_iff_ne.mpr fun z => h ?_
    injection z with z1 z2
    injection z2 with z2 _
    exact Prod.ext z1 z2
theorem eqDs_pr : ∀ (ps qs : List (Str × Str)), eqDs (ps.map ptD) (qs.map ptD) = decide (ps = qs)
  | [], [] => by simp [eqDs]
  | [], _ :: _ => by simp [eqDs]
  | _ :: _, [] => by simp [eqDs]
  | p :: ps, q :: qs => by
    show (eqD (ptD p) (ptD q) && eqDs (ps.map ptD) (qs.map ptD)) = _
    rw [eqD_pr, eqDs_pr ps qs]
    by_cases h1 : p = q <;> by_cases h2 : ps = qs <;> simp [h1, h2]
theorem eqDs_str (xs ys : List Str) : eqDs (xs.map .str) (ys.map .str) = decide (xs = ys) := by
  rw [eqss]
  by_cases h : xs = ys
  · subst h; simp
  · rw [decide_eq_false h]; exact beq_eq_false_iff_ne.mpr h
theorem plain_prs : ∀ (n : Nat) (ps : List (Str × Str)), plainDs (n + 1) (ps.map ptD) = true
  | n, [] => rfl
  | n, p :: ps => by
    show (plainD (n + 1) (ptD p) && plainDs (n + 1) (ps.map ptD)) = true
    rw [plain_prs n ps, Bool.and_true]
    exact plain_strs n [p.1, p.2]
theorem plain_tup (xs : List Str) : plainD 60 (.tup (xs.map .str)) = true := plain_strs 59 xs
theorem plain_tupP (ps : List (Str × Str)) : plainD 60 (.tup (ps.map ptD)) = true := plain_prs 58 ps
theorem any_str (xs : List Str) (z : Str) : (xs.map D.str).any (fun y => eqD y (.str z)) = decide (z ∈ xs) := by
  induction xs with
  | nil => rfl
  | cons x xs ih =>
    rw [List.map_cons, List.any_cons, ih, eqs, show decide (x = z) = decide (z = x) from decide_eq_decide.mpr eq_comm, ← Bool.decide_or]
    exact decide_eq_decide.mpr List.mem_cons.symm
theorem any_pr (ps : List (Str × Str)) (z : Str × Str) : (ps.map ptD).any (fun y => eqD y (ptD z)) = decide (z ∈ ps) := by
  induction ps with
  | nil => rfl
  | cons x xs ih =>
    rw [List.map_cons, List.any_cons, ih, eqD_pr, show decide (x = z) = decide (z = x) from decide_eq_decide.mpr eq_comm, ← Bool.decide_or]
    exact decide_eq_decide.mpr List.mem_cons.symm
theorem sm_strs (n : Nat) (xs : List Str) : ∀ d ∈ xs.map D.str, smD n d := fun d hd => by
  obtain ⟨x, _, rfl⟩ := List.mem_map.mp hd
  cases n <;> exact trivial
theorem sm_tup (n : Nat) {xs : List Str} (h : xs.length ≤ 1000) : smD (n + 1) (.tup (xs.map .str)) := ⟨by rw [List.length_map]; exact h, sm_strs n xs⟩
/-! ### paths -/
def ovS (p o : Str) : Bool := coversS p o || coversS o p
theorem ovS_comm (p o : Str) : ovS p o = ovS o p := Bool.or_comm ..
theorem cov_self (p : Str) : coversS p p = true := by
  unfold coversS
  rw [beq_self_eq_true, Bool.true_or]
theorem ovS_self (p : Str) : ovS p p = true := by unfold ovS; rw [cov_self, Bool.true_or]
theorem ovS_lcov (p o : Str) : (lcov p o || lcov o p) = ovS p o := by unfold ovS; rw [cov_eq, cov_eq]
theorem okName_of {x : Str} (h : NameOk x) : okName x = true := by
  unfold okName okLen
  rw [Bool.and_eq_true, Bool.and_eq_true, List.all_eq_true]
  refine ⟨⟨decide_eq_true h.1, decide_eq_true h.2.1⟩, fun c hc => ?_⟩
  unfold okc
  rw [Bool.and_eq_true]
  have := h.2.2 c hc
  exact ⟨decide_eq_true this.1, decide_eq_true this.2⟩
theorem okName_free {x : Str} (h : okName x = true) : 46 ∉ tl x := fun hm => by
  unfold okName at h
  rw [Bool.and_eq_true, List.all_eq_true] at h
  have z := h.2 46 hm
  unfold okc at z
  exact absurd z (by decide)
/-- a path, of a length that is known -/
def PathS (x : Str) : Prop := isPathS x = true ∧ x.length ≤ 100
theorem PathS.names {x : Str} (h : PathS x) : (splS 46 x).length ≤ 6 ∧ ∀ n ∈ splS 46 x, okName n = true := by
  have z := h.1
  unfold isPathS at z
  rw [Bool.and_eq_true, List.all_eq_true] at z
  exact ⟨of_decide_eq_true z.1, z.2⟩
theorem spl_names {ns : List Str} (h0 : ns ≠ []) (h : ∀ n ∈ ns, okName n = true) : splS 46 (joinS dot ns) = ns := splS_join h0 fun x hx => okName_free (h x hx)
theorem pathS_names {ns : List Str} (h0 : ns ≠ []) (h6 : ns.length ≤ 6) (h : ∀ n ∈ ns, okName n = true) : PathS (joinS dot ns) := by
  refine ⟨?_, ?_⟩
  · unfold isPathS
    rw [spl_names h0 h, decide_eq_true h6, Bool.true_and, List.all_eq_true]
    exact h
  · have q1 := joinS_len (z := dot) (ns := ns)
    have q2 := sum_le8 (ns := ns) fun y hy => by
      have z := h y hy
      unfold okName okLen at z
      rw [Bool.and_eq_true, Bool.and_eq_true] at z
      exact of_decide_eq_true z.1.2
    rw [show dot.length = 1 from rfl] at q1
    omega
theorem pathS_of {pool : List Str} {x : Str} (h : PathOf pool 6 x) (hp : ∀ y ∈ pool, NameOk y) : PathS x := by
  obtain ⟨ns, h1, h2, h3, rfl⟩ := h
  exact pathS_names (by intro z; rw [z] at h1; exact absurd h1 (by decide)) (by omega) fun n hn => okName_of (hp n (h3 n hn))
theorem PathS.ok {x : Str} (h : PathS x) : sOk x = true := by
  refine sOk_of (Nat.le_trans h.2 (by decide)) fun c hc => ?_
  have e := join_splS 46 x
  have hm : c ∈ tl (joinS dot (splS 46 x)) := by rw [show joinS dot (splS 46 x) = x from e]; exact hc
  have hm : c ∈ joinL [46] ((splS 46 x).map tl) := by
    have e2 : tl (joinS dot (splS 46 x)) = joinL [46] ((splS 46 x).map tl) := tl_join _ _
    rw [e2] at hm; exact hm
  have key : ∀ (ls : List (List Nat)), (∀ l ∈ ls, ∀ c ∈ l, c ≤ 122) → ∀ c ∈ joinL [46] ls, c ≤ 122 := by
    intro ls
    induction ls with
    | nil => intro _ c hc; cases hc
    | cons l ls ih =>
      intro h c hc
      cases ls with
      | nil => exact h l List.mem_cons_self c hc
      | cons l2 r =>
        rw [joinL_cons _ _ (by simp)] at hc
        rcases List.mem_append.mp hc with z | z
        · exact h l List.mem_cons_self c z
        · rcases List.mem_append.mp z with z | z
          · rw [List.mem_singleton.mp z]; decide
          · exact ih (fun l hl => h l (List.mem_cons_of_mem _ hl)) c z
  have := key _ (fun l hl c hc => by
    obtain ⟨n, hn, rfl⟩ := List.mem_map.mp hl
    have z := h.names.2 n hn
    unfold okName at z
    rw [Bool.and_eq_true, List.all_eq_true] at z
    have y := z.2 c hc
    unfold okc at y
    rw [Bool.and_eq_true] at y
    exact of_decide_eq_true y.2) c hm
  omega
/-! ### the beginnings of a path -/
def begs (x : Str) : List Str := (List.range (splS 46 x).length).map fun k => joinS dot ((splS 46 x).take (k + 1))
/-- from the whole path up -/
def ups (x : Str) : List Str := (begs x).reverse
theorem ups_step {x : Str} (h : PathS x) : ups x = x :: (match parentS x with
  | none => []
  | some p => ups p) := by
  have hn := h.names.2
  have h0 := splS_ne 46 x
  have ej : joinS dot (splS 46 x) = x := join_splS 46 x
  generalize hns : splS 46 x = ns at hn h0 ej
  obtain ⟨l, k, e⟩ : ∃ l k, ns = l ++ [k] := ⟨ns.dropLast, ns.getLast h0, (List.dropLast_concat_getLast h0).symm⟩
  subst e
  have eb : begs x = (List.range l.length).map (fun k => joinS dot (l.take (k + 1))) ++ [x] := by
    unfold begs
    rw [hns, List.length_append, List.length_singleton, List.range_succ, List.map_append, List.map_singleton]
    have e1 : (List.range l.length).map (fun i => joinS dot ((l ++ [k]).take (i + 1))) = (List.range l.length).map (fun i => joinS dot (l.take (i + 1))) := List.map_congr_left fun i hi => by
      have := List.mem_range.mp hi
      rw [List.take_append_of_le_length (by omega)]
    have e2 : joinS dot ((l ++ [k]).take (l.length + 1)) = x := by rw [show l.length + 1 = (l ++ [k]).length by simp, List.take_length, ej]
    rw [e1, e2]
  unfold ups
  rw [eb, List.reverse_append]
  show x :: _ = _
  unfold parentS
  rw [hns, List.length_append, List.length_singleton, List.dropLast_concat]
  cases l with
  | nil => rfl
  | cons a r =>
    rw [if_pos (show 1 < (a :: r).length + 1 by simp)]
    show x :: _ = x :: (begs (joinS dot (a :: r))).reverse
    have e2 : splS 46 (joinS dot (a :: r)) = a :: r := spl_names (by simp) fun n hn' => hn n (List.mem_append_left _ hn')
    unfold begs
    rw [e2]; rfl
theorem ups_paths {x : Str} (h : PathS x) : ∀ y ∈ ups x, PathS y := fun y hy => by
  obtain ⟨k, hk, rfl⟩ := List.mem_map.mp (List.mem_reverse.mp hy)
  have hk := List.mem_range.mp hk
  have hn := h.names
  refine pathS_names (fun z => ?_) (by rw [List.length_take]; omega) fun n hn' => hn.2 n (List.mem_of_mem_take hn')
  have := congrArg List.length z
  rw [List.length_take, List.length_nil] at this
  omega
theorem parent_path {x p : Str} (h : PathS x) (e : parentS x = some p) : PathS p ∧ (splS 46 p).length < (splS 46 x).length := by
  have z := ups_step h
  rw [e] at z
  have hp : p ∈ ups x := by
    rw [z]
    unfold parentS at e
    split at e
    · rename_i h1
      cases e
      refine List.mem_cons_of_mem _ ?_
      have hn : (splS 46 x).dropLast ≠ [] := fun z => by
        have := congrArg List.length z
        rw [List.length_dropLast, List.length_nil] at this
        omega
      have e2 : splS 46 (joinS dot (splS 46 x).dropLast) = (splS 46 x).dropLast := spl_names hn fun n hn' => h.names.2 n (List.dropLast_subset _ hn')
      show joinS dot (splS 46 x).dropLast ∈ ups (joinS dot (splS 46 x).dropLast)
      unfold ups begs
      rw [e2, List.mem_reverse]
      refine List.mem_map.mpr ⟨(splS 46 x).dropLast.length - 1, List.mem_range.mpr ?_, ?_⟩
      · have := List.length_pos_iff.mpr hn; omega
      · have := List.length_pos_iff.mpr hn
        rw [show (splS 46 x).dropLast.length - 1 + 1 = (splS 46 x).dropLast.length by omega, List.take_length]
    · cases e
  refine ⟨ups_paths h p hp, ?_⟩
  unfold parentS at e
  split at e
  · rename_i h1
    cases e
    have hn : (splS 46 x).dropLast ≠ [] := fun z => by
      have := congrArg List.length z
      rw [List.length_dropLast, List.length_nil] at this
      omega
    rw [spl_names hn fun n hn' => h.names.2 n (List.dropLast_subset _ hn'), List.length_dropLast]
    have := List.length_pos_iff.mpr (splS_ne 46 x)
    omega
  · cases e
theorem ups_len {x : Str} (h : PathS x) : (ups x).length ≤ 6 := by
  unfold ups begs
  rw [List.length_reverse, List.length_map, List.length_range]
  exact h.names.1
/-! ### programs -/
structure Mods (ms : List Str) : Prop where
  path : ∀ x ∈ ms, PathS x
  alone : ms.Pairwise fun x y => ovS x y = false
theorem Mods.nd {ms : List Str} (h : Mods ms) : ms.Nodup := h.alone.imp fun {x y} z e => by rw [e, ovS_self] at z; cases z
theorem Mods.perm {ms ns : List Str} (h : Mods ms) (p : ns.Perm ms) : Mods ns := ⟨fun x hx => h.path x (p.mem_iff.mp hx), p.symm.pairwise h.alone fun {x y} z => by rw [ovS_comm]; exact z⟩
structure Uses (ms : List Str) (us : List (Str × Str)) : Prop where
  nd : us.Nodup
  ok : ∀ u ∈ us, u.1 ∈ ms ∧ u.2 ∈ ms ∧ u.1 ≠ u.2
theorem Uses.perm {ms ns : List Str} {us vs : List (Str × Str)} (h : Uses ms us) (pm : ns.Perm ms) (p : vs.Perm us) : Uses ns vs := ⟨p.nodup_iff.mpr h.nd, fun u hu => by
  have z := h.ok u (p.mem_iff.mp hu)
  exact ⟨pm.mem_iff.mpr z.1, pm.mem_iff.mpr z.2.1, z.2.2⟩⟩
def partsS (ms : List Str) : List Str := srt lessS (once (ms.flatMap ups))
abbrev pFields : List Str := [Str.ofString "_modules", Str.ofString "_uses", Str.ofString "_parts"]
/-- a program of these modules and uses -/
def progD (C : Addr) (ms : List Str) (us : List (Str × Str)) : D := .ins C pFields [.tup ((srt lessS ms).map .str), .tup ((srt lessP us).map ptD), .tup ((partsS ms).map .str)]
/-! ### promises -/
def spModules : DSp Mem.deck := fun ds s Q => ∃ a b c pool most, ds = [.any (.ref a), .lst ((pool : List Str).map .str), .int most] ∧ s.adr = some (a, b, c) ∧ 1 ≤ most ∧ most ≤ 30 ∧ 0 < pool.length ∧ pool.length ≤ 100 ∧ (∀ x ∈ pool, NameOk x) ∧ s.n + 700 < drawLim ∧ ∀ ms k, Mods ms → (ms.length : Int) ≤ most → k ≤ s.n + 700 → Q (.lst (ms.map .str)) ⟨s.adr, k⟩
theorem spModules_len : ∀ ds s Qd, (spModules : DSp Mem.deck) ds s Qd → ds.length = 3 := fun ds s Qd ⟨_, _, _, _, _, e, _⟩ => by rw [e]; rfl
def spUses : DSp Mem.deck := fun ds s Q => ∃ a b c ms most, ds = [.any (.ref a), .lst ((ms : List Str).map .str), .int most] ∧ s.adr = some (a, b, c) ∧ 1 ≤ most ∧ most ≤ 100 ∧ ms.length ≤ 1000 ∧ s.n + 300 < drawLim ∧ ∀ us k, Uses ms us → (us.length : Int) ≤ most → k ≤ s.n + 300 → Q (.lst (us.map ptD)) ⟨s.adr, k⟩
theorem spUses_len : ∀ ds s Qd, (spUses : DSp Mem.deck) ds s Qd → ds.length = 3 := fun ds s Qd ⟨_, _, _, _, _, e, _⟩ => by rw [e]; rfl
def spIsPair {m : Mem} : DSp m := fun ds s Q => ∃ p ms, ds = [ptD p, .tup ((ms : List Str).map .str)] ∧ p.1 ≠ p.2 ∧ p.1 ∈ ms ∧ p.2 ∈ ms ∧ ms.length ≤ 1000 ∧ Q (.bl true) s
theorem spIsPair_len {m : Mem} : ∀ ds s Qd, (spIsPair : DSp m) ds s Qd → ds.length = 2 := fun ds s Qd ⟨_, _, e, _⟩ => by rw [e]; rfl
def spModErr {m : Mem} : DSp m := fun ds s Q => ∃ ms, ds = [.tup ((ms : List Str).map .str)] ∧ Mods ms ∧ ms.length ≤ 24 ∧ Q .non s
theorem spModErr_len {m : Mem} : ∀ ds s Qd, (spModErr : DSp m) ds s Qd → ds.length = 1 := fun ds s Qd ⟨_, e, _⟩ => by rw [e]; rfl
def spUseErr {m : Mem} : DSp m := fun ds s Q => ∃ ms us, ds = [.tup ((ms : List Str).map .str), .tup ((us : List (Str × Str)).map ptD)] ∧ Uses ms us ∧ ms.length ≤ 24 ∧ us.length ≤ 75 ∧ Q .non s
theorem spUseErr_len {m : Mem} : ∀ ds s Qd, (spUseErr : DSp m) ds s Qd → ds.length = 2 := fun ds s Qd ⟨_, _, e, _⟩ => by rw [e]; rfl
def spProgErr {m : Mem} : DSp m := fun ds s Q => ∃ ms us, ds = [.tup ((ms : List Str).map .str), .tup ((us : List (Str × Str)).map ptD)] ∧ Mods ms ∧ Uses ms us ∧ ms.length ≤ 24 ∧ us.length ≤ 75 ∧ Q .non s
theorem spProgErr_len {m : Mem} : ∀ ds s Qd, (spProgErr : DSp m) ds s Qd → ds.length = 2 := fun ds s Qd ⟨_, _, e, _⟩ => by rw [e]; rfl
def spParts {m : Mem} : DSp m := fun ds s Q => ∃ ms, ds = [.tup ((ms : List Str).map .str)] ∧ Mods ms ∧ ms.length ≤ 24 ∧ Q (.tup ((partsS ms).map .str)) s
theorem spParts_len {m : Mem} : ∀ ds s Qd, (spParts : DSp m) ds s Qd → ds.length = 1 := fun ds s Qd ⟨_, e, _⟩ => by rw [e]; rfl
def spProgI {m : Mem} : ISp m := fun ds s Q => ∃ ms us, ds = [.tup ((ms : List Str).map .str), .tup ((us : List (Str × Str)).map ptD)] ∧ Mods ms ∧ Uses ms us ∧ ms.length ≤ 24 ∧ us.length ≤ 75 ∧ Q pFields [.tup ((srt lessS ms).map .str), .tup ((srt lessP us).map ptD), .tup ((partsS ms).map .str)] s
theorem spProgI_len {m : Mem} : ∀ ds s Qd, (spProgI : ISp m) ds s Qd → ds.length = 2 := fun ds s Qd ⟨_, _, e, _⟩ => by rw [e]; rfl
def spGetM {m : Mem} (C : Addr) : DSp m := fun ds s Q => ∃ ms us, ds = [progD C ms us] ∧ Q (.tup ((srt lessS ms).map .str)) s
def spGetU {m : Mem} (C : Addr) : DSp m := fun ds s Q => ∃ ms us, ds = [progD C ms us] ∧ Q (.tup ((srt lessP us).map ptD)) s
def spProgEq {m : Mem} (C : Addr) : DSp m := fun ds s Q => ∃ ms us y, ds = [progD C ms us, y] ∧ ((∃ ns vs, y = progD C ns vs ∧ Q (.bl (decide (srt lessS ms = srt lessS ns) && decide (srt lessP us = srt lessP vs))) s) ∨ ((tyT y).isSome = true ∧ Q (.bl false) s))
/-! ### walks -/
theorem enum_split {xs : List D} {pre post : List D} {x : D} (e : enumD xs = pre ++ x :: post) : ∃ p, xs[pre.length]? = some p ∧ x = .tup [.int (pre.length : Nat), p] := by
  have h : (enumD xs)[pre.length]? = some x := by rw [e]; simp
  exact enum_get h
theorem mid_map {α : Type} {f : α → D} {xs : List α} {pre post : List D} {y : D} (e : xs.map f = pre ++ y :: post) : ∃ x, xs[pre.length]? = some x ∧ y = f x ∧ pre = (xs.take pre.length).map f := by
  have h : (xs.map f)[pre.length]? = some y := by rw [e]; simp
  rw [List.getElem?_map] at h
  obtain ⟨x, h1, h2⟩ := Option.map_eq_some_iff.mp h
  refine ⟨x, h1, h2.symm, ?_⟩
  rw [List.map_take, e, List.take_left]
theorem Mods.ov {ms : List Str} (h : Mods ms) {i j : Nat} {x y : Str} (hij : i < j) (hx : ms[i]? = some x) (hy : ms[j]? = some y) : ovS x y = false := by
  obtain ⟨hi, rfl⟩ := List.getElem?_eq_some_iff.mp hx
  obtain ⟨hj, rfl⟩ := List.getElem?_eq_some_iff.mp hy
  exact List.pairwise_iff_getElem.mp h.alone i j hi hj hij
theorem no_any (l : List D) : ((l.map fun _ => false).any id) = false := by
  rw [List.any_eq_false]
  intro x hx
  obtain ⟨_, _, rfl⟩ := List.mem_map.mp hx
  simp
theorem lst_app (f : D → Bool) (l : List D) (d : D) : ifB (f d) ((l.filter f) ++ [d] = (l ++ [d]).filter f) (l.filter f = (l ++ [d]).filter f) := by
  cases h : f d with
  | true => show _ = _; rw [List.filter_append, List.filter_cons, h]; simp
  | false => show _ = _; rw [List.filter_append, List.filter_cons, h]; simp
theorem filter_any {α : Type} {f : α → Bool} {l : List α} : (l.filter f).isEmpty = !l.any f := by
  cases h : l.any f with
  | true =>
    obtain ⟨x, hx, hf⟩ := List.any_eq_true.mp h
    cases e : l.filter f with
    | nil =>
      have : x ∈ l.filter f := List.mem_filter.mpr ⟨hx, hf⟩
      rw [e] at this
      cases this
    | cons a r => rfl
  | false =>
    have : l.filter f = [] := List.filter_eq_nil_iff.mpr fun x hx hf => by
      rw [List.any_eq_true.mpr ⟨x, hx, hf⟩] at h
      cases h
    rw [this]; rfl
def ovD (x : Str) : D → Bool
  | .str z => ovS z x
  | _ => false
theorem Uses.sub {ms : List Str} {us vs : List (Str × Str)} (h : Uses ms us) (s : vs.Sublist us) : Uses ms vs := ⟨h.nd.sublist s, fun u hu => h.ok u (s.subset hu)⟩
theorem Mods.sub {ms ns : List Str} (h : Mods ms) (s : ns.Sublist ms) : Mods ns := ⟨fun x hx => h.path x (s.subset hx), h.alone.sublist s⟩
theorem Uses.none {ms : List Str} : Uses ms [] := ⟨List.nodup_nil, fun _ z => absurd z List.not_mem_nil⟩
theorem dec_self {α : Type} [DecidableEq α] (x : α) : decide (x = x) = true := decide_eq_true rfl
end RP

set_option Elab.async false
set_option linter.all false
set_option maxRecDepth 100000
set_option maxHeartbeats 1000000
namespace RP
open PySem PySem.Spec PyProof.Rows L2 TL DL TX TO
def T_lmodules05 : DTS Mem.deck :=
  (dSeq (dSetL 3 daNil)
      (dSeq (dFor (diR1 (daCons (dOp ixD (dLst (daCons (dVar 2) (daCons (dCall spNext (daCons (dVar 0) (daCons (dOp addD (dVar 2) (dC (D.int 1))) daNil))) daNil))) (dCall spNext (daCons (dVar 0) (daCons (dC (D.int 2)) daNil)))) daNil)) (gN 4)
        (dSeq (dSet 5 (dCall spPath (daCons (dVar 0) (daCons (dVar 1) (daCons (dC (D.int 6)) daNil)))))
        (dIf (dBackT (dCmT (eqE false) (dLc (diSeq (dVar 3)) (gN 6) (dTr (dCall spLover (daCons (dVar 6) (daCons (dVar 5) daNil)))) (dVar 6) [6]) (dLst daNil))) (dApp 3 (dVar 5)) dNext)))
      (dRet (dVar 3))))
theorem read_lmodules05 : ∀ ds s Qd, (spModules : DSp Mem.deck) ds s Qd → (T_lmodules05 : DTS Mem.deck) (endsOf Qd) (startD ["_law_deck_here", "_law_pool_here", "_law_most", "_law_found", "_law_k", "_law_path_here", "_law_module"] ds) s := by
  intro ds s Qd h
  obtain ⟨a, b, c, pool, most, rfl, hs, h1, h30, hp0, hp100, hp, hn, hQ⟩ := h
  have zl : ∀ n, n ≤ 2000 → n ≤ sizeLine := fun n h => line_of (by omega)
  have hlim : drawLim = 1152921504606846976 := rfl
  refine ⟨Nat.zero_le _, a, b, c, most + 1, hs, rfl, by omega, by omega, by omega, fun r k g0 g1 hk => ?_⟩
  refine ⟨(by show 2 ≤ sizeLine; exact zl _ (by decide)), a, b, c, 2, hs, rfl, by decide, by decide, by show k < _; omega, fun r2 k2 g2 g3 hk2 => ?_⟩
  have hk2 : k2 = k + 1 := hk2
  obtain ⟨n, hn2, hat⟩ := pick_ints [most, r] r2 g2 g3
  have hb : 0 ≤ n ∧ n ≤ most := by
    rcases List.mem_cons.mp hn2 with rfl | z
    · omega
    · rw [List.mem_singleton.mp z]; omega
  refine ⟨_, hat, n, rfl, by omega, by omega, ?_⟩
  refine ⟨fun pre ρ s' => s'.adr = some (a, b, c) ∧ s'.n ≤ k2 + 20 * pre.length ∧ ∃ c4 c5 c6 ms, ρ = [.sh (.any (.ref a)), .sh (.lst (pool.map .str)), .sh (.int most), .ow (.lst ((ms : List Str).map .str)), c4, c5, c6] ∧ Mods ms ∧ ms.length ≤ pre.length,
    ⟨hs, (by show k2 ≤ _; omega), _, _, _, [], rfl, ⟨fun _ z => absurd z List.not_mem_nil, .nil⟩, Nat.le_refl _⟩, ?_, ?_⟩
  · rintro pre y post ρ s' e ⟨e1, e2, c4, c5, c6, ms, rfl, hm, hl⟩
    obtain ⟨hlt, rfl⟩ := rng_pre e
    refine ⟨a, b, c, pool, 6, e1, rfl, by decide, by decide, hp0, hp100, fun x hx => (hp x hx).2.1, by omega, fun x k3 hx hk3 => ?_⟩
    have px := pathS_of hx hp
    have stay : ∀ (c4 c5 c6 : Sl), ∃ d4 d5 d6 ns, ([.sh (.any (.ref a)), .sh (.lst (pool.map .str)), .sh (.int most), .ow (.lst (ms.map .str)), c4, c5, c6] : List Sl) = [.sh (.any (.ref a)), .sh (.lst (pool.map .str)), .sh (.int most), .ow (.lst ((ns : List Str).map .str)), d4, d5, d6] ∧ Mods ns ∧ ns.length ≤ (pre ++ [D.int (0 + (pre.length : Int))]).length :=
      fun c4 c5 c6 => ⟨c4, c5, c6, ms, rfl, hm, by rw [List.length_append]; omega⟩
    refine ⟨_, rfl, zl _ (by rw [List.length_map]; omega), fun pre1 acc s3 => s3 = ⟨s'.adr, k3⟩ ∧ acc = pre1.filter (ovD x), ⟨rfl, rfl⟩, ?_, ?_⟩
    · rintro pre1 z post1 acc s3 e3 - ⟨rfl, rfl⟩
      obtain ⟨m0, hm0, rfl, -⟩ := mid_map e3
      have ha := lst_app (ovD x) pre1 (.str m0)
      refine ⟨m0, x, rfl, _, rfl, rfl, ?_⟩
      rw [ovS_lcov]
      refine ifB2 (fun q => ?_) fun q => ?_
      · rw [show ovD x (.str m0) = _ from q] at ha
        exact ⟨rfl, rfl, ha⟩
      · rw [show ovD x (.str m0) = _ from q] at ha
        exact ⟨rfl, ha⟩
    · rintro acc s3 - ⟨rfl, rfl⟩
      refine ⟨Nat.zero_le _, _, rfl, rfl, ?_⟩
      rw [Bool.false_xor, filter_any]
      have ea : (ms.map D.str).any (ovD x) = ms.any fun z => ovS z x := by rw [List.any_map]; rfl
      rw [ea]
      refine ifB2 (fun q => ?_) fun q => ?_
      · have q : ∀ z ∈ ms, ovS z x = false := by simpa using q
        refine ⟨⟨_, rfl⟩, _, rfl, zl _ (by rw [List.length_map]; omega), e1, (by show k3 ≤ _; rw [List.length_append, List.length_singleton]; omega), _, _, _, ms ++ [x], by rw [List.map_append]; rfl, ⟨fun z hz => ?_, ?_⟩, by rw [List.length_append, List.length_append]; exact Nat.add_le_add_right hl _⟩
        · rcases List.mem_append.mp hz with z' | z'
          · exact hm.path z z'
          · rw [List.mem_singleton.mp z']; exact px
        · rw [List.pairwise_append]
          refine ⟨hm.alone, List.pairwise_singleton _ _, fun u hu v hv => ?_⟩
          rw [List.mem_singleton.mp hv]
          exact q u hu
      · exact ⟨e1, (by show k3 ≤ _; rw [List.length_append, List.length_singleton]; omega), stay _ _ _⟩
  · rintro ρ s' ⟨e1, e2, c4, c5, c6, ms, rfl, hm, hl⟩
    rw [rngD_length] at e2 hl
    have z := hQ ms s'.n hm (by omega) (by omega)
    rw [hs, ← e1] at z
    exact z
def T_luses05 : DTS Mem.deck :=
  (dSeq (dSetL 3 daNil)
      (dSeq (dFor (diR1 (daCons (dOp mulD (dOp ixD (dLst (daCons (dVar 2) (daCons (dCall spNext (daCons (dVar 0) (daCons (dOp addD (dVar 2) (dC (D.int 1))) daNil))) daNil))) (dCall spNext (daCons (dVar 0) (daCons (dC (D.int 2)) daNil)))) (dB intBD (daCons (dCm gtD (dB lenD (daCons (dVar 1) daNil)) (dC (D.int 1))) daNil))) daNil)) (gN 4)
        (dSeq (dSet 5 (dOp ixD (dVar 1) (dCall spNext (daCons (dVar 0) (daCons (dB lenD (daCons (dVar 1) daNil)) daNil)))))
        (dSeq (dSet 6 (dOp ixD (dVar 1) (dCall spNext (daCons (dVar 0) (daCons (dB lenD (daCons (dVar 1) daNil)) daNil)))))
        (dIf (dBackT (dAndT (dCmT neC (dVar 5) (dVar 6)) (dCmT notInD (dTup (daCons (dVar 5) (daCons (dVar 6) daNil))) (dVar 3)))) (dApp 3 (dTup (daCons (dVar 5) (daCons (dVar 6) daNil)))) dNext))))
      (dRet (dVar 3))))
theorem read_luses05 : ∀ ds s Qd, (spUses : DSp Mem.deck) ds s Qd → (T_luses05 : DTS Mem.deck) (endsOf Qd) (startD ["_law_deck_here", "_law_modules_here", "_law_most", "_law_found", "_law_k", "_law_user", "_law_used"] ds) s := by
  intro ds s Qd h
  obtain ⟨a, b, c, ms, most, rfl, hs, h1, h100, hl, hn, hQ⟩ := h
  have zl : ∀ n, n ≤ 2000 → n ≤ sizeLine := fun n h => line_of (by omega)
  have hlim : drawLim = 1152921504606846976 := rfl
  refine ⟨Nat.zero_le _, a, b, c, most + 1, hs, rfl, by omega, by omega, by omega, fun r k g0 g1 hk => ?_⟩
  refine ⟨(by show 2 ≤ sizeLine; exact zl _ (by decide)), a, b, c, 2, hs, rfl, by decide, by decide, by show k < _; omega, fun r2 k2 g2 g3 hk2 => ?_⟩
  have hk2 : k2 = k + 1 := hk2
  obtain ⟨n, hn2, hat⟩ := pick_ints [most, r] r2 g2 g3
  have hb : 0 ≤ n ∧ n ≤ most := by
    rcases List.mem_cons.mp hn2 with rfl | z
    · omega
    · rw [List.mem_singleton.mp z]; omega
  refine ⟨_, hat, _, _, rfl, rfl, _, rfl, ?_⟩
  rw [List.length_map]
  obtain ⟨v, ev, hv⟩ : ∃ v : Int, n * (if decide ((1 : Int) < (ms.length : Nat)) then 1 else 0) = v ∧ 0 ≤ v ∧ v ≤ most ∧ (0 < v → 1 < ms.length) := by
    refine ⟨_, rfl, ?_⟩
    by_cases h : 1 < ms.length
    · rw [if_pos (decide_eq_true (by omega))]; omega
    · rw [if_neg (by rw [decide_eq_false (by omega)]; decide)]; omega
  refine ⟨.inl (by omega), v, by show [D.int (n * _)] = _; rw [ev], by omega, by omega, ?_⟩
  refine ⟨fun pre ρ s' => s'.adr = some (a, b, c) ∧ s'.n ≤ k2 + 2 * pre.length ∧ ∃ c4 c5 c6 us, ρ = [.sh (.any (.ref a)), .sh (.lst (ms.map .str)), .sh (.int most), .ow (.lst ((us : List (Str × Str)).map ptD)), c4, c5, c6] ∧ Uses ms us ∧ us.length ≤ pre.length,
    ⟨hs, (by show k2 ≤ _; omega), _, _, _, [], rfl, ⟨List.nodup_nil, fun _ z => absurd z List.not_mem_nil⟩, Nat.le_refl _⟩, ?_, ?_⟩
  · rintro pre y post ρ s' e ⟨e1, e2, c4, c5, c6, us, rfl, hu, hul⟩
    obtain ⟨hlt, rfl⟩ := rng_pre e
    have big : 1 < ms.length := hv.2.2 (by omega)
    refine ⟨_, _, rfl, rfl, a, b, c, _, e1, rfl, by rw [List.length_map]; omega, by rw [List.length_map]; omega, by omega, fun r3 k3 g4 g5 hk3 => ?_⟩
    have hk3 : k3 = s'.n + 1 := hk3
    rw [List.length_map] at g5
    obtain ⟨x, hx, hat3⟩ := pick_map D.str ms r3 g4 g5
    refine ⟨_, hat3, _, _, rfl, rfl, a, b, c, _, e1, rfl, by rw [List.length_map]; omega, by rw [List.length_map]; omega, by show k3 < _; omega, fun r4 k4 g6 g7 hk4 => ?_⟩
    have hk4 : k4 = k3 + 1 := hk4
    rw [List.length_map] at g7
    obtain ⟨z, hz, hat4⟩ := pick_map D.str ms r4 g6 g7
    have nn : k4 ≤ k2 + 2 * (pre ++ [D.int (0 + (pre.length : Int))]).length := by rw [List.length_append, List.length_singleton]; omega
    refine ⟨_, hat4, rfl, rfl, ?_⟩
    rw [eqs]
    by_cases hxz : x = z
    · rw [decide_eq_true hxz]
      exact ⟨e1, nn, _, _, _, us, rfl, hu, by rw [List.length_append]; omega⟩
    · rw [decide_eq_false hxz]
      have two : 2 ≤ sizeLine := zl 2 (by decide)
      refine ⟨two, rfl, plain_prs 57 us, ?_⟩
      rw [show (us.map ptD).any (fun y => eqD y (.tup [.str x, .str z])) = decide ((x, z) ∈ us) from any_pr us (x, z)]
      by_cases hin : (x, z) ∈ us
      · rw [decide_eq_true hin]
        exact ⟨e1, nn, _, _, _, us, rfl, hu, by rw [List.length_append]; omega⟩
      · rw [decide_eq_false hin]
        refine ⟨⟨_, rfl⟩, two, _, rfl, zl _ (by rw [List.length_map]; omega), e1, nn, _, _, _, us ++ [(x, z)], by rw [List.map_append]; rfl, ⟨?_, fun u hu' => ?_⟩, by rw [List.length_append, List.length_append]; exact Nat.add_le_add_right hul _⟩
        · rw [List.nodup_append]
          exact ⟨hu.nd, List.nodup_cons.mpr ⟨List.not_mem_nil, List.nodup_nil⟩, fun u h1 v h2 e => hin (by rw [List.mem_singleton.mp h2] at e; exact e ▸ h1)⟩
        · rcases List.mem_append.mp hu' with w | w
          · exact hu.ok u w
          · rw [List.mem_singleton.mp w]; exact ⟨hx, hz, hxz⟩
  · rintro ρ s' ⟨e1, e2, c4, c5, c6, us, rfl, hu, hul⟩
    rw [rngD_length] at e2 hul
    have z := hQ us s'.n hu (by omega) (by omega)
    rw [hs, ← e1] at z
    exact z
def T_getm05 (a : Nat → Addr) {m : Mem} : DTS m :=
  (dRet (dFld (a 24) (Str.ofString "_modules") (dVar 0)))
theorem read_getm05 {a : Nat → Addr} {m : Mem} : ∀ ds s Qd, (spGetM (a 24) : DSp m) ds s Qd → (T_getm05 a : DTS m) (endsOf Qd) (startD ["self"] ds) s := by
  intro ds s Qd h
  obtain ⟨ms, us, rfl, hQ⟩ := h
  exact ⟨_, _, _, rfl, rfl, hQ⟩
def T_getu05 (a : Nat → Addr) {m : Mem} : DTS m :=
  (dRet (dFld (a 24) (Str.ofString "_uses") (dVar 0)))
theorem read_getu05 {a : Nat → Addr} {m : Mem} : ∀ ds s Qd, (spGetU (a 24) : DSp m) ds s Qd → (T_getu05 a : DTS m) (endsOf Qd) (startD ["self"] ds) s := by
  intro ds s Qd h
  obtain ⟨ms, us, rfl, hQ⟩ := h
  exact ⟨_, _, _, rfl, rfl, hQ⟩
def T_mod_error05 {m : Mem} : DTS m :=
  (dSeq (dIf (dOrT (dNotT (dTr (dB isiD (daCons (dVar 0) (daCons (dC (D.any (V.ty "tuple"))) daNil))))) (dCmT gtD (dB lenD (daCons (dVar 0) daNil)) (dC (D.int 24)))) (dRet (dTup (daCons (dC D.non) (daCons (dC (D.str (Str.ofString "modules"))) daNil)))) dNext)
      (dSeq (dFor (dEnumA (daCons (dVar 0) daNil)) (gTup' 2 (gCons' (gN 1) (gCons' (gN 2) gNil')))
        (dSeq (dIf (dNotT (dTr (dCall spIsPath (daCons (dVar 2) daNil)))) (dRet (dTup (daCons (dVar 1) (daCons (dC (D.str (Str.ofString "path"))) daNil)))) dNext)
        (dIf (dTr (dB anyD (daCons (dLc (diSeq (dSl slD (dVar 0) doNone (doSome (dVar 1)))) (gN 3) dYes (dCall spOverlap (daCons (dVar 3) (daCons (dVar 2) daNil))) [3]) daNil))) (dRet (dTup (daCons (dVar 1) (daCons (dC (D.str (Str.ofString "overlap"))) daNil)))) dNext)))
      (dRet (dC D.non))))
theorem read_mod_error05 {m : Mem} : ∀ ds s Qd, (spModErr : DSp m) ds s Qd → (T_mod_error05 : DTS m) (endsOf Qd) (startD ["modules", "index", "module", "earlier"] ds) s := by
  intro ds s Qd h
  obtain ⟨ms, rfl, h1, h2, hQ⟩ := h
  have zl : ∀ n, n ≤ 2000 → n ≤ sizeLine := fun n h => line_of (by omega)
  refine ⟨_, .tup, .tup, rfl, rfl, (by intro z; cases z), _, rfl, _, _, rfl, rfl, ?_⟩
  rw [List.length_map]
  refine ifBd (fun g => absurd g (by omega)) fun _ => ?_
  refine ⟨_, _, rfl, .inr rfl, fun pre ρ s' => s' = s ∧ ∃ c1 c2 c3, ρ = [.sh (.tup (ms.map .str)), c1, c2, c3], ⟨rfl, _, _, _, rfl⟩, ?_, ?_⟩
  · rintro pre y post ρ s' e ⟨rfl, c1, c2, c3, rfl⟩
    obtain ⟨y0, hy0, rfl⟩ := enum_split e
    rw [List.getElem?_map] at hy0
    obtain ⟨m0, hm0, rfl⟩ := Option.map_eq_some_iff.mp hy0
    have hm : m0 ∈ ms := List.mem_of_getElem? hm0
    have hlt : pre.length < ms.length := (List.getElem?_eq_some_iff.mp hm0).1
    have hp := h1.path m0 hm
    refine ⟨_, rfl, rfl, _, _, rfl, _, _, rfl, rfl, _, rfl, ⟨⟨.str, rfl⟩, fun x e => by cases e; have := hp.2; omega⟩, _, rfl, ?_⟩
    rw [show isPathD (.str m0) = true from hp.1]
    refine ⟨_, rfl, _, rfl, ?_⟩
    have ec := cut_take (ms.map D.str) pre.length
    rw [ec, ← List.map_take]
    refine ⟨zl _ (by rw [List.length_map, List.length_take]; omega), fun pre1 acc s3 => s3 = s' ∧ acc = (pre1.map fun _ => false).map D.bl, ⟨rfl, rfl⟩, ?_, ?_⟩
    · rintro pre1 z post1 acc s3 e1 - ⟨rfl, rfl⟩
      obtain ⟨m1, hm1, rfl, -⟩ := mid_map e1
      have l1 : pre1.length < pre.length := by
        have := (List.getElem?_eq_some_iff.mp hm1).1
        rw [List.length_take] at this
        omega
      rw [List.getElem?_take_of_lt l1] at hm1
      have hm1' := (h1.path m1 (List.mem_of_getElem? hm1)).2
      refine ⟨rfl, m1, m0, rfl, by omega, by have := hp.2; omega, rfl, rfl, ?_⟩
      rw [show (coversS m1 m0 || coversS m0 m1) = false from h1.ov l1 hm1 hm0, List.map_append, List.map_append]
      rfl
    · rintro acc s3 - ⟨rfl, rfl⟩
      refine ⟨_, rfl, _, rfl, ?_⟩
      rw [no_any]
      exact ⟨rfl, _, _, _, rfl⟩
  · rintro ρ s' ⟨rfl, c1, c2, c3, rfl⟩
    exact hQ
def T_is_pair05 {m : Mem} : DTS m :=
  (dRet (dAndV (dB isiD (daCons (dVar 0) (daCons (dC (D.any (V.ty "tuple"))) daNil))) (dAndV (dCm eqC (dB lenD (daCons (dVar 0) daNil)) (dC (D.int 2))) (dAndV (dCm neC (dOp ixD (dVar 0) (dC (D.int 0))) (dOp ixD (dVar 0) (dC (D.int 1)))) (dAndV (dCm (inTD false) (dOp ixD (dVar 0) (dC (D.int 0))) (dVar 1)) (dCm (inTD false) (dOp ixD (dVar 0) (dC (D.int 1))) (dVar 1)))))))
theorem read_is_pair05 {m : Mem} : ∀ ds s Qd, (spIsPair : DSp m) ds s Qd → (T_is_pair05 : DTS m) (endsOf Qd) (startD ["value", "modules"] ds) s := by
  intro ds s Qd h
  obtain ⟨p, ms, rfl, h1, h2, h3, h4, hQ⟩ := h
  refine ⟨_, .tup, .tup, rfl, rfl, (by intro z; cases z), _, rfl, ?_⟩
  refine ⟨_, _, rfl, rfl, rfl, rfl, _, rfl, ?_⟩
  refine ⟨_, atI_nat (j := 0) rfl, _, atI_nat (j := 1) rfl, rfl, rfl, _, rfl, ?_⟩
  rw [eqs, decide_eq_false h1]
  refine ⟨_, atI_nat (j := 0) rfl, _, rfl, rfl, plain_strs 58 ms, ?_⟩
  rw [Bool.false_xor, any_str, decide_eq_true h2]
  refine ⟨_, rfl, _, atI_nat (j := 1) rfl, _, rfl, rfl, plain_strs 58 ms, ?_⟩
  rw [Bool.false_xor, any_str, decide_eq_true h3]
  exact hQ
def T_use_error05 (w : World) {m : Mem} : DTS m :=
  (dSeq (dIf (dOrT (dNotT (dTr (dB isiD (daCons (dVar 1) (daCons (dC (D.any (V.ty "tuple"))) daNil))))) (dCmT gtD (dB lenD (daCons (dVar 1) daNil)) (dC (D.int 200)))) (dRet (dTup (daCons (dC D.non) (daCons (dC (D.str (Str.ofString "uses"))) daNil)))) dNext)
      (dSeq (dSetP w 2)
      (dSeq (dFor (dEnumA (daCons (dVar 1) daNil)) (gTup' 2 (gCons' (gN 3) (gCons' (gN 4) gNil')))
        (dSeq (dIf (dNotT (dTr (dCall spIsPair (daCons (dVar 4) (daCons (dVar 0) daNil))))) (dRet (dTup (daCons (dVar 3) (daCons (dC (D.str (Str.ofString "use"))) daNil)))) dNext)
        (dSeq (dIf (dInP w false (dVar 4) 2) (dRet (dTup (daCons (dVar 3) (daCons (dC (D.str (Str.ofString "again"))) daNil)))) dNext)
        (dAddP w 2 (dVar 4)))))
      (dRet (dC D.non)))))
theorem read_use_error05 {w : World} {m : Mem} : ∀ ds s Qd, (spUseErr : DSp m) ds s Qd → (T_use_error05 w : DTS m) (endsOf Qd) (startD ["modules", "uses", "seen", "index", "use"] ds) s := by
  intro ds s Qd h
  obtain ⟨ms, us, rfl, h1, h2, h3, hQ⟩ := h
  refine ⟨_, .tup, .tup, rfl, rfl, (by intro z; cases z), _, rfl, _, _, rfl, rfl, ?_⟩
  rw [List.length_map]
  refine ifBd (fun g => absurd g (by omega)) fun _ => ?_
  refine ⟨_, _, rfl, .inr rfl, fun pre ρ s' => s' = s ∧ ∃ c3 c4 ks, ρ = [.sh (.tup (ms.map .str)), .sh (.tup (us.map ptD)), .ow (.bag (psO w) ks), c3, c4] ∧ ks.length = pre.length ∧ ∀ k ∈ ks, ∃ j p, j < pre.length ∧ us[j]? = some p ∧ k = [p.1, p.2], ⟨rfl, _, _, [], rfl, rfl, fun _ z => absurd z List.not_mem_nil⟩, ?_, ?_⟩
  · rintro pre y post ρ s' e ⟨rfl, c3, c4, ks, rfl, hl, hk⟩
    obtain ⟨y0, hy0, rfl⟩ := enum_split e
    rw [List.getElem?_map] at hy0
    obtain ⟨u, hu0, rfl⟩ := Option.map_eq_some_iff.mp hy0
    have hu := h1.ok u (List.mem_of_getElem? hu0)
    have hlt : pre.length < us.length := (List.getElem?_eq_some_iff.mp hu0).1
    have new : [u.1, u.2] ∉ ks := fun z => by
      obtain ⟨j, p, hj, hp, e⟩ := hk _ z
      injection e with e1 e2
      injection e2 with e2 _
      have : u = p := Prod.ext e1 e2
      subst this
      exact absurd ((List.getElem?_inj (by omega) h1.nd).mp (hp.trans hu0.symm)) (by omega)
    refine ⟨_, rfl, rfl, _, _, rfl, _, _, rfl, rfl, u, ms, rfl, hu.2.2, hu.1, hu.2.1, by omega, _, rfl, ?_⟩
    refine ⟨[u.1, u.2], ks, rfl, rfl, ?_⟩
    rw [decide_eq_false new]
    refine ⟨⟨ks, rfl⟩, [u.1, u.2], ks, rfl, rfl, by omega, ?_⟩
    rw [if_neg new]
    refine ⟨rfl, _, _, _, rfl, by rw [List.length_cons, List.length_append, hl]; rfl, fun k hk' => ?_⟩
    rcases List.mem_cons.mp hk' with rfl | hk'
    · exact ⟨pre.length, u, by rw [List.length_append]; show _ < _ + 1; omega, hu0, rfl⟩
    · obtain ⟨j, p, hj, hp, e⟩ := hk k hk'
      exact ⟨j, p, by rw [List.length_append]; omega, hp, e⟩
  · rintro ρ s' ⟨rfl, c3, c4, ks, rfl, _, _⟩
    exact hQ
def T_prog_error05 {m : Mem} : DTS m :=
  (dSeq (dSet 2 (dCall spModErr (daCons (dVar 0) daNil)))
      (dSeq (dIf (dCmT isD' (dVar 2) (dC D.non)) (dSet 2 (dCall spUseErr (daCons (dVar 0) (daCons (dVar 1) daNil)))) dNext)
      (dRet (dVar 2))))
theorem read_prog_error05 {m : Mem} : ∀ ds s Qd, (spProgErr : DSp m) ds s Qd → (T_prog_error05 : DTS m) (endsOf Qd) (startD ["modules", "uses", "error"] ds) s := by
  intro ds s Qd h
  obtain ⟨ms, us, rfl, h1, h2, h3, h4, hQ⟩ := h
  exact ⟨ms, rfl, h1, h3, (fun _ => by intro z; cases z), ms, us, rfl, h2, h3, h4, hQ⟩
def T_parts05 (w : World) {m : Mem} : DTS m :=
  (dSeq (dSetT w 1)
      (dSeq (dFor (diSeq (dVar 0)) (gN 2)
        (dSeq (dSet 3 (dVar 2))
        (dWhile (dCmT isntD' (dVar 3) (dC D.non))
          (dSeq (dAddT w 1 (dVar 3))
          (dSet 3 (dCall spParent (daCons (dVar 3) daNil)))))))
      (dRet (dB tupD (daCons (dSortT w 1) daNil)))))
theorem read_parts05 {w : World} {m : Mem} : ∀ ds s Qd, (spParts : DSp m) ds s Qd → (T_parts05 w : DTS m) (endsOf Qd) (startD ["modules", "found", "module", "path"] ds) s := by
  intro ds s Qd h
  obtain ⟨ms, rfl, h1, h2, hQ⟩ := h
  have room : ∀ qs : List Str, (∀ q ∈ qs, q ∈ ms) → qs.length ≤ ms.length → (qs.flatMap ups).length ≤ 144 := fun qs h hl => by
    have key : ∀ qs : List Str, (∀ q ∈ qs, q ∈ ms) → (qs.flatMap ups).length ≤ 6 * qs.length := by
      intro qs
      induction qs with
      | nil => intro _; exact Nat.zero_le _
      | cons q qs ih =>
        intro h
        rw [List.flatMap_cons, List.length_append, List.length_cons]
        have := ups_len (h1.path q (h q List.mem_cons_self))
        have := ih fun y hy => h y (List.mem_cons_of_mem _ hy)
        omega
    have := key qs h
    omega
  refine ⟨_, rfl, fun pre ρ s' => s' = s ∧ ∃ c2 c3, ∃ qs : List Str, pre = qs.map D.str ∧ ρ = [.sh (.tup (ms.map .str)), .ow (.box (txO w (once (qs.flatMap ups)))), c2, c3], ⟨rfl, _, _, [], rfl, rfl⟩, ?_, ?_⟩
  · rintro pre y post ρ s' e ⟨rfl, c2, c3, qs, rfl, rfl⟩
    obtain ⟨m0, hm0, rfl, eq⟩ := mid_map e
    rw [List.length_map] at hm0
    have hm : m0 ∈ ms := List.mem_of_getElem? hm0
    have hlt : qs.length < ms.length := (List.getElem?_eq_some_iff.mp hm0).1
    have sub : ∀ q ∈ qs, q ∈ ms := fun q hq => by
      have : D.str q ∈ ms.map D.str := by rw [e]; exact List.mem_append_left _ (List.mem_map_of_mem hq)
      obtain ⟨q', h', e'⟩ := List.mem_map.mp this
      cases e'
      exact h'
    have hp := h1.path m0 hm
    refine ⟨fun n ρ s2 => s2 = s' ∧ ∃ (acc : List Str) (p : Option Str), ρ = [.sh (.tup (ms.map .str)), .ow (.box (txO w (once acc))), .sh (.str m0), .sh (optS p)] ∧ (∀ x, p = some x → PathS x) ∧ acc ++ (match p with | none => [] | some x => ups x) = (qs ++ [m0]).flatMap ups ∧
      n = (match p with | none => 0 | some x => (splS 46 x).length), ⟨_, rfl, qs.flatMap ups, some m0, rfl, fun x e => by cases e; exact hp, by rw [List.flatMap_append, List.flatMap_singleton], rfl⟩, ?_⟩
    rintro n ρ s2 ⟨rfl, acc, p, rfl, hp', hacc, rfl⟩
    cases p with
    | none =>
      refine ⟨(by intro w z; cases z), ?_⟩
      rw [List.append_nil] at hacc
      exact ⟨rfl, _, _, qs ++ [m0], by rw [List.map_append]; rfl, by rw [hacc]⟩
    | some x =>
      have hx := hp' x rfl
      refine ⟨(by intro w z; cases z), ?_⟩
      have step := ups_step hx
      have few := room (qs ++ [m0]) (fun q hq => by
        rcases List.mem_append.mp hq with z | z
        · exact sub q z
        · rw [List.mem_singleton.mp z]; exact hm) (by rw [List.length_append]; show _ + 1 ≤ _; omega)
      have la : acc.length ≤ 144 := by
        rw [← hacc, List.length_append] at few
        omega
      have lo := once_len acc
      refine ⟨⟨_, rfl⟩, x, once acc, rfl, rfl, by omega, x, rfl, ?_⟩
      rw [← once_snoc]
      refine ⟨(match parentS x with | none => 0 | some y => (splS 46 y).length), ?_, rfl, acc ++ [x], parentS x, rfl, fun y e => (parent_path hx e).1, ?_, rfl⟩
      · cases e : parentS x with
        | none => exact List.length_pos_iff.mpr (splS_ne 46 x)
        | some y => exact (parent_path hx e).2
      · rw [← hacc, List.append_assoc]
        show _ = acc ++ ups x
        rw [step]
        rfl
  · rintro ρ s' ⟨rfl, c2, c3, qs, e, rfl⟩
    have eq : qs = ms := (map_str_inj e).symm
    subst eq
    have few := room qs (fun q hq => hq) (Nat.le_refl _)
    have lo := once_len (qs.flatMap ups)
    refine ⟨_, rfl, by omega, fun x hx => ?_, _, _, rfl, rfl, hQ⟩
    obtain ⟨q, hq, hx'⟩ := List.mem_flatMap.mp (once_mem.mp hx)
    exact (ups_paths (h1.path q hq) x hx').ok
def T_prog_init05 (w : World) (a : Nat → Addr) {m : Mem} : DTS m :=
  (dSeq (dSet 3 (dCall spProgErr (daCons (dVar 1) (daCons (dVar 2) daNil))))
      (dSeq (dIf (dCmT isntD' (dVar 3) (dC D.non)) dNever dNext)
      (dSeq (dFst (a 24) 0 (Str.ofString "_modules") (dB tupD (daCons (dB sortD (daCons (dVar 1) daNil)) daNil)))
      (dSeq (dFst (a 24) 0 (Str.ofString "_uses") (dB tupD (daCons (dB sortD (daCons (dVar 2) daNil)) daNil)))
      (dFst (a 24) 0 (Str.ofString "_parts") (dCall spParts (daCons (dVar 1) daNil)))))))
theorem read_prog_init05 {w : World} {a : Nat → Addr} {m : Mem} : ∀ ds s Qd (x dx : Addr), (spProgI : ISp m) ds s Qd → (T_prog_init05 w a : DTS m) (endsI x dx (a 24) Qd) ((startD ["self", "modules", "uses", "error"] (.any (.ref x) :: ds)).set 0 (.ow (.ins x dx (a 24) [] []))) s := by
  intro ds s Qd x dx h
  obtain ⟨ms, us, rfl, h1, h2, h3, h4, hQ⟩ := h
  refine ⟨ms, us, rfl, h1, h2, h3, h4, (by intro w z; cases z), ?_⟩
  refine .inl ⟨_, ms, rfl, rfl, _, _, rfl, rfl, x, dx, [], [], rfl, (by simp), (by decide), ?_⟩
  refine .inr ⟨_, us, rfl, rfl, _, _, rfl, rfl, x, dx, _, _, rfl, (by decide +kernel), (by decide), ?_⟩
  refine ⟨ms, rfl, h1, h3, x, dx, _, _, rfl, (by decide +kernel), (by decide), ?_⟩
  exact ⟨_, _, rfl, hQ⟩
def T_eq05 (a : Nat → Addr) {m : Mem} : DTS m :=
  (dSeq (dIf (dNotT (dTr (dB (isoC (a 24)) (daCons (dVar 1) (daCons (dC (D.any (V.ref (a 24)))) daNil))))) (dRet (dC (D.bl false))) dNext)
      (dRet (dAndV (dCm eqC (dProp (a 24) (spGetM (a 24)) (dVar 0)) (dProp (a 24) (spGetM (a 24)) (dVar 1))) (dCm eqC (dProp (a 24) (spGetU (a 24)) (dVar 0)) (dProp (a 24) (spGetU (a 24)) (dVar 1))))))
theorem read_eq05 {a : Nat → Addr} {m : Mem} : ∀ ds s Qd, (spProgEq (a 24) : DSp m) ds s Qd → (T_eq05 a : DTS m) (endsOf Qd) (startD ["self", "other"] ds) s := by
  intro ds s Qd h
  obtain ⟨ms, us, y, rfl, h⟩ := h
  rcases h with ⟨ns, vs, rfl, hQ⟩ | ⟨hy, hQ⟩
  · refine .inr ⟨_, _, rfl, true, rfl, ?_⟩
    refine ⟨⟨_, _, rfl⟩, ms, us, rfl, ⟨_, _, rfl⟩, ns, vs, rfl, plain_tup _, plain_tup _, _, rfl, ?_⟩
    rw [show eqD (.tup ((srt lessS ms).map .str)) (.tup ((srt lessS ns).map .str)) = decide (srt lessS ms = srt lessS ns) from eqDs_str _ _]
    refine ifB2 (fun h => ?_) fun h => ?_
    · refine ⟨⟨_, _, rfl⟩, ms, us, rfl, ⟨_, _, rfl⟩, ns, vs, rfl, plain_tupP _, plain_tupP _, ?_⟩
      rw [show eqD (.tup ((srt lessP us).map ptD)) (.tup ((srt lessP vs).map ptD)) = decide (srt lessP us = srt lessP vs) from eqDs_pr _ _]
      rw [h, Bool.true_and] at hQ
      exact hQ
    · rw [h, Bool.false_and] at hQ
      rw [h]
      exact hQ
  · exact .inl ⟨_, rfl, hy, false, rfl, hQ⟩
end RP

set_option Elab.async false
set_option linter.all false
set_option maxRecDepth 100000
set_option maxHeartbeats 1000000
/-! LP2: walks that keep or drop; programs and'ed, without others' uses -/
namespace RP
open PySem PySem.Spec PyProof.Rows L2 TL DL TX TO
theorem zl2 {n : Nat} (h : n ≤ 2000) : n ≤ sizeLine := line_of (by omega)
/-- [e for x in xs if p x], nothing drawn -/
theorem lcF {α : Type} {m : Mem} {f h : α → D} {p : α → Bool} {g : DG} {tt : DTT m} {te : DT m} {vs : List Nat} {ρ1 : List Sl} {s1 : m.S} {Q : DK m} (xs : List α) (hl : xs.length ≤ 2000)
    (turn : ∀ x ∈ xs, ∀ (T : D → m.S → Prop) (U : m.S → Prop), (p x = true → T (h x) s1) → (p x = false → U s1) → g (f x) (wipeD ρ1 vs) fun ρ2 => tt ρ2 s1 fun b ρ3 s3 => ρ3 = ρ2 ∧ ifB b (te ρ2 s3 fun y ρ4 s4 => ρ4 = ρ2 ∧ T y s4) (U s3))
    (fin : Q (.lst ((xs.filter p).map h)) ρ1 s1) : lcK g tt te vs Q (xs.map f) ρ1 s1 := by
  refine ⟨by rw [List.length_map]; exact zl2 hl, fun pre acc s => s = s1 ∧ acc = ((xs.take pre.length).filter p).map h, ⟨rfl, rfl⟩, ?_, ?_⟩
  · rintro pre y post acc s e - ⟨rfl, rfl⟩
    obtain ⟨x, hx, rfl, -⟩ := mid_map e
    have ht : xs.take (pre.length + 1) = xs.take pre.length ++ [x] := by
      rw [List.take_add_one, hx]; rfl
    refine turn x (List.mem_of_getElem? hx) _ _ (fun hp => ?_) fun hp => ?_
    · refine ⟨rfl, ?_⟩
      rw [List.length_append, List.length_singleton, ht, List.filter_append, List.map_append, List.filter_cons, hp]; rfl
    · refine ⟨rfl, ?_⟩
      rw [List.length_append, List.length_singleton, ht, List.filter_append, List.map_append, List.filter_cons, hp]; simp
  · rintro acc s - ⟨rfl, rfl⟩
    rw [List.length_map, List.take_length]
    exact fin
/-! ### promises -/
end RP

set_option Elab.async false
set_option linter.all false
set_option maxRecDepth 100000
set_option maxHeartbeats 1000000
/-! GD: values that may be asked about and shown: few signs and items, not deep, of little weight -/
namespace RG
open PySem PySem.Spec PyProof.Rows L2 TL DL
theorem shown_int40 {i : Int} (h : i.natAbs < 10 ^ 40) : (PyData.shown (.int i)).length ≤ 41 := by
  have e := int_text_length_le10 (k := 40) (by decide) h
  show (Str.ofString (toString i)).length ≤ 41
  rw [PySem.ofString_length]; exact e
/-! ### values that may be shown: their leaves, their depth, their weight -/
mutual
def gl : D → Bool
  | .non => true
  | .bl _ => true
  | .int i => decide (i.natAbs < 10 ^ 40)
  | .str x => (tl x).all fun c => decide (c < 1114112)
  | .lst xs => gls xs
  | .tup xs => gls xs
  | .dic ks xs => glk ks xs
  | _ => false
def gls : List D → Bool
  | [] => true
  | d :: ds => gl d && gls ds
def glk : List Key → List D → Bool
  | [], [] => true
  | .inr x :: ks, d :: ds => ((tl x).all fun c => decide (c < 1114112)) && (gl d && glk ks ds)
  | _, _ => false
end
theorem str_leaf {B : Nat} {x : Str} (h : ((tl x).all fun c => decide (c < 1114112)) = true) : (PyData.str x).leavesShort B = true := by
  show (x.cps.toList.all fun c => decide (c < 16 ^ 8)) = true
  rw [List.all_eq_true] at h ⊢
  intro c hc
  have := of_decide_eq_true (h c hc)
  exact decide_eq_true (by omega)
mutual
theorem gl_leaves : ∀ d : D, gl d = true → (pyR d).leavesShort 41 = true ∧ (pyR d).showable = true
  | .non, _ => ⟨rfl, rfl⟩
  | .bl _, _ => ⟨rfl, rfl⟩
  | .int i, h => by
    have h : decide (i.natAbs < 10 ^ 40) = true := h
    have h := of_decide_eq_true h
    refine ⟨decide_eq_true (shown_int40 h), decide_eq_true ?_⟩
    have : i.natAbs.log2 < 1920 := by
      by_cases hz : i.natAbs = 0
      · rw [hz]; decide
      · have : i.natAbs.log2 < 200 := (Nat.log2_lt hz).mpr (Nat.lt_of_lt_of_le h (by decide))
        omega
    exact this
  | .str x, h => ⟨str_leaf h, rfl⟩
  | .lst xs, h => gls_leaves xs h
  | .tup xs, h => gls_leaves xs h
  | .dic ks xs, h => glk_leaves ks xs h
  | .ins _ _ _, h => by cases h
  | .any _, h => by cases h
  | .fz _, h => by cases h
  | .exc _ _ _, h => by cases h
theorem gls_leaves : ∀ ds : List D, gls ds = true → PyData.leavesShortAll 41 (pyRs ds) = true ∧ PyData.showableAll (pyRs ds) = true
  | [], _ => ⟨rfl, rfl⟩
  | d :: ds, h => by
    have h : (gl d && gls ds) = true := h
    rw [Bool.and_eq_true] at h
    obtain ⟨a1, a2⟩ := gl_leaves d h.1
    obtain ⟨b1, b2⟩ := gls_leaves ds h.2
    constructor
    · show (_ && _) = true; rw [a1, b1]; rfl
    · show (_ && _) = true; rw [a2, b2]; rfl
theorem glk_leaves : ∀ (ks : List Key) (ds : List D), glk ks ds = true → PyData.leavesShortKv 41 (pyRk ks ds) = true ∧ PyData.showableKv (pyRk ks ds) = true
  | [], [], _ => ⟨rfl, rfl⟩
  | .inl i :: ks, [], h => by cases h
  | .inl i :: ks, d :: ds, h => by cases h
  | .inr x :: ks, d :: ds, h => by
    have h : (((tl x).all fun c => decide (c < 1114112)) && (gl d && glk ks ds)) = true := h
    rw [Bool.and_eq_true, Bool.and_eq_true] at h
    obtain ⟨a1, a2⟩ := gl_leaves d h.2.1
    obtain ⟨b1, b2⟩ := glk_leaves ks ds h.2.2
    have c1 := str_leaf (B := 41) h.1
    constructor
    · show ((PyData.leavesShort 41 (.str x) && _) && _) = true
      rw [c1, a1, b1]; rfl
    · show ((PyData.showable (.str x) && _) && _) = true
      rw [a2, b2]; rfl
  | [], _ :: _, h => by cases h
  | .inr _ :: _, [], h => by cases h
end
theorem repOk_of {d : D} (h1 : repD 60 d = true) (h2 : gl d = true) (h3 : (pyR d).weight ≤ 100000) : repOk d = true := by
  obtain ⟨a1, a2⟩ := gl_leaves d h2
  have h := PyData.shown_le 41 (by decide) (pyR d) a1
  unfold repOk
  rw [h1, a2, Bool.true_and, Bool.true_and]
  refine decide_eq_true (Nat.le_trans h ?_)
  have : (4400000 : Nat) ≤ sizeLine := by rw [sizeLine_eq]; decide
  omega
mutual
/-- texts and tuples of few signs and items -/
def sm (N : Nat) : D → Bool
  | .non => true
  | .bl _ => true
  | .int _ => true
  | .lst _ => true
  | .dic _ _ => true
  | .str x => decide (x.length ≤ N)
  | .tup xs => decide (xs.length ≤ N) && sms N xs
  | _ => false
def sms (N : Nat) : List D → Bool
  | [] => true
  | d :: ds => sm N d && sms N ds
end
theorem sms_iff {N : Nat} : ∀ {xs : List D}, sms N xs = true ↔ ∀ x ∈ xs, sm N x = true
  | [] => ⟨fun _ _ h => (by cases h), fun _ => rfl⟩
  | d :: ds => by
    show (sm N d && sms N ds) = true ↔ _
    rw [Bool.and_eq_true, sms_iff, List.forall_mem_cons]
theorem gls_iff : ∀ {xs : List D}, gls xs = true ↔ ∀ x ∈ xs, gl x = true
  | [] => ⟨fun _ _ h => (by cases h), fun _ => rfl⟩
  | d :: ds => by
    show (gl d && gls ds) = true ↔ _
    rw [Bool.and_eq_true, gls_iff, List.forall_mem_cons]
theorem repDs_iff {n : Nat} : ∀ {xs : List D}, repDs n xs = true ↔ ∀ x ∈ xs, repD n x = true
  | [] => ⟨fun _ _ h => by (cases h), fun _ => by simp [repDs]⟩
  | d :: ds => by
    simp only [repDs]
    rw [Bool.and_eq_true, repDs_iff, List.forall_mem_cons]
theorem rep_tup {n : Nat} {xs : List D} : repD (n + 1) (.tup xs) = repDs n xs := by simp only [repD]
theorem rep_lst {n : Nat} {xs : List D} : repD (n + 1) (.lst xs) = repDs n xs := by simp only [repD]
mutual
theorem rep_mono : ∀ (n : Nat) (d : D), repD n d = true → repD (n + 1) d = true
  | n, .non, _ => by simp [repD]
  | n, .bl _, _ => by simp [repD]
  | n, .int _, _ => by simp [repD]
  | n, .str _, _ => by simp [repD]
  | 0, .lst _, h => by simp [repD] at h
  | n + 1, .lst xs, h => by
    simp only [repD] at h ⊢
    exact reps_mono n xs h
  | 0, .tup _, h => by simp [repD] at h
  | n + 1, .tup xs, h => by
    simp only [repD] at h ⊢
    exact reps_mono n xs h
  | 0, .dic _ _, h => by simp [repD] at h
  | n + 1, .dic _ xs, h => by
    simp only [repD] at h ⊢
    exact reps_mono n xs h
  | n, .ins _ _ _, h => by simp [repD] at h
  | n, .any _, h => by simp [repD] at h
  | n, .fz _, h => by simp [repD] at h
  | n, .exc _ _ _, h => by simp [repD] at h
theorem reps_mono : ∀ (n : Nat) (ds : List D), repDs n ds = true → repDs (n + 1) ds = true
  | n, [], _ => by simp [repDs]
  | n, d :: ds, h => by
    simp only [repDs] at h ⊢
    rw [Bool.and_eq_true] at h ⊢
    exact ⟨rep_mono n d h.1, reps_mono n ds h.2⟩
end
theorem rep_le {d : D} {n : Nat} (h : repD n d = true) : ∀ m, n ≤ m → repD m d = true
  | 0, hm => by
    have e : n = 0 := by omega
    rw [e] at h; exact h
  | m + 1, hm => by
    by_cases e : n = m + 1
    · rw [← e]; exact h
    · exact rep_mono m d (rep_le h m (by omega))
theorem sm_tup {N : Nat} {xs : List D} (h : sm N (.tup xs) = true) : xs.length ≤ N ∧ ∀ x ∈ xs, sm N x = true := by
  have h : (decide (xs.length ≤ N) && sms N xs) = true := h
  rw [Bool.and_eq_true] at h
  exact ⟨of_decide_eq_true h.1, sms_iff.mp h.2⟩
theorem tup_sm {N : Nat} {xs : List D} (h1 : xs.length ≤ N) (h2 : ∀ x ∈ xs, sm N x = true) : sm N (.tup xs) = true := by
  show (decide (xs.length ≤ N) && sms N xs) = true
  rw [decide_eq_true h1, sms_iff.mpr h2]; rfl
mutual
theorem sm_mono {N M : Nat} (hN : N ≤ M) : ∀ d : D, sm N d = true → sm M d = true
  | .non, _ => rfl
  | .bl _, _ => rfl
  | .int _, _ => rfl
  | .lst _, _ => rfl
  | .dic _ _, _ => rfl
  | .str _, h => decide_eq_true (Nat.le_trans (of_decide_eq_true h) hN)
  | .tup xs, h => by
    have h : (decide (xs.length ≤ N) && sms N xs) = true := h
    rw [Bool.and_eq_true] at h
    show (decide (xs.length ≤ M) && sms M xs) = true
    rw [decide_eq_true (Nat.le_trans (of_decide_eq_true h.1) hN), sms_mono hN xs h.2]; rfl
  | .ins _ _ _, h => by cases h
  | .any _, h => by cases h
  | .fz _, h => by cases h
  | .exc _ _ _, h => by cases h
theorem sms_mono {N M : Nat} (hN : N ≤ M) : ∀ ds : List D, sms N ds = true → sms M ds = true
  | [], _ => rfl
  | d :: ds, h => by
    have h : (sm N d && sms N ds) = true := h
    rw [Bool.and_eq_true] at h
    show (sm M d && sms M ds) = true
    rw [sm_mono hN d h.1, sms_mono hN ds h.2]; rfl
end
def wt (d : D) : Nat := (pyR d).weight
def wl (xs : List D) : Nat := PyData.weightAll (pyRs xs)
theorem wl_cons (d : D) (ds : List D) : wl (d :: ds) = wt d + 1 + wl ds := by
  show PyData.weightAll (pyR d :: pyRs ds) = _
  simp only [PyData.weightAll]; rfl
theorem wl_nil : wl [] = 0 := by show PyData.weightAll [] = 0; simp only [PyData.weightAll]
theorem wt_tup (xs : List D) : wt (.tup xs) = wl xs := by
  show (PyData.tuple (pyRs xs)).weight = _
  simp only [PyData.weight]; rfl
theorem wt_lst (xs : List D) : wt (.lst xs) = wl xs := by
  show (PyData.list (pyRs xs)).weight = _
  simp only [PyData.weight]; rfl
theorem wt_str (x : Str) : wt (.str x) = x.length := by
  show (PyData.str x).weight = _
  simp only [PyData.weight]; rfl
theorem wl_app (xs ys : List D) : wl (xs ++ ys) = wl xs + wl ys := by
  induction xs with
  | nil => rw [List.nil_append, wl_nil]; omega
  | cons d ds ih => rw [List.cons_append, wl_cons, wl_cons, ih]; omega
theorem wl_mem {x : D} {xs : List D} (h : x ∈ xs) : wt x + 1 ≤ wl xs := by
  induction xs with
  | nil => cases h
  | cons d ds ih =>
    rw [wl_cons]
    rcases List.mem_cons.mp h with rfl | h
    · omega
    · have := ih h; omega
/-- what the drawing defs give: asked about and shown -/
structure Gd (N W n : Nat) (d : D) : Prop where
  s : sm N d = true
  r : repD n d = true
  g : gl d = true
  w : wt d ≤ W
structure Gs (N W n : Nat) (xs : List D) : Prop where
  s : ∀ x ∈ xs, sm N x = true
  r : ∀ x ∈ xs, repD n x = true
  g : ∀ x ∈ xs, gl x = true
  w : wl xs ≤ W
theorem Gd.mono {N W n N' W' n' : Nat} {d : D} (h : Gd N W n d) (h1 : N ≤ N') (h2 : W ≤ W') (h3 : n ≤ n') : Gd N' W' n' d := ⟨sm_mono h1 d h.s, rep_le h.r _ h3, h.g, Nat.le_trans h.w h2⟩
theorem Gs.mono {N W n N' W' n' : Nat} {d : List D} (h : Gs N W n d) (h1 : N ≤ N') (h2 : W ≤ W') (h3 : n ≤ n') : Gs N' W' n' d := ⟨fun x hx => sm_mono h1 x (h.s x hx), fun x hx => rep_le (h.r x hx) _ h3, h.g, Nat.le_trans h.w h2⟩
theorem Gd.items {N W n : Nat} {xs : List D} (h : Gd N W (n + 1) (.tup xs)) : Gs N W n xs ∧ xs.length ≤ N := by
  obtain ⟨h1, h2⟩ := sm_tup h.s
  have hr := h.r
  rw [rep_tup] at hr
  have hw := h.w
  rw [wt_tup] at hw
  exact ⟨⟨h2, repDs_iff.mp hr, gls_iff.mp h.g, hw⟩, h1⟩
theorem Gs.tup {N W n : Nat} {xs : List D} (h : Gs N W n xs) (hl : xs.length ≤ N) : Gd N W (n + 1) (.tup xs) :=
  ⟨tup_sm hl h.s, by rw [rep_tup]; exact repDs_iff.mpr h.r, gls_iff.mpr h.g, by rw [wt_tup]; exact h.w⟩
theorem Gs.lst {N W n : Nat} {xs : List D} (h : Gs N W n xs) : Gd N W (n + 1) (.lst xs) :=
  ⟨rfl, by rw [rep_lst]; exact repDs_iff.mpr h.r, gls_iff.mpr h.g, by rw [wt_lst]; exact h.w⟩
theorem Gs.app {N W W' n : Nat} {xs ys : List D} (h : Gs N W n xs) (h' : Gs N W' n ys) : Gs N (W + W') n (xs ++ ys) :=
  ⟨fun x hx => (List.mem_append.mp hx).elim (h.s x) (h'.s x), fun x hx => (List.mem_append.mp hx).elim (h.r x) (h'.r x), fun x hx => (List.mem_append.mp hx).elim (h.g x) (h'.g x), by rw [wl_app]; have := h.w; have := h'.w; omega⟩
theorem Gs.one {N W n : Nat} {x : D} (h : Gd N W n x) : Gs N (W + 1) n [x] :=
  ⟨fun y hy => by rw [List.mem_singleton.mp hy]; exact h.s, fun y hy => by rw [List.mem_singleton.mp hy]; exact h.r, fun y hy => by rw [List.mem_singleton.mp hy]; exact h.g, by rw [wl_cons, wl_nil]; have := h.w; omega⟩
theorem Gs.mem {N W n : Nat} {xs : List D} (h : Gs N W n xs) {x : D} (hx : x ∈ xs) : Gd N W n x := ⟨h.s x hx, h.r x hx, h.g x hx, by have := wl_mem hx; have := h.w; omega⟩
def gdB (N W n : Nat) (d : D) : Bool := sm N d && (repD n d && (gl d && decide (wt d ≤ W)))
theorem gd_of {N W n : Nat} {d : D} (h : gdB N W n d = true) : Gd N W n d := by
  unfold gdB at h
  rw [Bool.and_eq_true, Bool.and_eq_true, Bool.and_eq_true] at h
  exact ⟨h.1, h.2.1, h.2.2.1, of_decide_eq_true h.2.2.2⟩
theorem gd_str {x : Str} {N : Nat} (h : x.length ≤ N) (hc : ∀ c ∈ tl x, c < 1114112) (n : Nat) : Gd N N n (.str x) :=
  ⟨decide_eq_true h, by simp [repD], List.all_eq_true.mpr fun c hx => decide_eq_true (hc c hx), by rw [wt_str]; exact h⟩
theorem Gd.ok {N W n : Nat} {d : D} (h : Gd N W n d) (h2 : W ≤ 100000) (h3 : n ≤ 60) : repOk d = true := repOk_of (rep_le h.r _ h3) h.g (Nat.le_trans h.w h2)
theorem sm_ty {N : Nat} {d : D} (h : sm N d = true) : (tyT d).isSome = true := by
  cases d with
  | ins _ _ _ => cases h
  | any _ => cases h
  | fz _ => cases h
  | exc _ _ _ => cases h
  | cau _ _ _ _ => cases h
  | exk _ _ _ => cases h
  | _ => rfl
theorem Gd.ty {N W n : Nat} {d : D} (h : Gd N W n d) : ∃ t, tyT d = some t := Option.isSome_iff_exists.mp (sm_ty h.s)
end RG

set_option Elab.async false
set_option linter.all false
set_option maxRecDepth 100000
/-! EL20: a, b, .. = a list of that length, over data -/
namespace DL
open PySem PySem.Spec PyProof.Rows L2 TL
section
variable {X : Cx} {m : Mem} {pos : Pos}
end
end DL

set_option Elab.async false
set_option linter.all false
set_option maxRecDepth 100000
/-! EL21: len(set(xs)), xs a list or a tuple of texts -/
namespace DL
open PySem PySem.Spec PyProof.Rows L2 TL TX TO
section
variable {X : Cx}
variable {m : Mem} {e : Expr} {te : DT m} {pos p p2 cp : Pos}
end
end DL

set_option Elab.async false
set_option linter.all false
set_option maxRecDepth 100000
set_option maxHeartbeats 1000000
/-! ZN: zip of two tuples, its pairs under one name: whether the zip finds its last pair alive or not, a new pair is handed out -/
namespace ZN
open PySem PySem.Spec PyProof.Rows L2 RZ
open PySem.Sem (wp)
abbrev IsZ (h : Heap) (z TI TO : Addr) (f0 f1 : Value) : Prop :=
  h.get? z = some { cls := .type "zip", dict := none, data := .fields #[f0, f1, .bool false, .ref TI, .ref TO], slots := #[] }
/-- what the zip remembers of its last pair -/
def Mark (v : Value) : Prop := v = .none ∨ ∃ r : Nat, v = rawInt r
section
variable {prog : Program} {w : World} {A : Around} {E : Value → Shared → Prop} {s : Shared}
theorem look {a : Addr} {Q : Option Obj → Shared → Prop} (h : Q (s.heap.get? a) s) : wpAny (model prog w) A (loadIfAlive a) Q E s := fun Γ p hΓ => by
  unfold loadIfAlive
  rw [Sem.wp_loadIfAlive]
  exact h
theorem free {z TI TO : Addr} {f0 f1 : Value} {Q : Bool → Shared → Prop} (hz : IsZ s.heap z TI TO f0 f1) (hf : Mark f0)
    (q : ∀ b g1 h', IsZ h' z TI TO f0 g1 → Heap.SameBut z s.heap h' → Q b { s with heap := h' }) : wpAny (model prog w) A (Builtin.SmallTypes.ownedTupleIsFree (.ref z)) Q E s := by
  unfold Builtin.SmallTypes.ownedTupleIsFree
  refine wpAny_bind (wpAny_field hz rfl (x := f0) rfl ?_)
  rcases hf with rfl | ⟨r, rfl⟩
  · exact wpAny_pure (q true f1 s.heap hz (Heap.SameBut.refl ..))
  · show wpAny _ _ (loadIfAlive (Int.toNat r) >>= _) _ _ _
    refine wpAny_bind (look ?_)
    cases s.heap.get? (Int.toNat r) with
    | none => exact wpAny_pure (q true f1 s.heap hz (Heap.SameBut.refl ..))
    | some o =>
      show wpAny _ _ (field (.ref z) 1 >>= _) _ _ _
      refine wpAny_bind (wpAny_field hz rfl (x := f1) rfl ?_)
      by_cases c : (f1 != .bool true) = true
      · simp only [c, if_true]
        refine wpAny_bind (wpAny_setField_rec hz (by simp) fun h' hz' sb => wpAny_pure ?_)
        exact q false (.bool true) h' hz' sb
      · simp only [c, if_false]
        exact wpAny_pure (q false f1 s.heap hz (Heap.SameBut.refl ..))

end
section
variable {prog : Program} {w : World} {A : Around} {E : Value → Shared → Prop} {s : Shared}
end
end ZN
namespace DL
open PySem PySem.Spec PyProof.Rows L2 TL
section
variable {X : Cx} {m : Mem} {ta : DTA m} {p pos : Pos}
end
end DL

set_option Elab.async false
set_option linter.all false
set_option maxRecDepth 100000
set_option maxHeartbeats 1000000
/-! LP3: rows of modules: chains or not -/
namespace RP
open PySem PySem.Spec PyProof.Rows L2 TL DL TX TO RG
/-! ### rows -/
/-! ### promises -/
def spOdd11 : DSp Mem.deck := fun ds s Q => ∃ a b c x, ds = [.any (.ref a), .str x] ∧ s.adr = some (a, b, c) ∧ PathS x ∧ s.n < drawLim ∧ ∀ d k, Gd 150 700 4 d → k = s.n + 1 → Q d ⟨s.adr, k⟩
theorem spOdd11_len : ∀ ds s Qd, (spOdd11 : DSp Mem.deck) ds s Qd → ds.length = 2 := fun ds s Qd ⟨_, _, _, _, e, _⟩ => by rw [e]; rfl
theorem path_gd {x : Str} (h : PathS x) (n : Nat) : Gd 150 100 n (.str x) := (gd_str h.2 (fun c hc => sOk_cps h.ok c hc) n).mono (by omega) (Nat.le_refl _) (Nat.le_refl _)
theorem plain_of {x : Str} (h : PathS x) : Plain x := by
  refine ⟨Nat.le_trans h.2 (by decide), fun c hc => ?_⟩
  have e := join_splS 46 x
  have hm : c ∈ tl (joinS dot (splS 46 x)) := by rw [show joinS dot (splS 46 x) = x from e]; exact hc
  have hm : c ∈ joinL [46] ((splS 46 x).map tl) := by
    have e2 : tl (joinS dot (splS 46 x)) = joinL [46] ((splS 46 x).map tl) := tl_join _ _
    rw [e2] at hm; exact hm
  have key : ∀ (ls : List (List Nat)), (∀ l ∈ ls, ∀ c ∈ l, 97 ≤ c ∧ c ≤ 122) → ∀ c ∈ joinL [46] ls, c = 46 ∨ (97 ≤ c ∧ c ≤ 122) := by
    intro ls
    induction ls with
    | nil => intro _ c hc; cases hc
    | cons l ls ih =>
      intro h c hc
      cases ls with
      | nil => exact .inr (h l List.mem_cons_self c hc)
      | cons l2 r =>
        rw [joinL_cons _ _ (by simp)] at hc
        rcases List.mem_append.mp hc with z | z
        · exact .inr (h l List.mem_cons_self c z)
        · rcases List.mem_append.mp z with z | z
          · exact .inl (List.mem_singleton.mp z)
          · exact ih (fun l hl => h l (List.mem_cons_of_mem _ hl)) c z
  refine key _ (fun l hl c hc => ?_) c hm
  obtain ⟨n, hn, rfl⟩ := List.mem_map.mp hl
  have z := h.names.2 n hn
  unfold okName at z
  rw [Bool.and_eq_true, List.all_eq_true] at z
  have y := z.2 c hc
  unfold okc at y
  rw [Bool.and_eq_true] at y
  exact ⟨of_decide_eq_true y.1, of_decide_eq_true y.2⟩
theorem gd_dict {x : Str} (h : PathS x) : Gd 150 700 3 (.dic [.inr x] [.str x]) := by
  have g := path_gd h 2
  refine ⟨rfl, by simp [repD, repDs], ?_, ?_⟩
  · show (((tl x).all fun c => decide (c < 1114112)) && (gl (.str x) && true)) = true
    rw [g.g, show ((tl x).all fun c => decide (c < 1114112)) = gl (.str x) from rfl, g.g]; rfl
  · have := h.2
    have e : wt (.dic [.inr x] [.str x]) = x.length + x.length + 2 := by
      show (PyData.dict [(.str x, .str x)]).weight = _
      simp [PyData.weight, PyData.weightKv]
      rfl
    rw [e]; omega
theorem a_path : PathS (Str.ofString "a") := ⟨by decide +kernel, by decide +kernel⟩
end RP

set_option Elab.async false
set_option linter.all false
set_option maxRecDepth 100000
set_option maxHeartbeats 1000000
namespace RP
open PySem PySem.Spec PyProof.Rows L2 TL DL TX TO RG

def T_odd11 : DTS Mem.deck :=
  (dSeq (dSet 2 (dLst (daCons (dC D.non) (daCons (dC (D.bl true)) (daCons (dC (D.bl false)) (daCons (dC (D.int 0)) (daCons (dC (D.int 1)) (daCons (dUn negD (dC (D.int 1))) (daCons (dOp powD (dC (D.int 10)) (dC (D.int 30))) (daCons (dC (D.str (Str.ofString ""))) (daCons (dC (D.str (Str.ofString "."))) (daCons (dC (D.str (Str.ofString "A"))) (daCons (dC (D.str (Str.ofString "a."))) (daCons (dC (D.str (Str.ofString ".a"))) (daCons (dC (D.str (Str.ofString "a..b"))) (daCons (dC (D.str (Str.ofString "a b"))) (daCons (dC (D.str (Str.ofString "abcdefghi"))) (daCons (dC (D.str (Str.ofString "a\n"))) (daCons (dC (D.str (Str.ofString " a"))) daNil)))))))))))))))))))
      (dSeq (dSet 2 (dOp addD (dVar 2) (dLst (daCons (dC (D.str (Str.ofString "a.b.c.d.e.f.g"))) (daCons (dTup daNil) (daCons (dLst daNil) (daCons dDict0 (daCons (dTup (daCons (dVar 1) daNil)) (daCons (dLst (daCons (dVar 1) daNil)) (daCons (dDict1 1 1) (daCons (dTup (daCons (dVar 1) (daCons (dVar 1) daNil))) (daCons (dTup (daCons (dVar 1) (daCons (dVar 1) (daCons (dVar 1) daNil)))) daNil))))))))))))
      (dSeq (dSet 2 (dOp addD (dVar 2) (dLst (daCons (dOp addD (dVar 1) (dC (D.str (Str.ofString ".")))) (daCons (dOp addD (dVar 1) (dC (D.str (Str.ofString "\n")))) (daCons (dMt0 "str" upperD (dVar 1)) (daCons (dOp addD (dVar 1) (dC (D.str (Str.ofString "-")))) (daCons (dLst (daCons (dVar 1) (daCons (dVar 1) daNil))) (daCons (dTup (daCons (dC (D.str (Str.ofString "a"))) (daCons (dLst daNil) (daCons dDict0 daNil)))) (daCons (dTup (daCons (dTup (daCons (dVar 1) (daCons (dVar 1) daNil))) daNil)) daNil))))))))))
      (dRet (dOp ixD (dVar 2) (dCall spNext (daCons (dVar 0) (daCons (dB lenD (daCons (dVar 2) daNil)) daNil))))))))
theorem read_odd11 : ∀ ds s Qd, (spOdd11 : DSp Mem.deck) ds s Qd → (T_odd11 : DTS Mem.deck) (endsOf Qd) (startD ["_law_deck_here", "_law_path_here", "_law_some_here"] ds) s := by
  intro ds s Qd h
  obtain ⟨a, b, c, x, rfl, hs, hx, hn, hQ⟩ := h
  have pl := plain_of hx
  have hx2 := hx.2
  have hlim : strLim = 1000000 := rfl
  have h46 : (Str.ofString ".").length = 1 := by decide +kernel
  have h10 : (Str.ofString "\n").length = 1 := by decide +kernel
  have h45 : (Str.ofString "-").length = 1 := by decide +kernel
  have hup := PyProof.Rows.len_upper x
  have hok := plain_upper pl
  refine ⟨cpow30, lz rfl, ?_⟩
  refine ⟨lz rfl, lz rfl, lz rfl, lz rfl, _, _, rfl, rfl, lz rfl, lz rfl, lz rfl, lz rfl, ?_⟩
  refine ⟨(by rw [h46]; omega), (by rw [h10]; omega), rfl, x, rfl, rfl, hok, (by rw [h45]; omega), lz rfl, lz rfl, lz rfl, lz rfl, lz rfl, lz rfl, lz rfl, ?_⟩
  refine ⟨_, 33, rfl, rfl, a, b, c, 33, hs, rfl, by decide, by decide, by omega, fun r k h0 h1 hk => ?_⟩
  have g := path_gd hx 3
  have gs : ∀ y : Str, y.length = 1 → (∀ c ∈ tl y, c < 1114112) → Gd 150 700 4 (.str (x ++ y)) := fun y e hy => by
    refine (gd_str (N := 101) (by rw [len_add, e]; omega) (fun c hc => ?_) 4).mono (by decide) (by decide) (Nat.le_refl _)
    rw [tl_append] at hc
    rcases List.mem_append.mp hc with z | z
    · exact sOk_cps hx.ok c z
    · exact hy c z
  have ul : (Txt.upper x).length ≤ 100 := by
    rw [upper_ascii (x := x) (fun c hc => by rcases pl.2 c hc with e | e <;> omega)]
    show (x.cps.map up1).size ≤ 100
    rw [Array.size_map]
    exact hx2
  have up : Gd 150 700 4 (.str (Txt.upper x)) := (gd_str ul (fun c hc => sOk_cps hok c hc) 4).mono (by decide) (by decide) (Nat.le_refl _)
  have one : Gs 150 101 3 [.str x] := (Gs.one g).mono (Nat.le_refl _) (by decide) (Nat.le_refl _)
  have two := one.app one
  have three := two.app one
  refine ix_pick h0 h1 fun d hd => hQ d k (?_ : Gd 150 700 4 d) hk
  revert d
  refine List.forall_mem_append.mpr ⟨List.forall_mem_append.mpr ⟨?_, ?_⟩, ?_⟩
  all_goals
    repeat' first | exact (fun _ h => absurd h List.not_mem_nil) | refine List.forall_mem_cons.mpr ⟨?_, ?_⟩
  all_goals first
    | exact gd_of (by decide +kernel)
    | exact (one.tup (by show 1 ≤ 150; decide)).mono (Nat.le_refl _) (by decide) (Nat.le_refl _)
    | exact one.lst.mono (Nat.le_refl _) (by decide) (Nat.le_refl _)
    | exact (gd_dict hx).mono (Nat.le_refl _) (by decide) (by decide)
    | exact (two.tup (by show 2 ≤ 150; decide)).mono (Nat.le_refl _) (by decide) (Nat.le_refl _)
    | exact (three.tup (by show 3 ≤ 150; decide)).mono (Nat.le_refl _) (by decide) (Nat.le_refl _)
    | exact two.lst.mono (Nat.le_refl _) (by decide) (Nat.le_refl _)
    | exact up
    | exact gs _ h46 (by decide +kernel)
    | exact gs _ h10 (by decide +kernel)
    | exact gs _ h45 (by decide +kernel)
    | exact (Gs.one (((path_gd hx 2).mono (Nat.le_refl _) (Nat.le_refl _) (Nat.le_refl _) |> fun q => ((Gs.one q).app (Gs.one q)).tup (by show 2 ≤ 150; decide)))).tup (by show 1 ≤ 150; decide) |>.mono (Nat.le_refl _) (by decide) (Nat.le_refl _)
end RP

set_option Elab.async false
set_option linter.all false
set_option maxRecDepth 100000
/-! EL22: x, y = f(..), y a list that the def will change: f is asked with nothing known but its arguments, so what it gives is new -/
namespace DL
open PySem PySem.Spec PyProof.Rows L2 TL TX TO
section
variable {m : Mem} {K : PySem.W.Frag} {F1 F2 F3 H1 H2 : Hp} {σ : L2.St} {ρ1 : List Sl} {s1 s' : m.S}
end
section
variable {X : Cx} {m : Mem} {e : Expr} {es : List Expr} {u : DTA m} {E : Ent m}
end
end DL

set_option Elab.async false
set_option linter.all false
set_option maxRecDepth 100000
/-! EL23: behind a value that is a tuple of texts, too, the own lists are the slots' own again -/
namespace DL
open PySem PySem.Spec PyProof.Rows L2 TL TX TO
section
variable {K : PySem.W.Frag} {m : Mem} {F H F' H' : Hp} {σ : L2.St} {ρ ρ' : List Sl} {s s' : m.S}
end
section
variable {X : Cx} {m : Mem} {e : Expr} {te : DT m}
end
end DL

set_option Elab.async false
set_option linter.all false
set_option maxRecDepth 100000
/-! EL24: a def's own dict written; a dict of lists that are changed where they lie (next_table) -/
namespace DL
open PySem PySem.Spec PyProof.Rows L2 TL
section
variable {K : PySem.W.Frag} {m : Mem} {F H : Hp} {σ : L2.St} {ρ : List Sl} {s : m.S} {L L' A B : List (Addr × List Str)} {q : Addr} {xs ys : List Str} {E : Ent (Mem.hot m)}
end
section
variable {X : Cx} {m : Mem} {pos : Pos} {e b : Expr}
variable {te tb : DT (Mem.hot m)} {E : Ent (Mem.hot m)}
end
section
variable {X : Cx} {pos : Pos}
end
section
variable {P : Program} {w : World} {K : PySem.W.Frag} {mg : Str → Option Value} {base : Heap} {m : Mem}
end
end DL

set_option Elab.async false
set_option linter.all false
set_option maxRecDepth 100000
/-! EL25: defs with a default: made, bound with all arguments or without the last, called without it -/
namespace DL
open PySem PySem.Spec PyProof.Rows L2 TL
section
variable {P : Program} {w : World} {K : PySem.W.Frag} {mg : Str → Option Value} {base : Heap} {m : Mem}
end
section
variable {K : PySem.W.Frag} {x qual : Str} {st : Stmt} {f : Addr} {oc : Value} {od an : Option Addr} {osl : Array (Option Value)} {kV doc pm cdv ct : Value} {T : Addr} {oT : Obj} {n : Nat} {ps : List Str} {b : Bool}
end
section
variable {X : Cx} {m : Mem} {u : DTA m} {x : Str} {p pos : Pos} {e : Expr} {es : List Expr}
end
section
variable {X : Cx} {m : Mem} {te td : DT m} {pos : Pos} {e o : Expr}
end
end DL

set_option Elab.async false
set_option linter.all false
set_option maxRecDepth 100000
/-! EL26: a dict handed out that is new: its place is in the state beside, so that it may be locked and walked -/
namespace DL
open PySem PySem.Spec PyProof.Rows L2 TL
/-- beside the state of m: new dicts, told by their keys -/
def Mem.dk (m : Mem) : Mem where
  S := m.S × List (Addr × List Key)
  M := fun s H => m.M s.1 H ∧ (s.2.map Prod.fst).Nodup ∧ ∀ p ∈ s.2, (∃ kvs : List (Key × V), H p.1 = some (.dK kvs) ∧ kvs.map (·.1) = p.2 ∧ kvs.length ≤ sizeLine) ∧ ¬ m.R s.1 p.1
  R := fun s a => m.R s.1 a ∨ ∃ p ∈ s.2, p.1 = a
  loc := fun s H H' h k => ⟨m.loc s.1 H H' h.1 fun a ha => k a (.inl ha), h.2.1, fun p hp => by
    obtain ⟨⟨kvs, h1, h2⟩, h3⟩ := h.2.2 p hp
    exact ⟨⟨kvs, (k p.1 (.inr ⟨p, hp, rfl⟩)).trans h1, h2⟩, h3⟩⟩
  there := fun s H a h ha => by
    rcases ha with ha | ⟨p, hp, rfl⟩
    · exact m.there s.1 H a h.1 ha
    · obtain ⟨⟨kvs, h1, _⟩, _⟩ := h.2.2 p hp
      rw [h1]; simp
section
variable {X : Cx} {tg e : Expr} {td : TE}
end
section
variable {X : Cx} {m : Mem} {te : DT (Mem.dk m)} {tg e : Expr} {pos : Pos} {E : Ent (Mem.dk m)}
end
end DL

set_option Elab.async false
set_option linter.all false
set_option maxRecDepth 100000
/-! EL27: a call with one keyword, the last parameter (keyword-only or not) -/
namespace DL
open PySem PySem.Spec PyProof.Rows L2 TL
section
variable {X : Cx} {CX : CXT} {k n : Nat} {f : Addr} {fd : FuncData} {ps : List Str} {sp : Sp} {E : XK} {x kw : Str} {p pos kpos : Pos} {e c : Expr} {es : List Expr} {t : TA} {tc : TE}
end
section
variable {X : Cx} {m : Mem} {u : DTA m} {tc : DT m} {x kw : Str} {p pos kpos : Pos} {e c : Expr} {es : List Expr}
end
section
variable {K : PySem.W.Frag} {x qual kw : Str} {st : Stmt} {f : Addr} {oc : Value} {od an : Option Addr} {osl : Array (Option Value)} {doc pm cdv ct : Value} {D : Addr} {ps : List Str} {b : Bool}
end
end DL

set_option Elab.async false
set_option linter.all false
set_option maxRecDepth 100000
/-! EL28: x, y = [], [e for ..], both own -/
namespace DL
open PySem PySem.Spec PyProof.Rows L2 TL
section
variable {X : Cx} {m : Mem} {E : Ent m}
end
end DL

set_option Elab.async false
set_option linter.all false
set_option maxRecDepth 100000
/-! EM1: {**x, k: v} -/
namespace DL
open PySem PySem.Spec PyProof.Rows L2 TL
section
variable {prog : Program} {w : World} {J : Type} [DecidableEq J] {κ : PySem.KeyKind prog w J} {A : Around} {E : Value → Shared → Prop} {s : Shared}
end
section
variable {X : Cx} {em ek ev : Expr} {pos : Pos} {tm tk tv : TE}
end
end DL

set_option Elab.async false
set_option linter.all false
set_option maxRecDepth 100000
/-! EM2: {**x, k: v} over data: x, k, v names, k a key of x -/
namespace DL
open PySem PySem.Spec PyProof.Rows L2 TL
section
variable {K : PySem.W.Frag} {F : Hp}
end
section
variable {X : Cx} {m : Mem} {pos : Pos}
end
end DL

set_option Elab.async false
set_option linter.all false
set_option maxRecDepth 100000
/-! EM3: for k, v in f(x, y).items(): f is asked knowing x alone, so that what it gives is seen to be new, and may be locked -/
namespace DL
open PySem PySem.Spec PyProof.Rows L2 TL TX TO
section
variable {X : Cx} {e : Expr} {td : TE}
end
section
variable {m : Mem} {K : PySem.W.Frag} {F0 F1 F2 F3 H1 H2 : Hp} {σ : L2.St} {ρ1 : List Sl} {s1 s' : m.S}
end
section
variable {X : Cx} {m : Mem} {e : Expr} {es : List Expr} {u : DTA m}
end
end DL

set_option Elab.async false
set_option linter.all false
set_option maxRecDepth 100000
/-! EM4: min(x) of a list of data that are alike; x[k] = e, k a key of x or not -/
namespace DL
open PySem PySem.Spec PyProof.Rows L2 TL TX TO
section
variable {X : Cx} {pins : List (Addr × Obj)} {σ : L2.St} {H : Hp} {s : Shared}
end
/-! ### x[k] = e -/
section
variable {X : Cx} {m : Mem} {pos : Pos} {e b : Expr}
end
/-! ### x is True -/
end DL

set_option Elab.async false
set_option linter.all false
set_option maxRecDepth 100000
set_option maxHeartbeats 1000000
/-! EM5: {e for x in a for y in b}, each e a text: at the model -/
namespace SC2
open PySem PySem.Spec PyProof.Rows L2 TL DL TX TO
abbrev two (elt t0 i0 t1 i1 : Expr) (sc : Scope) (pos : Pos) : Expr := .SetComp elt [⟨t0, i0, [], 0⟩, ⟨t1, i1, [], 0⟩] sc pos
section
variable {prog : Program} {w : World} {A : Around} {R : Result → Shared → Prop} {s : Shared} {elt t0 i0 t1 i1 : Expr} {sc : Scope} {pos : Pos} {it acc : Value} {env : Env}
end
section
variable {X : Cx}
end
end SC2

set_option Elab.async false
set_option linter.all false
set_option maxRecDepth 100000
set_option maxHeartbeats 1000000
/-! EM6: sorted({e for x in a for y in b}), each e a text: over data -/
namespace DL
open PySem PySem.Spec PyProof.Rows L2 TL TX TO
section
variable {X : Cx} {m : Mem}
end
end DL

set_option Elab.async false
set_option linter.all false
set_option maxRecDepth 100000
set_option maxHeartbeats 1000000
/-! EM7: max(x, key=len, default=None), x a list of texts -/
namespace DL
open PySem PySem.Spec PyProof.Rows L2 TL TX TO
section
variable {X : Cx} {m : Mem} {e : Expr} {p p2 p3 p4 p5 pos : Pos} {k : Nat}
end
end DL

set_option Elab.async false
set_option linter.all false
set_option maxRecDepth 100000
set_option maxHeartbeats 1000000
/-! EM8: list(x), x a list, a tuple or a text -/
namespace DL
open PySem PySem.Spec PyProof.Rows L2 TL TX TO
section
variable {X : Cx}
end
section
variable {X : Cx} {m : Mem} {E : Ent m} {a b : Expr} {ta tb : DT m} {pos pos' bp : Pos}
end
end DL

set_option Elab.async false
set_option linter.all false
set_option maxRecDepth 100000
set_option maxHeartbeats 1000000
/-! EM9: a class's method of the class itself with *rest, over data; cls(e, ..), cls a parameter -/
namespace DL
open PySem PySem.Spec PyProof.Rows L2 TL TX TO
/-- a def keeps its promise wherever it is called with plain arguments -/
structure FnS (P : Program) (w : World) (K : PySem.W.Frag) (mg : Str → Option Value) (base : Heap) (k : Nat) (f : Addr) (sp : Sp) : Prop where
  run : ∀ (A : Around) (outer : List Env) (s : Shared) (H : Hp) (us : List Value) (vs : List V) (Q : VK) (E : XK), RoomG k A → Env0 P w K mg base A outer s H → Vals vs us → sp vs H Q E → codeAny (model P w) A (.call (.ref f) ⟨us, []⟩) (CR CX0 outer P w H s Q E) s
section
variable {P : Program} {w : World} {K : PySem.W.Frag} {mg : Str → Option Value} {base : Heap} {k : Nat} {f : Addr} {sp : Sp} {m : Mem}
theorem FnS.mono {j : Nat} (F : FnS P w K mg base j f sp) (h : j ≤ k) : FnS P w K mg base k f sp := ⟨fun A o s H us vs Q E hr => F.run A o s H us vs Q E (hr.mono h)⟩
theorem FnS.imp {sp' : Sp} (F : FnS P w K mg base k f sp) (h : ∀ vs H Q E, sp' vs H Q E → sp vs H Q E) : FnS P w K mg base k f sp' := ⟨fun A o s H us vs Q E hr e r q => F.run A o s H us vs Q E hr e r (h vs H Q E q)⟩
end
/-! ### C.m(e, ..) -/
section
variable {X : Cx} {m : Mem} {C p g f : Addr} {mc : Value} {k : Nat} {o e : Expr} {es : List Expr} {mn x : Str} {pos apos px : Pos} {ta : TE} {t : TA} {pl : Sem Bool} {to : DT m} {u : DTA m} {fd : FuncData} {ps : List Str}
/-! ### cls(e, ..), cls a local that holds the class -/
end
end DL

set_option Elab.async false
set_option linter.all false
set_option maxRecDepth 100000
/-! EM10: for k in f(x, y): f is asked knowing x alone, so that what it gives is seen to be new, and may be locked -/
namespace DL
open PySem PySem.Spec PyProof.Rows L2 TL TX TO
section
variable {X : Cx} {m : Mem} {e : Expr} {es : List Expr} {u : DTA m}
end
end DL
namespace DL
open PySem PySem.Spec PyProof.Rows L2 TL TX TO
section
variable {X : Cx} {m : Mem} {k : Nat} {C f : Addr} {fd : FuncData} {ps : List Str} {sp : DSp m} {a b : Expr} {ta tb : DT m} {pos : Pos}
end
end DL
namespace DL
open PySem PySem.Spec PyProof.Rows L2
end DL

set_option Elab.async false
set_option linter.all false
set_option maxRecDepth 100000
set_option maxHeartbeats 1000000
/-! EM11: {k: e for x in a if test}, each k a text that is new, over data -/
namespace DL
open PySem PySem.Spec PyProof.Rows L2 TL TX TO
section
variable {X : Cx} {m : Mem}
end
end DL

set_option Elab.async false
set_option linter.all false
set_option maxRecDepth 100000
set_option maxHeartbeats 1000000
/-! EM12: tuple(zip(a, b)) of two tuples -/
namespace ZN
open PySem PySem.Spec PyProof.Rows L2 RZ
open PySem.Sem (wp)
open AutoSeq1 (wpAny_loadPart')
section
variable {prog : Program} {w : World} {A : Around} {s : Shared} {R : Result → Shared → Prop} {xs ys : Array Value}
end
section
variable {prog : Program} {w : World} {A : Around} {E : Value → Shared → Prop} {s : Shared} {xs ys : Array Value}
end
section
variable {prog : Program} {w : World} {A : Around} {E : Value → Shared → Prop} {s : Shared} {xs ys : Array Value}
end
end ZN
namespace ZN
open PySem PySem.Spec PyProof.Rows L2 RZ
end ZN
namespace DL
open PySem PySem.Spec PyProof.Rows L2 TL
theorem reps_at {K : PySem.W.Frag} {F : Hp} : ∀ {ds : List D} {vs : List V} {j : Nat} {v : V}, Reps K F ds vs → vs[j]? = some v → ∃ d, ds[j]? = some d ∧ Rep K F d v
  | [], vs, j, v, h, e => by
    rw [show vs = [] from h] at e; simp at e
  | d :: ds, _, j, v, ⟨w, r, rfl, h1, h2⟩, e => by
    cases j with
    | zero => cases e; exact ⟨d, rfl, h1⟩
    | succ j => exact reps_at (ds := ds) h2 (by simpa using e)
section
variable {X : Cx} {m : Mem} {ta : DTA m}
end
end DL

set_option Elab.async false
set_option linter.all false
set_option maxRecDepth 100000
set_option maxHeartbeats 1000000
/-! EM13: any data in a tuple or a list of pairs of texts -/
namespace DL
open PySem PySem.Spec PyProof.Rows L2 TL
open SeqAt (EqAt RcAt)
theorem tuple_eq_declines_dict (l b : Addr) (items : Array Value) (n : Nat) (dd : Option Addr) (sl : Array (Option Value)) (es : Array DictEntry) (ep : Nat) (dd2 : Option Addr) (sl2 : Array (Option Value)) :
    Meets (Builtin.«tuple.__eq__» ⟨[.ref l, .ref b], []⟩) (fun _ R s => s.heap.get? l = some { cls := .type "tuple", dict := dd, data := .seq items n, slots := sl } ∧ s.heap.get? b = some { cls := .type "dict", dict := dd2, data := .dict es ep, slots := sl2 } ∧ R (.ok (.ret .notImplemented)) s) :=
  .of_wp fun prog w A R s h => by obtain ⟨hp, g, d, tk, os⟩ := s; obtain ⟨hl, hb, h⟩ := h; have f1 := PySem.F.sub_dict_tuple; wp_walk using wpAny_loadPart' hl, wpAny_load hb; exact ⟨_, rfl, h⟩
theorem dict_eq_declines_tuple (l b : Addr) (items : Array Value) (n : Nat) (dd : Option Addr) (sl : Array (Option Value)) (es : Array DictEntry) (ep : Nat) (dd2 : Option Addr) (sl2 : Array (Option Value)) :
    Meets (Builtin.«dict.__eq__» ⟨[.ref b, .ref l], []⟩) (fun _ R s => s.heap.get? b = some { cls := .type "dict", dict := dd2, data := .dict es ep, slots := sl2 } ∧ s.heap.get? l = some { cls := .type "tuple", dict := dd, data := .seq items n, slots := sl } ∧ R (.ok (.ret .notImplemented)) s) :=
  .of_wp fun prog w A R s h => by obtain ⟨hp, g, d, tk, os⟩ := s; obtain ⟨hb, hl, h⟩ := h; have f1 := PySem.F.sub_tuple_dict; wp_walk using wpAny_loadPart' hb, wpAny_load hl; exact ⟨_, rfl, h⟩
section
variable {A : Around} {s : Shared}
theorem eq_tuple_dict {l b : Addr} {items : Array Value} {es : Array DictEntry} {ep : Nat} {dd : Option Addr} {sl : Array (Option Value)} (ht : s.heap.IsTuple l items) (ho : s.heap.get? b = some { cls := .type "dict", dict := dd, data := .dict es ep, slots := sl }) (hu : A.units < cLine) : EqAt A s (.ref l) (.ref b) false := by
  obtain ⟨⟨cls, d2, data, sl2⟩, hl, hc, n, hd⟩ := ht
  simp only at hc hd
  subst hc hd
  have hne : l ≠ b := fun e => by
    subst e
    rw [hl] at ho
    injection ho with ho
    injection ho with h1
    injection h1 with h1
    exact absurd h1 (by decide)
  refine EqAt.of_refs hne fun prog w E Q h => ?_
  exact (SeqAt.rc_eq_decline_or (k := false) ⟨_, hl, rfl⟩ ⟨_, ho, rfl⟩ (by decide) PySem.F.sub_dict_tuple PySem.F.slot_tuple_eq PySem.F.slot_dict_eq_refl
    (fun _ hq => call_meets PySem.F.slot_tuple_eq ⟨_, hl, rfl⟩ PySem.F.entry_tuple_eq (PySem.F.args_tuple_eq_2 _ _) (tuple_eq_declines_dict l b items n d2 sl2 es ep dd sl) ⟨hl, ho, hq⟩)
    (fun _ hq => call_meets PySem.F.slot_dict_eq_refl ⟨_, ho, rfl⟩ PySem.F.entry_dict_eq (PySem.F.args_dict_eq_2 _ _) (dict_eq_declines_tuple l b items n d2 sl2 es ep dd sl) ⟨ho, hl, hq⟩)
    (fun _ hq => SeqAt.wpAny_isSame_ref_other' hne hl ho (by simp) hq) (.inr hu) h)
end
/-- is the data this pair of texts -/
def isPr (d : D) (p : Str × Str) : Bool := match d with
  | .tup [.str x, .str y] => decide (p = (x, y))
  | _ => false
def inPr (d : D) (ps : List (Str × Str)) : Bool := ps.any (isPr d)
/-- what may be asked about -/
def uV (d : D) : Prop := (tyT d).isSome = true ∧ ∀ ds, d = .tup ds → ∀ x ∈ ds, (tyT x).isSome = true
section
variable {X : Cx}
theorem txt_at {A : Around} {pins : List (Addr × Obj)} {σ : L2.St} {F H : Hp} {s : Shared} {dx : D} {x : V} {v : Value} (hu1 : A.units < cLine) (I : Inv X pins σ H s) (sub : Same F H) (rx : Rep X.K F dx x) (rv : RelV x v) (ht : (tyT dx).isSome = true) (a : Str) (tk : Tok) :
    EqAt A s (.str a tk) v (eTx dx (.str a tk)) := by
  cases dx with
  | non => cases rx; cases rv; exact SeqAt.EqAt.str_none a tk
  | bl b => cases rx; cases rv; exact SeqAt.EqAt.str_bool a tk b
  | int i => cases rx; obtain ⟨t, rfl⟩ := rv; exact SeqAt.EqAt.str_int a tk i t
  | str z =>
    obtain ⟨rfl, _⟩ := rx
    obtain ⟨t, rfl⟩ := rv
    have := SeqAt.EqAt.str_str (A := A) (s := s) a tk z t
    have e : (a == z) = decide (a = z) := by
      by_cases h : a = z
      · rw [h, decide_eq_true rfl]; exact beq_self_eq_true z
      · rw [decide_eq_false h]; exact beq_eq_false_iff_ne.mpr h
    rw [e] at this
    exact this
  | lst ds =>
    obtain ⟨l, vs, rfl, hl, _, _⟩ := rx
    cases rv
    obtain ⟨its, _, p, _⟩ := I.list (.inl (.inl (sub _ _ hl)))
    exact SeqAt.EqAt.str_list a tk p.isList hu1
  | tup ds =>
    obtain ⟨l, vs, rfl, hl, _, _⟩ := rx
    cases rv
    obtain ⟨its, _, ⟨o, h1, h2, h3⟩, _⟩ := I.tuple (Same.seqT sub hl)
    exact SeqAt.EqAt.str_tuple a tk ⟨o, h1, h2, h3⟩ hu1
  | dic ks ds =>
    obtain ⟨l, kvs, rfl, hl, _, _, _⟩ := rx
    cases rv
    obtain ⟨_, _, vs0, _, ⟨o, es, ep, h1, h2, h3, _⟩⟩ := dk_of I.hok (sub _ _ hl)
    obtain ⟨cls, dd, data, sl⟩ := o
    have hc : cls = Value.type "dict" := h2.1
    have hd : data = .dict es ep := h3
    subst hc hd
    exact eq_str_dict a tk h1 hu1
  | _ => cases ht
/-- a pair of texts against any data -/
theorem pair_at {A : Around} {pins : List (Addr × Obj)} {σ : L2.St} {F H : Hp} {s : Shared} {dx : D} {x : V} {v : Value} {a : Addr} {p : Str × Str} (hu : A.units + 1 < cLine) (I : Inv X pins σ H s) (sub : Same F H) (rx : Rep X.K F dx x) (rv : RelV x v) (ht : uV dx)
    (ha : SqT X.K H a [.str p.1, .str p.2]) : EqAt A s (.ref a) v (isPr dx p) := by
  have hu1 : A.units < cLine := Nat.lt_of_succ_lt hu
  obtain ⟨itp, rvp, tp, _⟩ := I.tuple ha
  obtain ⟨t1, t2, rfl⟩ : ∃ t1 t2, itp = [.str p.1 t1, .str p.2 t2] := by
    cases rvp with
    | cons h1 r =>
      cases r with
      | cons h2 r =>
        cases r
        obtain ⟨t1, rfl⟩ := h1
        obtain ⟨t2, rfl⟩ := h2
        exact ⟨t1, t2, rfl⟩
  cases dx with
  | non => cases rx; cases rv; exact SeqAt.EqAt.tuple_none tp hu1
  | bl b => cases rx; cases rv; exact SeqAt.EqAt.tuple_bool b tp hu1
  | int i => cases rx; obtain ⟨t, rfl⟩ := rv; exact SeqAt.EqAt.tuple_int i t tp hu1
  | str z =>
    obtain ⟨rfl, _⟩ := rx
    obtain ⟨t, rfl⟩ := rv
    exact SeqAt.EqAt.tuple_str z t tp hu1
  | lst ds =>
    obtain ⟨l, vs, rfl, hl, _, _⟩ := rx
    cases rv
    obtain ⟨its, _, pl, _⟩ := I.list (.inl (.inl (sub _ _ hl)))
    exact SeqAt.EqAt.tuple_list tp pl.isList hu1
  | dic ks ds =>
    obtain ⟨l, kvs, rfl, hl, _, _, _⟩ := rx
    cases rv
    obtain ⟨_, _, vs0, _, ⟨o, es, ep, h1, h2, h3, _⟩⟩ := dk_of I.hok (sub _ _ hl)
    obtain ⟨cls, dd, data, sl⟩ := o
    have hc : cls = Value.type "dict" := h2.1
    have hd : data = .dict es ep := h3
    subst hc hd
    exact eq_tuple_dict tp h1 hu1
  | tup ds =>
    obtain ⟨l, vs, rfl, hl, _, rs⟩ := rx
    cases rv
    have hl' := Same.seqT sub hl
    obtain ⟨its, rvs, tl, _⟩ := I.tuple hl'
    by_cases e : a = l
    · subst e
      have ev := I.tuple_inj hl' ha
      subst ev
      obtain ⟨hr, _⟩ : ds = [.str p.1, .str p.2] ∧ True := by
        match ds, rs with
        | [], rs => cases rs
        | [d0], ⟨v0, r, e0, _, h2⟩ => cases h2; cases e0
        | [d0, d1], ⟨v0, r, e0, h1, v1, r1, e1, h2, h3⟩ =>
          cases h3
          subst e1
          injection e0 with e0 e1
          injection e1 with e1 _
          subst e0 e1
          refine ⟨?_, trivial⟩
          have k : ∀ (d : D) (z : Str), (tyT d).isSome = true → Rep X.K F d (.str z) → d = .str z := fun d z hd h => by
            cases d with
            | str y => obtain ⟨h, _⟩ := h; injection h with h; rw [h]
            | non => cases h
            | bl _ => cases h
            | int _ => cases h
            | lst _ => obtain ⟨_, _, h, _⟩ := h; cases h
            | tup _ => obtain ⟨_, _, h, _⟩ := h; cases h
            | dic _ _ => obtain ⟨_, _, h, _⟩ := h; cases h
            | _ => cases hd
          rw [k d0 _ (ht.2 _ rfl d0 (by simp)) h1, k d1 _ (ht.2 _ rfl d1 (by simp)) h2]
        | d0 :: d1 :: d2 :: r, ⟨v0, r0, e0, _, v1, r1, e1, _, v2, r2, e2, _⟩ => subst e2; subst e1; cases e0
      subst hr
      show EqAt A s (.ref a) (.ref a) (decide (p = (p.1, p.2)))
      rw [decide_eq_true rfl]
      exact SeqAt.EqAt.same _
    · have lens := rvs.length
      have lend := rs.length
      have key := RcAt.tuples (A := A) (s := s) (e := fun j => match ds[j]? with | some d => eTx d (if j = 0 then .str p.1 t1 else .str p.2 t2) | none => false) tp tl hu1 (fun j h1 h2 => ?_)
      · have er : ((List.range (min ([Value.str p.1 t1, .str p.2 t2].toArray).size its.toArray.size)).all (fun j => match ds[j]? with | some d => eTx d (if j = 0 then .str p.1 t1 else .str p.2 t2) | none => false) && ([Value.str p.1 t1, .str p.2 t2].toArray).size == its.toArray.size) = isPr (.tup ds) p := by
          have e2 : its.toArray.size = ds.length := by simp only [List.size_toArray]; omega
          rw [e2]
          show ((List.range (min 2 ds.length)).all _ && (2 == ds.length)) = _
          match ds with
          | [] => rfl
          | [d0] =>
            rw [show (2 == [d0].length) = false from rfl, Bool.and_false]
            cases d0 <;> rfl
          | [d0, d1] =>
            show ((eTx d0 (.str p.1 t1) && (eTx d1 (.str p.2 t2) && true)) && true) = isPr (.tup [d0, d1]) p
            rw [Bool.and_true, Bool.and_true]
            cases d0 <;> first
              | rfl
              | (show (decide _ && _) = _
                 cases d1 <;> first
                   | (rw [show (eTx _ (.str p.2 t2)) = false from rfl, Bool.and_false]; rfl)
                   | (show (decide (p.1 = _) && decide (p.2 = _)) = decide (p = (_, _))
                      obtain ⟨p1, p2⟩ := p
                      rw [Bool.eq_iff_iff, Bool.and_eq_true, decide_eq_true_iff, decide_eq_true_iff, decide_eq_true_iff, Prod.mk.injEq]))
          | d0 :: d1 :: d2 :: r =>
            have : (2 == (d0 :: d1 :: d2 :: r).length) = false := by
              rw [List.length_cons, List.length_cons, List.length_cons]
              exact beq_eq_false_iff_ne.mpr (by omega)
            rw [this, Bool.and_false]
            cases d0 <;> first | rfl | (cases d1 <;> rfl)
        rw [er] at key
        exact EqAt.of_refs e key
      · have h2' : j < its.length := by simpa using h2
        have hjv : j < vs.length := by omega
        have hjd : j < ds.length := by omega
        obtain ⟨w, g1, g2⟩ := rvs.get (i := j) (x := vs[j]) (List.getElem?_eq_getElem hjv)
        have gw : its.toArray[j] = w := by
          have : its[j]? = some w := g1
          rw [List.getElem?_eq_getElem h2'] at this
          simpa using this
        obtain ⟨d, hd, rd⟩ := reps_at rs (List.getElem?_eq_getElem hjv)
        show EqAt A.in1 s ([Value.str p.1 t1, .str p.2 t2].toArray[j]) its.toArray[j] (match ds[j]? with | some d => eTx d (if j = 0 then .str p.1 t1 else .str p.2 t2) | none => false)
        rw [gw, hd]
        have tyd : (tyT d).isSome = true := ht.2 ds rfl d (List.mem_of_getElem? hd)
        have h1' : j < 2 := h1
        match j, h1' with
        | 0, _ => exact txt_at (A := A.in1) hu I sub rd g2 tyd p.1 t1
        | 1, _ => exact txt_at (A := A.in1) hu I sub rd g2 tyd p.2 t2
  | ins _ _ _ => cases ht.1
  | any _ => cases ht.1
  | fz _ => cases ht.1
  | exc _ _ _ => cases ht.1
  | cau _ _ _ _ => cases ht.1
  | exk _ _ _ => cases ht.1
/-- the value stands for this pair -/
def PvV (K : PySem.W.Frag) (H : Hp) (v : Value) (p : Str × Str) : Prop := ∃ a, v = .ref a ∧ SqT K H a [.str p.1, .str p.2]
open Classical in
noncomputable def ePr (K : PySem.W.Frag) (H : Hp) (d : D) (v : Value) : Bool := decide (∃ p, PvV K H v p ∧ isPr d p = true)
theorem ePr_of {pins : List (Addr × Obj)} {σ : L2.St} {H : Hp} {s : Shared} (I : Inv X pins σ H s) {v : Value} {p : Str × Str} (h : PvV X.K H v p) (d : D) : ePr X.K H d v = isPr d p := by
  unfold ePr
  cases e : isPr d p with
  | true => exact @decide_eq_true _ (Classical.propDecidable _) ⟨p, h, e⟩
  | false =>
    refine @decide_eq_false _ (Classical.propDecidable _) fun ⟨q, hq, hd⟩ => ?_
    obtain ⟨a, rfl, ha⟩ := h
    obtain ⟨b, eb, hb⟩ := hq
    cases eb
    have := I.tuple_inj ha hb
    injection this with h1 h2
    injection h2 with h2 _
    injection h1 with h1
    injection h2 with h2
    have : p = q := Prod.ext h1 h2
    rw [this, hd] at e
    cases e
def rInPr (K : PySem.W.Frag) (neg : Bool) : R2 := fun x y H Q => ∃ F dx p ps us, Same F H ∧ Rep K F dx x ∧ uV dx ∧ y = .ref p ∧ (SqT K H p us ∨ SqL K H p us) ∧ us.length = ps.length ∧
  (∀ (j : Nat) u q, us[j]? = some u → ps[j]? = some q → ∃ a, u = V.ref a ∧ SqT K H a [.str q.1, .str q.2]) ∧ Q (.bl (neg ^^ inPr dx ps)) H
theorem vals_pairs {pins : List (Addr × Obj)} {σ : L2.St} {H : Hp} {s : Shared} (I : Inv X pins σ H s) {us : List V} {ps : List (Str × Str)} {its : List Value} (rv : Vals us its) (hl : us.length = ps.length) (hp : ∀ (j : Nat) u q, us[j]? = some u → ps[j]? = some q → ∃ a, u = V.ref a ∧ SqT X.K H a [.str q.1, .str q.2]) (d : D) :
    (∀ z ∈ its, ∃ q, PvV X.K H z q) ∧ its.any (ePr X.K H d) = inPr d ps := by
  induction rv generalizing ps with
  | nil =>
    cases ps with
    | nil => exact ⟨fun _ h => (by cases h), rfl⟩
    | cons q r => cases hl
  | cons r1 r2 ih =>
    cases ps with
    | nil => cases hl
    | cons q r =>
      obtain ⟨a, rfl, ha⟩ := hp 0 _ q rfl rfl
      cases r1
      have P : PvV X.K H (.ref a) q := ⟨a, rfl, ha⟩
      obtain ⟨h1, h2⟩ := ih (ps := r) (by simpa using hl) (fun j u q' e1 e2 => hp (j + 1) u q' (by simpa using e1) (by simpa using e2))
      refine ⟨fun z hz => ?_, ?_⟩
      · rcases List.mem_cons.mp hz with rfl | hz
        · exact ⟨q, P⟩
        · exact h1 z hz
      · rw [List.any_cons, h2, ePr_of I P]; rfl
theorem op_inPr (hu : X.A.units + 2 < cLine) : OpR X (compareOp .In) (rInPr X.K false) := by
  intro pins s σ H x y v u Q I rx ry h
  obtain ⟨F, dx, p, ps, us, sub, rd, ht, rfl, hT, hl, hp, q⟩ := h
  cases ry
  rw [Bool.false_xor] at q
  rcases hT with hT | hT
  · obtain ⟨its, rvs, ⟨o, h1, h2, n, h3⟩, _⟩ := I.tuple hT
    obtain ⟨g1, g2⟩ := vals_pairs I rvs hl hp dx
    refine SeqAt.in_tupleAt (ePr X.K H dx) ⟨o, h1, h2, n, h3⟩ (fun z hz => ?_) ?_
    · obtain ⟨q', P⟩ := g1 z (by simpa using hz)
      rw [ePr_of I P]
      obtain ⟨a, rfl, ha⟩ := P
      exact pair_at (A := X.A.in1) hu I sub rd rx ht ha
    · have e : its.toArray.any (ePr X.K H dx) = inPr dx ps := by rw [← g2]; simp
      rw [e]
      exact ⟨.bl _, H, I, rfl, q⟩
  · obtain ⟨its, rvs, pl, _⟩ := I.list hT
    obtain ⟨g1, g2⟩ := vals_pairs I rvs hl hp dx
    refine SeqAt.in_listAt (ePr X.K H dx) pl.isList (fun z hz => ?_) ?_
    · obtain ⟨q', P⟩ := g1 z (by simpa using hz)
      rw [ePr_of I P]
      obtain ⟨a, rfl, ha⟩ := P
      exact pair_at (A := X.A.in1) hu I sub rd rx ht ha
    · have e : its.toArray.any (ePr X.K H dx) = inPr dx ps := by rw [← g2]; simp
      rw [e]
      exact ⟨.bl _, H, I, rfl, q⟩
end
def ptP (p : Str × Str) : D := .tup [.str p.1, .str p.2]
theorem reps_prs {K : PySem.W.Frag} {F : Hp} : ∀ {ps : List (Str × Str)} {us : List V}, Reps K F (ps.map ptP) us → us.length = ps.length ∧ ∀ (j : Nat) u q, us[j]? = some u → ps[j]? = some q → ∃ a, u = V.ref a ∧ SqT K F a [.str q.1, .str q.2]
  | [], _, h => by cases h; exact ⟨rfl, fun j u q e => by simp at e⟩
  | p :: ps, _, h => by
    obtain ⟨u, r, rfl, ⟨a, vs, rfl, h1, _, v0, r0, e0, ⟨e1, _⟩, v1, r1, e2, ⟨e3, _⟩, rn⟩, h2⟩ := h
    cases rn
    subst e2
    subst e0
    subst e1
    subst e3
    obtain ⟨g1, g2⟩ := reps_prs (ps := ps) h2
    refine ⟨by rw [List.length_cons, List.length_cons, g1], fun j u q e1 e2 => ?_⟩
    cases j with
    | zero => cases e1; cases e2; exact ⟨a, rfl, h1⟩
    | succ j => exact g2 j u q (by simpa using e1) (by simpa using e2)
theorem u2 {A : Around} {k : Nat} (hr : RoomG k A) : A.units + 2 < cLine := by have := hr.r.un; omega
end DL

set_option Elab.async false
set_option linter.all false
set_option maxRecDepth 100000
set_option maxHeartbeats 1000000
/-! EO1: an instance in a tuple of texts or of tuples: each item gives way to the own == of the instance -/
namespace DL
open PySem PySem.Spec PyProof.Rows L2 TL
/-- texts and tuples stand above no such class -/
structure NoSub (K : PySem.W.Frag) (C : Addr) : Prop where
  str : PySem.W.subIn K (.ref C) (.type "str") = some false
  tup : PySem.W.subIn K (.ref C) (.type "tuple") = some false
  ks : PySem.W.kitOne K (.ref C) (.type "str") = some false
section
variable {X : Cx} {k : Nat} {C f : Addr} {fd : FuncData} {ps : List Str} {sp : Sp} {pins : List (Addr × Obj)} {σ : L2.St} {H : Hp} {s : Shared} {A : Around} {E : Value → Shared → Prop}
/-- the item's own == says nothing of an instance -/
theorem give_way {v : Value} {b dx : Addr} {fs : List (Str × V)} {Q : Option Value → Shared → Prop} (I : Inv X pins σ H s) (N : NoSub X.K C) (hb : H b = some (.ins C dx fs)) (hv : (∃ x t, v = Value.str x t) ∨ ∃ l its, v = .ref l ∧ s.heap.IsTuple l its) (q : Q none s) :
    wpAny (model X.prog X.w) A (tryCompare v (cmpInfo .Eq).2.1 (.ref b)) Q E s := by
  obtain ⟨mA, J, _⟩ := ins_get I.hok hb
  have ho := J.obj
  obtain ⟨od, J, _⟩ := J.look
  rcases hv with ⟨x, t, rfl⟩ | ⟨l, its, rfl, hl⟩
  · refine wpAny_tryCompare_declines (typeIs_str s x t) PySem.F.slot_str_eq ?_
    refine wpAny_call_entry PySem.F.slot_str_eq (typeIs_str s x t) PySem.F.entry_str_eq ?_ (PySem.F.args_str_eq_2 _ _)
    unfold Builtin.«str.__eq__» Builtin.Str.strCompare
    wp_walk using wpAny_load ho
    first | exact ⟨_, rfl, rfl, q⟩ | skip
  · obtain ⟨o, e1, e2, n, e3⟩ := hl
    have ty : s.TypeIs (.ref l) "tuple" := ⟨o, e1, e2⟩
    refine wpAny_tryCompare_declines ty PySem.F.slot_tuple_eq ?_
    refine wpAny_call_entry PySem.F.slot_tuple_eq ty PySem.F.entry_tuple_eq ?_ (PySem.F.args_tuple_eq_2 _ _)
    have is : ∀ (A : Around) (Q2 : Bool → Shared → Prop) (E2 : Value → Shared → Prop), Q2 false s → wpAny (model X.prog X.w) A (isInstance (.ref b) (.type "tuple")) Q2 E2 s := fun A Q2 E2 q2 => by
      unfold isInstance
      exact wpAny_bind (J.type.here ((PySem.W.looks_subIn I.kIn N.tup).here q2))
    wp_walk using (is _ _ _)
    exact ⟨_, rfl, rfl, q⟩
theorem own_back (G : FnG X.prog X.w X.K X.mg X.base CX0 k f fd ps sp) (hr : RoomG k A) (hE : ∀ s H, Inv X pins σ H s → Env0 X.prog X.w X.K X.mg X.base A X.stack s H) (hb : Binds X.K fd ps []) {b : Addr} {y : V} {u : Value} {Qv : V → Hp → Prop} (I : Inv X pins σ H s) (ry : RelV y u)
    (q : sp [.ref b, y] H Qv E0) {Q : Value → Shared → Prop} (hQ : ∀ v u' H' s', Inv X pins σ H' s' → RelV v u' → Qv v H' → Q u' s') : wpAny (model X.prog X.w) A (call (.ref f) [.ref b, u]) Q E s := by
  have hl : ([Value.ref b, u] : List Value).length = ps.length := (G.len _ _ _ _ q).symm ▸ rfl
  have bd := hb s [.ref b, u] I.kIn hl
  refine wpAny_call (codeAny_mono (G.run A X.stack s H ⟨[.ref b, u], []⟩ [.ref b, u] [.ref b, y] _ E0 hr (hE _ _ I) bd (.cons rfl (.cons ry .nil)) q) fun r s' z => ?_)
  rcases r with er | (_ | _ | _ | u')
  · exact z.elim
  · exact z.elim
  · exact z.elim
  · exact z.elim
  · obtain ⟨v, H', I', rv, q2⟩ := I.after z
    exact hQ _ _ _ _ I' rv q2
/-- the item, then the instance -/
theorem rc_own (G : FnG X.prog X.w X.K X.mg X.base CX0 k f fd ps sp) (hr : RoomG k A) (hE : ∀ s H, Inv X pins σ H s → Env0 X.prog X.w X.K X.mg X.base A X.stack s H) (hb : Binds X.K fd ps []) (hs : PySem.W.findIn X.K (.ref C) "__eq__" = some (some (.ref f))) (hf : PySem.W.isFn X.K (.ref f) = true)
    (N : NoSub X.K C) {b dx : Addr} {fs : List (Str × V)} {y : V} {u : Value} {R : Hp → Prop} (I : Inv X pins σ H s) (hB : H b = some (.ins C dx fs)) (ry : RelV y u) (hv : (∃ x t, u = Value.str x t) ∨ ∃ l its, u = .ref l ∧ s.heap.IsTuple l its)
    (q : sp [.ref b, y] H (fun v H' => v = .bl false ∧ R H') E0) {Q : Bool → Shared → Prop} (hQ : ∀ H' s', Inv X pins σ H' s' → R H' → Q false s') : wpAny (model X.prog X.w) A (eqBool u (.ref b)) Q E s := by
  have ne : (u == Value.ref b) = false := by
    rcases hv with ⟨x, t, rfl⟩ | ⟨l, its, rfl, o, e1, e2, _⟩
    · rfl
    · refine beq_eq_false_iff_ne.mpr fun e => ?_
      injection e with e
      subst e
      obtain ⟨mA, J, _⟩ := ins_get I.hok hB
      rw [J.obj] at e1
      cases e1
      cases e2
  have tu : ∃ T, s.TypeIs u T ∧ (T = "str" ∨ T = "tuple") := by
    rcases hv with ⟨x, t, rfl⟩ | ⟨l, its, rfl, o, e1, e2, _⟩
    · exact ⟨_, typeIs_str s x t, .inl rfl⟩
    · exact ⟨_, ⟨o, e1, e2⟩, .inr rfl⟩
  obtain ⟨T, hT, eT⟩ := tu
  obtain ⟨mA, J, _⟩ := ins_get I.hok hB
  obtain ⟨od, J, _⟩ := J.look
  have sub : PySem.W.subIn X.K (.ref C) (.type T) = some false := by
    rcases eT with rfl | rfl
    · exact N.str
    · exact N.tup
  have rc : wpAny (model X.prog X.w) A (richCompare .Eq u (.ref b)) (fun v s' => v = .bool false ∧ Q false s') E s := by
    have one : oneThing? .Eq u (.ref b) = none := by
      rcases hv with ⟨x, t, rfl⟩ | ⟨l, its, rfl, _⟩
      · rfl
      · first | rfl | simp only [oneThing_ref]
    unfold richCompare
    rw [one]
    refine wpAny_holding (wpAny_bind (wpAny_cRoomFor hr.r.units0 ?_))
    refine wpAny_bind (wpAny_typeOf hT (wpAny_bind (J.type.here ?_)))
    have nt : (Value.type T != Value.ref C) = true := rfl
    rw [nt]
    refine wpAny_bind ((PySem.W.looks_subIn I.kIn sub).here ?_)
    simp only [Bool.false_eq_true, if_false, Bool.not_false, if_true]
    refine wpAny_bind (give_way I N hB hv ?_)
    refine wpAny_bind ?_
    unfold tryCompare
    refine wpAny_bind (PySem.W.ifBound_K I.kIn J hs hf (own_back G hr hE hb I ry q fun v u' H' s' I' rv q2 => ?_))
    obtain ⟨rfl, r⟩ := q2
    cases rv
    exact wpAny_pure (wpAny_pure ⟨rfl, hQ _ _ I' r⟩)
  have fin : wpAny (model X.prog X.w) A (do truthOfDropped (← richCompare .Eq u (.ref b))) Q E s := wpAny_bind (wpAny_mono rc (fun v s' z => by obtain ⟨rfl, z⟩ := z; exact wpAny_pure z) fun _ _ z => z)
  unfold eqBool
  rcases hv with ⟨x, t, rfl⟩ | ⟨l, its, rfl, _⟩
  · exact wpAny_holding (wp_if_neg (by rw [ne]; decide) fin)
  · exact wpAny_holding (wp_if_neg (by rw [ne]; decide) fin)
def rInOwn (K : PySem.W.Frag) (C : Addr) (sp : Sp) (neg : Bool) : R2 := fun x y H Q => ∃ b dx fs a vs, ∃ R : Hp → Prop, x = V.ref b ∧ y = V.ref a ∧ R H ∧
  (∀ H, R H → H b = some (.ins C dx fs) ∧ SqT K H a vs ∧ ∀ v ∈ vs, (∃ x, v = V.str x) ∨ ∃ l us, v = V.ref l ∧ SqT K H l us) ∧
  (∀ H v, R H → v ∈ vs → sp [.ref b, v] H (fun u H' => u = .bl false ∧ R H') E0) ∧ ∀ H, R H → Q (.bl neg) H
theorem holds_own (G : FnG X.prog X.w X.K X.mg X.base CX0 k f fd ps sp) (hr : RoomG (k + 1) X.A) (hb : Binds X.K fd ps []) (hs : PySem.W.findIn X.K (.ref C) "__eq__" = some (some (.ref f))) (hf : PySem.W.isFn X.K (.ref f) = true)
    (N : NoSub X.K C) {b dx a : Addr} {fs : List (Str × V)} {vs : List V} {R : Hp → Prop} (I : Inv X pins σ H s) (h0 : R H)
    (hR : ∀ H, R H → H b = some (.ins C dx fs) ∧ SqT X.K H a vs ∧ ∀ v ∈ vs, (∃ x, v = V.str x) ∨ ∃ l us, v = V.ref l ∧ SqT X.K H l us)
    (hsp : ∀ H v, R H → v ∈ vs → sp [.ref b, v] H (fun u H' => u = .bl false ∧ R H') E0) {Q : Bool → Shared → Prop} {E : Value → Shared → Prop} (hQ : ∀ H' s', Inv X pins σ H' s' → R H' → Q false s') : wpAny (model X.prog X.w) X.A (contains (.ref a) (.ref b)) Q E s := by
  obtain ⟨itp, rvp, tp, _⟩ := I.tuple (hR H h0).2.1
  obtain ⟨o, e1, e2, n, e3⟩ := id tp
  have ty : s.TypeIs (.ref a) "tuple" := ⟨o, e1, e2⟩
  refine wpAny_contains_slot ty PySem.F.slot_tuple_contains (wpAny_call_entry PySem.F.slot_tuple_contains ty PySem.F.entry_tuple_contains ?_ (PySem.F.args_tuple_contains_2 _ _))
  obtain ⟨its0, hit⟩ : ∃ its0 : Array Value, its0 = itp.toArray := ⟨_, rfl⟩
  have loadIt : ∀ (A : Around) (Q2 : Array Value → Shared → Prop) (E2 : Value → Shared → Prop), Q2 its0 s → wpAny (model X.prog X.w) A (Builtin.Tuple.tupleItemsOf (.ref a)) Q2 E2 s := fun A Q2 E2 q2 => by
    unfold Builtin.Tuple.tupleItemsOf
    subst hit
    exact wpAny_bind (wpAny_seqItems e1 e3 (wpAny_pure q2))
  have sl : ∀ (Q2 : Value × List Value → Shared → Prop), Q2 (.ref a, [.ref b]) s → wpAny (model X.prog X.w) X.A.in1 (slotArgs "__contains__" 1 ⟨[.ref a, .ref b], []⟩) Q2 E s := fun Q2 q2 => by
    unfold slotArgs
    wp_walk
    exact q2
  unfold Builtin.«tuple.__contains__»
  refine wpAny_bind (sl _ ?_)
  dsimp only
  refine wpAny_bind (loadIt _ _ _ (wpAny_bind ?_))
  rw [← Array.forIn_toList]
  refine wpAny_forIn_list _ (fun (rest : List Value) (bb : Option PySem.Fin × Unit) (s' : Shared) => bb.1 = none ∧ (∀ y, y ∈ rest → y ∈ itp) ∧ ∃ H', Inv X pins σ H' s' ∧ R H') _ ?turn ?fin _ _ ?h
  case turn =>
    rintro y rest bb s' ⟨hb1, hmem, H', I', r'⟩
    obtain ⟨p1, p2, p3⟩ := hR H' r'
    obtain ⟨v, hv, rv⟩ : ∃ v ∈ vs, RelV v y := by
      obtain ⟨i, hi, ei⟩ := List.getElem_of_mem (hmem y List.mem_cons_self)
      have len := rvp.length
      have hi' : i < vs.length := by omega
      obtain ⟨u, g1, g2⟩ := rvp.get (i := i) (x := vs[i]) (List.getElem?_eq_getElem hi')
      have : itp[i]? = some u := g1
      rw [List.getElem?_eq_getElem hi, ei] at this
      cases this
      exact ⟨_, List.getElem_mem hi', g2⟩
    refine wpAny_bind (rc_own (R := R) G hr.in1 (fun s H I => I.env0.in1) hb hs hf N I' p1 rv ?_ (hsp H' v r' hv) fun H2 s2 I2 r2 => ?_)
    · rcases p3 v hv with ⟨x, rfl⟩ | ⟨l, us, rfl, hl⟩
      · obtain ⟨t, rfl⟩ := rv
        exact .inl ⟨x, t, rfl⟩
      · cases rv
        obtain ⟨its, _, tt, _⟩ := I'.tuple hl
        exact .inr ⟨l, _, rfl, tt⟩
    · wp_walk
      exact ⟨rfl, fun z hz => hmem z (List.mem_cons_of_mem _ hz), H2, I2, r2⟩
  case fin =>
    rintro ⟨b1, b2⟩ s' ⟨hb1, -, H', I', r'⟩
    simp only at hb1
    subst hb1
    wp_walk
    exact ⟨_, rfl, wpAny_truthy_bool (hQ _ _ I' r')⟩
  case h =>
    exact ⟨rfl, fun y hy => by subst hit; simpa using hy, H, I, h0⟩
theorem op_inOwn (G : FnG X.prog X.w X.K X.mg X.base CX0 k f fd ps sp) (hr : RoomG (k + 1) X.A) (hb : Binds X.K fd ps []) (hs : PySem.W.findIn X.K (.ref C) "__eq__" = some (some (.ref f))) (hf : PySem.W.isFn X.K (.ref f) = true)
    (N : NoSub X.K C) : OpR X (compareOp .In) (rInOwn X.K C sp false) := by
  intro pins s σ H x y v u Q I rx ry h
  obtain ⟨b, dx, fs, a, vs, R, rfl, rfl, h0, hR, hsp, q⟩ := h
  cases rx
  cases ry
  show wpAny _ _ (do return Value.bool (← contains (.ref a) (.ref b))) _ _ s
  exact wpAny_bind (holds_own G hr hb hs hf N I h0 hR hsp fun H' s' I' r' => wpAny_pure ⟨.bl _, H', I', rfl, q H' r'⟩)
end
end DL

set_option Elab.async false
set_option linter.all false
set_option maxRecDepth 100000
set_option maxHeartbeats 1000000
/-! EO2: anything in a tuple of texts or of pairs of texts: data, or an instance with an own == -/
namespace DL
open PySem PySem.Spec PyProof.Rows L2 TL
section
variable {X : Cx} {m : Mem} {k : Nat} {C f : Addr} {fd : FuncData} {ps : List Str} {sp : DSp m} {a b : Expr} {ta tb : DT m} {pos : Pos}
theorem OpR.or {op : Value → Value → Sem Value} {r1 r2 : R2} (h1 : OpR X op r1) (h2 : OpR X op r2) : OpR X op (fun x y H Q => r1 x y H Q ∨ r2 x y H Q) := by
  intro pins s σ H x y v u Q I rx ry h
  rcases h with h | h
  · exact h1 pins s σ H x y v u Q I rx ry h
  · exact h2 pins s σ H x y v u Q I rx ry h
/-- each item is unlike the instance, and asking leaves all as it is -/
def ownNo {m : Mem} (C : Addr) (sp : DSp m) (x : D) (ys : List D) (s : m.S) : Prop := (∃ ns ds, x = .ins C ns ds) ∧ ∀ y ∈ ys, ∀ Q : D → m.S → Prop, Q (.bl false) s → sp [x, y] s Q
/-- the tuple's items, where the instance is asked -/
def Plain1 (y : D) : Prop := (∃ x, y = .str x) ∨ ∃ ds, y = .tup ds
theorem own_step {F H : Hp} {σ : L2.St} {ρ : List Sl} {s : m.S} {dx : D} {ys : List D} {x y : V} {Q : VK} (K : PySem.W.Frag) (rl : Rel K m F H σ ρ s) (no : ownNo C sp dx ys s) (hp : ∀ y ∈ ys, Plain1 y) (rx : Rep K F dx x) (ry : Rep K F (.tup ys) y)
    (q : ∀ F' H', Rel K m F' H' σ ρ s → Stp m F H σ ρ s F' H' ρ s → Q (.bl false) H') : rInOwn K C (lift K m 2 sp) false x y H Q := by
  obtain ⟨⟨ns, ds, ed⟩, hno⟩ := no
  subst ed
  have rx0 := rx
  obtain ⟨p, dp, fs, rfl, h1, _, _⟩ := rx
  have ry0 := ry
  obtain ⟨a, vs, rfl, hT, _, rs⟩ := ry
  have lens := rs.length
  refine ⟨p, dp, fs, a, vs, fun H' => ∃ F', Rel K m F' H' σ ρ s ∧ Stp m F H σ ρ s F' H' ρ s, rfl, rfl, ⟨F, rl, Stp.refl⟩, fun H' ⟨F', r', st⟩ => ?_, fun H' v ⟨F', r', st⟩ hv => ?_, fun H' ⟨F', r', st⟩ => q F' H' r' st⟩
  · refine ⟨r'.sub _ _ (st.ext _ _ h1), Same.seqT r'.sub (Same.seqT st.ext hT), fun v hv => ?_⟩
    obtain ⟨i, hi, ei⟩ := List.getElem_of_mem hv
    obtain ⟨d, hd, rd⟩ := reps_at rs (List.getElem?_eq_getElem hi)
    rw [ei] at rd
    rcases hp d (List.mem_of_getElem? hd) with ⟨x, rfl⟩ | ⟨ds', rfl⟩
    · exact .inl ⟨x, rd.1⟩
    · obtain ⟨l, us, e, hl, _⟩ := rd
      exact .inr ⟨l, us, e, Same.seqT r'.sub (Same.seqT st.ext hl)⟩
  · obtain ⟨i, hi, ei⟩ := List.getElem_of_mem hv
    obtain ⟨d, hd, rd⟩ := reps_at rs (List.getElem?_eq_getElem hi)
    rw [ei] at rd
    refine ⟨rfl, F', _, s, fun d s2 => d = .bl false ∧ s2 = s, r'.sub, r'.mem, r'.reg, .cons (Rep.mono st.ext _ _ rx0) (.one (Rep.mono st.ext _ _ rd)), hno d (List.mem_of_getElem? hd) _ ⟨rfl, rfl⟩, fun d s2 v F2 H2 ⟨e1, e2⟩ c rv => ?_⟩
    subst e1 e2
    exact ⟨rv, F2, r'.call c, st.trans c.stp⟩
/-- x in y, y a tuple of texts -/
def dInOwnT {m : Mem} (C : Addr) (sp : DSp m) (ta tb : DT m) : DT m := fun ρ s Q => ta ρ s fun x ρ1 s1 => tb ρ1 s1 fun y ρ2 s2 => ∃ ys : List Str, y = .tup (ys.map .str) ∧
  (((tyT x).isSome = true ∧ Q (.bl (inTx x ys)) ρ2 s2) ∨ (ownNo C sp x (ys.map .str) s2 ∧ Q (.bl false) ρ2 s2))
/-- x in y, y a tuple of pairs of texts -/
def dInOwnP {m : Mem} (C : Addr) (sp : DSp m) (ta tb : DT m) : DT m := fun ρ s Q => ta ρ s fun x ρ1 s1 => tb ρ1 s1 fun y ρ2 s2 => ∃ ys : List (Str × Str), y = .tup (ys.map ptP) ∧
  ((uV x ∧ Q (.bl (inPr x ys)) ρ2 s2) ∨ (ownNo C sp x (ys.map ptP) s2 ∧ Q (.bl false) ρ2 s2))
theorem de_inOwnT (G : FnG X.prog X.w X.K X.mg X.base CX0 k f fd ps (lift X.K m 2 sp)) (hr : RoomG (k + 1) X.A) (hb : Binds X.K fd ps []) (hs : PySem.W.findIn X.K (.ref C) "__eq__" = some (some (.ref f))) (hf : PySem.W.isFn X.K (.ref f) = true) (N : NoSub X.K C)
    (ha : PE X a (up X.K m ta)) (hb2 : PE X b (up X.K m tb)) (hm : behindInMarks .In b = false := by first | exact nomark _ | rfl) : PE X (.Compare a [.In] [b] pos) (up X.K m (dInOwnT C sp ta tb)) :=
  PE.imp (pe_cmpR (OpR.or (op_inTx (by have := hr.r.units; omega)) (op_inOwn G hr hb hs hf N)) ha hb2 hm) fun σ H Q h => by
    obtain ⟨F, ρ, s, Qd, rl, ht, hQ⟩ := h
    refine up2 (R := fun x y H2 => rInTx X.K x y H2 Q ∨ rInOwn X.K C (lift X.K m 2 sp) false x y H2 Q) rl ht fun dx dy x y F2 H2 ρ2 s2 ⟨ys, ey, h⟩ r2 st rx ry => ?_
    subst ey
    rcases h with ⟨ht, q⟩ | ⟨no, q⟩
    · obtain ⟨p, vs, rfl, hT, _, rs⟩ := ry
      obtain ⟨rfl, _⟩ := reps_strs rs
      exact .inl ⟨F2, dx, p, ys, r2.sub, rx, ht, rfl, Same.seqT r2.sub hT, hQ _ ρ2 s2 _ F2 H2 q r2 st rfl⟩
    · exact .inr (own_step X.K r2 no (fun y hy => by obtain ⟨z, _, rfl⟩ := List.mem_map.mp hy; exact .inl ⟨z, rfl⟩) rx ry fun F' H' r' st' => hQ (.bl false) ρ2 s2 _ F' H' q r' (st.trans st') rfl)
theorem de_inOwnP (G : FnG X.prog X.w X.K X.mg X.base CX0 k f fd ps (lift X.K m 2 sp)) (hr : RoomG (k + 1) X.A) (hb : Binds X.K fd ps []) (hs : PySem.W.findIn X.K (.ref C) "__eq__" = some (some (.ref f))) (hf : PySem.W.isFn X.K (.ref f) = true) (N : NoSub X.K C)
    (ha : PE X a (up X.K m ta)) (hb2 : PE X b (up X.K m tb)) (hm : behindInMarks .In b = false := by first | exact nomark _ | rfl) : PE X (.Compare a [.In] [b] pos) (up X.K m (dInOwnP C sp ta tb)) :=
  PE.imp (pe_cmpR (OpR.or (op_inPr (by have := hr.r.units; omega)) (op_inOwn G hr hb hs hf N)) ha hb2 hm) fun σ H Q h => by
    obtain ⟨F, ρ, s, Qd, rl, ht, hQ⟩ := h
    refine up2 (R := fun x y H2 => rInPr X.K false x y H2 Q ∨ rInOwn X.K C (lift X.K m 2 sp) false x y H2 Q) rl ht fun dx dy x y F2 H2 ρ2 s2 ⟨ys, ey, h⟩ r2 st rx ry => ?_
    subst ey
    rcases h with ⟨ht, q⟩ | ⟨no, q⟩
    · obtain ⟨p, vs, rfl, hT, _, rs⟩ := ry
      obtain ⟨g1, g2⟩ := reps_prs rs
      refine .inl ⟨F2, dx, p, ys, vs, r2.sub, rx, ht, rfl, .inl (Same.seqT r2.sub hT), g1, fun j u q e1 e2 => ?_, by rw [Bool.false_xor]; exact hQ _ ρ2 s2 _ F2 H2 q r2 st rfl⟩
      obtain ⟨a, e, h⟩ := g2 j u q e1 e2
      exact ⟨a, e, Same.seqT r2.sub h⟩
    · exact .inr (own_step X.K r2 no (fun y hy => by obtain ⟨z, _, rfl⟩ := List.mem_map.mp hy; exact .inr ⟨_, rfl⟩) rx ry fun F' H' r' st' => hQ (.bl false) ρ2 s2 _ F' H' q r' (st.trans st') rfl)
/-- isinstance(x, str), isinstance(x, tuple): data, or an instance -/
def isn2D (C : Addr) (ds : List D) (Q : D → Prop) : Prop := isiD ds Q ∨ ∃ ns es t, ds = [.ins C ns es, .any (.ty (tgS t))] ∧ (t = .str ∨ t = .tup) ∧ Q (.bl false)
theorem o_isn2 {K : PySem.W.Frag} (I : InsK K C) (N : NoSub K C) : OpN K (rIsi K) (isn2D C) := by
  intro F H ds vs Qd Q sub rs h hQ
  rcases h with h | ⟨ns, es, t, rfl, ht, q⟩
  · exact o_isi F H ds vs Qd Q sub rs h hQ
  · obtain ⟨v, _, rfl, rv, w, _, rfl, rw', rn⟩ := rs
    cases rn
    cases rw'
    obtain ⟨a, dx, fs, rfl, h1, _, _⟩ := rv
    refine ⟨.ref a, .ty (tgS t), .ref C, .type (tgS t), false, rfl, .ty _, .base (.ins (sub _ _ h1) I.cl I.ha I.hn I.ht I.hm), ?_, hQ _ _ F H q (Grow.refl sub) rfl⟩
    rcases ht with rfl | rfl
    · exact N.ks
    · exact I.no
end
end DL

set_option Elab.async false
set_option linter.all false
set_option maxRecDepth 100000
set_option maxHeartbeats 1000000
/-! EO3: a pair of texts == a tuple of any data -/
namespace DL
open PySem PySem.Spec PyProof.Rows L2 TL
open SeqAt (EqAt RcAt)
section
variable {X : Cx}
theorem pair_rc {A : Around} {pins : List (Addr × Obj)} {σ : L2.St} {F H : Hp} {s : Shared} {a l : Addr} {p : Str × Str} {ds : List D} {vs : List V} (hu : A.units + 1 < cLine) (I : Inv X pins σ H s) (sub : Same F H) (hl : SqT X.K F l vs) (rs : Reps X.K F ds vs) (ht : ∀ d ∈ ds, (tyT d).isSome = true)
    (ha : SqT X.K H a [.str p.1, .str p.2]) : RcAt A s (.ref a) (.ref l) (isPr (.tup ds) p) := by
  have hu1 : A.units < cLine := Nat.lt_of_succ_lt hu
  obtain ⟨itp, rvp, tp, _⟩ := I.tuple ha
  obtain ⟨t1, t2, rfl⟩ : ∃ t1 t2, itp = [.str p.1 t1, .str p.2 t2] := by
    cases rvp with
    | cons h1 r =>
      cases r with
      | cons h2 r =>
        cases r
        obtain ⟨t1, rfl⟩ := h1
        obtain ⟨t2, rfl⟩ := h2
        exact ⟨t1, t2, rfl⟩
  have hl' := Same.seqT sub hl
  obtain ⟨its, rvs, tl, _⟩ := I.tuple hl'
  have lens := rvs.length
  have lend := rs.length
  have key := RcAt.tuples (A := A) (s := s) (e := fun j => match ds[j]? with | some d => eTx d (if j = 0 then .str p.1 t1 else .str p.2 t2) | none => false) tp tl hu1 (fun j h1 h2 => ?_)
  · have er : ((List.range (min ([Value.str p.1 t1, .str p.2 t2].toArray).size its.toArray.size)).all (fun j => match ds[j]? with | some d => eTx d (if j = 0 then .str p.1 t1 else .str p.2 t2) | none => false) && ([Value.str p.1 t1, .str p.2 t2].toArray).size == its.toArray.size) = isPr (.tup ds) p := by
      have e2 : its.toArray.size = ds.length := by simp only [List.size_toArray]; omega
      rw [e2]
      show ((List.range (min 2 ds.length)).all _ && (2 == ds.length)) = _
      match ds with
      | [] => rfl
      | [d0] =>
        rw [show (2 == [d0].length) = false from rfl, Bool.and_false]
        cases d0 <;> rfl
      | [d0, d1] =>
        show ((eTx d0 (.str p.1 t1) && (eTx d1 (.str p.2 t2) && true)) && true) = isPr (.tup [d0, d1]) p
        rw [Bool.and_true, Bool.and_true]
        cases d0 <;> first
          | rfl
          | (show (decide _ && _) = _
             cases d1 <;> first
               | (rw [show (eTx _ (.str p.2 t2)) = false from rfl, Bool.and_false]; rfl)
               | (show (decide (p.1 = _) && decide (p.2 = _)) = decide (p = (_, _))
                  obtain ⟨p1, p2⟩ := p
                  rw [Bool.eq_iff_iff, Bool.and_eq_true, decide_eq_true_iff, decide_eq_true_iff, decide_eq_true_iff, Prod.mk.injEq]))
      | d0 :: d1 :: d2 :: r =>
        have : (2 == (d0 :: d1 :: d2 :: r).length) = false := by
          rw [List.length_cons, List.length_cons, List.length_cons]
          exact beq_eq_false_iff_ne.mpr (by omega)
        rw [this, Bool.and_false]
        cases d0 <;> first | rfl | (cases d1 <;> rfl)
    rw [er] at key
    exact key
  · have h2' : j < its.length := by simpa using h2
    have hjv : j < vs.length := by omega
    have hjd : j < ds.length := by omega
    obtain ⟨w, g1, g2⟩ := rvs.get (i := j) (x := vs[j]) (List.getElem?_eq_getElem hjv)
    have gw : its.toArray[j] = w := by
      have : its[j]? = some w := g1
      rw [List.getElem?_eq_getElem h2'] at this
      simpa using this
    obtain ⟨d, hd, rd⟩ := reps_at rs (List.getElem?_eq_getElem hjv)
    show EqAt A.in1 s ([Value.str p.1 t1, .str p.2 t2].toArray[j]) its.toArray[j] (match ds[j]? with | some d => eTx d (if j = 0 then .str p.1 t1 else .str p.2 t2) | none => false)
    rw [gw, hd]
    have tyd : (tyT d).isSome = true := ht d (List.mem_of_getElem? hd)
    have h1' : j < 2 := h1
    match j, h1' with
    | 0, _ => exact txt_at (A := A.in1) hu I sub rd g2 tyd p.1 t1
    | 1, _ => exact txt_at (A := A.in1) hu I sub rd g2 tyd p.2 t2
def rEqPrT (K : PySem.W.Frag) : R2 := fun x y H Q => ∃ F a l p ds vs, Same F H ∧ x = V.ref a ∧ y = V.ref l ∧ SqT K F l vs ∧ Reps K F ds vs ∧ (∀ d ∈ ds, (tyT d).isSome = true) ∧ SqT K H a [.str p.1, .str p.2] ∧ Q (.bl (isPr (.tup ds) p)) H
theorem op_eqPrT (hu : X.A.units + 2 < cLine) : OpR X (compareOp .Eq) (rEqPrT X.K) := by
  intro pins s σ H x y v u Q I rx ry h
  obtain ⟨F, a, l, p, ds, vs, sub, rfl, rfl, hl, rs, ht, ha, q⟩ := h
  cases rx
  cases ry
  exact pair_rc (A := X.A) (by omega) I sub hl rs ht ha X.prog X.w _ _ ⟨.bl _, H, I, rfl, q⟩
end
def eqPrT : D → D → (Bool → Prop) → Prop := fun x y Q => ∃ p ds, x = ptP p ∧ y = .tup ds ∧ (∀ d ∈ ds, (tyT d).isSome = true) ∧ Q (isPr (.tup ds) p)
theorem o_eqPrT {K : PySem.W.Frag} : Cm2 K (rEqPrT K) eqPrT := by
  intro F H dx dy x y Qd Q sub rx ry h hQ
  obtain ⟨p, ds, rfl, rfl, ht, q⟩ := h
  obtain ⟨l, vs, rfl, hl, _, rs⟩ := ry
  have r2 : Reps K F ([p].map ptP) [x] := .cons rx .nil
  obtain ⟨_, g⟩ := reps_prs r2
  obtain ⟨a, rfl, ha⟩ := g 0 x p rfl rfl
  exact ⟨F, a, l, p, ds, vs, sub, rfl, rfl, hl, rs, ht, Same.seqT sub ha, hQ _ F H q (Grow.refl sub)⟩
end DL

set_option Elab.async false
set_option linter.all false
set_option maxRecDepth 100000
set_option maxHeartbeats 1000000
namespace R06
open PySem PySem.Spec PyProof.Rows L2 TL DL TX TO RP RG
def hasB (ms : List Str) (us : List (Str × Str)) (x : D) : Bool := inTx x (partsS ms) || inPr x (srt lessP us)
def spHas06 {m : Mem} (C : Addr) : DSp m := fun ds s Q => ∃ ms us x, ds = [progD C ms us, x] ∧ ((uV x ∧ Q (.bl (hasB ms us x)) s) ∨ ((∃ ns vs, x = progD C ns vs) ∧ Q (.bl false) s))
def insB (ms : List Str) (us : List (Str × Str)) (x : D) : Bool := match x with
  | .str z => ms.any fun m => lcov z m
  | .tup ds => us.any fun u => isPr (.tup ds) u
  | _ => false
def spInside06 {m : Mem} (C : Addr) : DSp m := fun ds s Q => ∃ ms us x, ds = [.lst ((ms : List Str).map .str), .lst ((us : List (Str × Str)).map ptD), x] ∧ ms.length ≤ 100 ∧ us.length ≤ 100 ∧ ((uV x ∧ Q (.bl (insB ms us x)) s) ∨ ((∃ ns vs, x = progD C ns vs) ∧ Q (.bl false) s))
theorem spInside06_len {m : Mem} {C : Addr} : ∀ ds s Qd, (spInside06 C : DSp m) ds s Qd → ds.length = 3 := fun ds s Qd ⟨_, _, _, e, _⟩ => by rw [e]; rfl
theorem lcov_begs {z m : Str} (hm : PathS m) : lcov z m = true ↔ z ∈ begs m := by
  unfold lcov begs
  rw [beq_iff_eq, List.mem_map]
  have h0 : splS 46 z ≠ [] := splS_ne 46 z
  constructor
  · intro h
    have hl : (splS 46 z).length ≤ (splS 46 m).length := by
      have := congrArg List.length h
      rw [List.length_take] at this
      omega
    have hp : 0 < (splS 46 z).length := List.length_pos_iff.mpr h0
    refine ⟨(splS 46 z).length - 1, List.mem_range.mpr (by omega), ?_⟩
    rw [show (splS 46 z).length - 1 + 1 = (splS 46 z).length by omega, h]
    exact join_splS 46 z
  · rintro ⟨k, hk, rfl⟩
    have hk := List.mem_range.mp hk
    have e : splS 46 (joinS dot ((splS 46 m).take (k + 1))) = (splS 46 m).take (k + 1) := spl_names (by
      intro q
      have := congrArg List.length q
      rw [List.length_take, List.length_nil] at this
      omega) fun n hn => hm.names.2 n (List.mem_of_mem_take hn)
    rw [e, List.length_take, Nat.min_eq_left (by omega)]
theorem inPr_tup {ps : List (Str × Str)} {d : D} : inPr d ps = ps.any (isPr d) := rfl
theorem has_ins {ms : List Str} {us : List (Str × Str)} (hm : ∀ m ∈ ms, PathS m) {x : D} (hx : uV x) : hasB ms us x = insB ms us x := by
  unfold hasB
  have perm : inPr x (srt lessP us) = us.any (isPr x) := by
    rw [inPr_tup]
    exact List.Perm.any_eq (srt_perm us)
  rw [perm]
  cases x with
  | str z =>
    have no : us.any (isPr (.str z)) = false := by
      rw [List.any_eq_false]; intro u _; exact Bool.false_ne_true
    rw [no, Bool.or_false]
    show ((partsS ms).any fun y => decide (y = z)) = ms.any fun m => lcov z m
    rw [Bool.eq_iff_iff, List.any_eq_true, List.any_eq_true]
    constructor
    · rintro ⟨y, hy, e⟩
      have e := of_decide_eq_true e
      subst e
      unfold partsS at hy
      rw [srt_mem, once_mem, List.mem_flatMap] at hy
      obtain ⟨m, h1, h2⟩ := hy
      exact ⟨m, h1, (lcov_begs (hm m h1)).mpr (List.mem_reverse.mp h2)⟩
    · rintro ⟨m, h1, h2⟩
      refine ⟨z, ?_, decide_eq_true rfl⟩
      unfold partsS
      rw [srt_mem, once_mem, List.mem_flatMap]
      exact ⟨m, h1, List.mem_reverse.mpr ((lcov_begs (hm m h1)).mp h2)⟩
  | tup ds => rfl
  | _ =>
    show (false || us.any _) = false
    rw [Bool.false_or, List.any_eq_false]
    intro u _
    exact Bool.false_ne_true
def V06 (C : Addr) (ms : List Str) (us : List (Str × Str)) (x : D) : Prop := uV x ∨ x = progD C ms us
theorem uv_str (z : Str) : uV (.str z) := ⟨rfl, fun _ e => by cases e⟩
theorem uv_tup {ds : List D} (h : ∀ d ∈ ds, (tyT d).isSome = true) : uV (.tup ds) := ⟨rfl, fun _ e => by cases e; exact h⟩
theorem uv_lst (ds : List D) : uV (.lst ds) := ⟨rfl, fun _ e => by cases e⟩
theorem uv_pt (p : Str × Str) : uV (ptD p) := uv_tup fun d hd => by
  rcases List.mem_cons.mp hd with rfl | hd
  · rfl
  · rw [List.mem_singleton.mp hd]; rfl
theorem gl_ty {d : D} (h : gl d = true) : (tyT d).isSome = true := by cases d <;> first | rfl | cases h
theorem gls_ty : ∀ {ds : List D}, gls ds = true → ∀ d ∈ ds, (tyT d).isSome = true
  | [], _, d, hd => by cases hd
  | x :: ds, h, d, hd => by
    have h : (gl x && gls ds) = true := h
    rw [Bool.and_eq_true] at h
    rcases List.mem_cons.mp hd with rfl | hd
    · exact gl_ty h.1
    · exact gls_ty h.2 d hd
theorem gd_uV {N W n : Nat} {d : D} (h : Gd N W n d) : uV d := ⟨gl_ty h.g, fun ds e => by
  subst e
  exact gls_ty h.g⟩

def T_inside06 (a : Nat → Addr) {m : Mem} : DTS m :=
  (dSeq (dIf (dTr (dB (isn2D (a 24)) (daCons (dVar 2) (daCons (dC (D.any (V.ty "str"))) daNil)))) (dRet (dCm (eqE true) (dLc (diSeq (dVar 0)) (gN 3) (dTr (dCall spLcov (daCons (dVar 2) (daCons (dVar 3) daNil)))) (dVar 3) [3]) (dLst daNil))) dNext)
      (dRet (dAndV (dB (isn2D (a 24)) (daCons (dVar 2) (daCons (dC (D.any (V.ty "tuple"))) daNil))) (dCm (eqE true) (dLc (diSeq (dVar 1)) (gN 4) (dCmT eqPrT (dVar 4) (dVar 2)) (dVar 4) [4]) (dLst daNil)))))
theorem read_inside06 {a : Nat → Addr} {m : Mem} : ∀ ds s Qd, (spInside06 (a 24) : DSp m) ds s Qd → (T_inside06 a : DTS m) (endsOf Qd) (startD ["_law_modules_here", "_law_uses_here", "_law_value", "_law_module", "_law_use"] ds) s := by
  intro ds s Qd h
  obtain ⟨ms, us, x, rfl, l1, l2, h⟩ := h
  have ne : ∀ {α : Type} (L : List α) (p : α → Bool) (f : α → D), (true ^^ ((L.filter p).map f).isEmpty) = L.any p := fun L p f => by
    cases e : L.any p with
    | true =>
      obtain ⟨y, hy, hp⟩ := List.any_eq_true.mp e
      have : y ∈ L.filter p := List.mem_filter.mpr ⟨hy, hp⟩
      cases q : L.filter p with
      | nil => rw [q] at this; cases this
      | cons a r => rfl
    | false =>
      have : L.filter p = [] := List.filter_eq_nil_iff.mpr fun y hy hp => by
        rw [List.any_eq_false] at e
        exact e y hy hp
      rw [this]; rfl
  have second : ∀ t : Tg, tyT x = some t → t ≠ .tup → Qd (.bl false) s → (dRet (dAndV (dB (isn2D (a 24)) (daCons (dVar 2) (daCons (dC (D.any (V.ty "tuple"))) daNil))) (dCm (eqE true) (dLc (diSeq (dVar 1)) (gN 4) (dCmT eqPrT (dVar 4) (dVar 2)) (dVar 4) [4]) (dLst daNil))) : DTS m) (endsOf Qd) [.sh (.lst (ms.map .str)), .sh (.lst (us.map ptD)), .sh x, .no, .no] s := fun t ht nt q => by
    cases t <;> first | exact .inl ⟨x, .tup, _, rfl, ht, (by intro z; cases z), false, rfl, q⟩ | exact absurd rfl nt
  rcases h with ⟨hx, hQ⟩ | ⟨⟨ns, vs, rfl⟩, hQ⟩
  · cases x with
    | str z =>
      refine .inl ⟨.str z, .str, .str, rfl, rfl, (by intro w; cases w), true, rfl, ?_⟩
      refine ⟨_, rfl, lcF (f := D.str) (p := fun m => lcov z m) (h := D.str) ms (by omega) (fun m0 hm T U t f => ?_) ?_⟩
      · refine ⟨z, m0, rfl, _, rfl, rfl, ?_⟩
        exact ifB2 (fun e => ⟨rfl, t e⟩) fun e => f e
      · refine ⟨DL.lz rfl, _, rfl, rfl, ?_⟩
        rw [ne]
        exact hQ
    | tup ds =>
      refine .inl ⟨.tup ds, .str, .tup, rfl, rfl, (by intro w; cases w), false, rfl, ?_⟩
      refine .inl ⟨.tup ds, .tup, .tup, rfl, rfl, (by intro w; cases w), true, rfl, ?_⟩
      refine ⟨_, rfl, lcF (f := ptD) (p := fun u => isPr (.tup ds) u) (h := ptD) us (by omega) (fun u hu T U t f => ?_) ?_⟩
      · refine ⟨u, ds, rfl, rfl, fun d hd => hx.2 ds rfl d hd, rfl, ?_⟩
        exact ifB2 (fun e => ⟨rfl, t e⟩) fun e => f e
      · refine ⟨DL.lz rfl, _, rfl, rfl, ?_⟩
        rw [ne]
        exact hQ
    | non => exact .inl ⟨.non, .str, .non, rfl, rfl, (by intro w; cases w), false, rfl, second _ rfl (by intro w; cases w) hQ⟩
    | bl b => exact .inl ⟨.bl b, .str, .bl, rfl, rfl, (by intro w; cases w), false, rfl, second _ rfl (by intro w; cases w) hQ⟩
    | int i => exact .inl ⟨.int i, .str, .int, rfl, rfl, (by intro w; cases w), false, rfl, second _ rfl (by intro w; cases w) hQ⟩
    | lst l => exact .inl ⟨.lst l, .str, .lst, rfl, rfl, (by intro w; cases w), false, rfl, second _ rfl (by intro w; cases w) hQ⟩
    | dic k l => exact .inl ⟨.dic k l, .str, .dic, rfl, rfl, (by intro w; cases w), false, rfl, second _ rfl (by intro w; cases w) hQ⟩
    | _ => cases hx.1
  · exact .inr ⟨_, _, .str, rfl, .inl rfl, false, rfl, .inr ⟨_, _, .tup, rfl, .inr rfl, false, rfl, hQ⟩⟩
def T_has06 (a : Nat → Addr) {m : Mem} : DTS m :=
  (dRet (dOrV (dInOwnT (a 24) (spProgEq (a 24)) (dVar 1) (dFld (a 24) (Str.ofString "_parts") (dVar 0))) (dInOwnP (a 24) (spProgEq (a 24)) (dVar 1) (dFld (a 24) (Str.ofString "_uses") (dVar 0)))))
theorem read_has06 {a : Nat → Addr} {m : Mem} : ∀ ds s Qd, (spHas06 (a 24) : DSp m) ds s Qd → (T_has06 a : DTS m) (endsOf Qd) (startD ["self", "value"] ds) s := by
  intro ds s Qd h
  obtain ⟨ms, us, x, rfl, h⟩ := h
  rcases h with ⟨hx, hQ⟩ | ⟨⟨ns, vs, rfl⟩, hQ⟩
  · refine ⟨_, _, _, rfl, rfl, partsS ms, rfl, .inl ⟨hx.1, _, rfl, ?_⟩⟩
    refine ifB2 (fun e => ?_) fun e => ?_
    · show Qd (.bl (inTx x (partsS ms))) s
      unfold hasB at hQ
      rw [e, Bool.true_or] at hQ
      rw [e]; exact hQ
    · refine ⟨_, _, _, rfl, rfl, srt lessP us, rfl, .inl ⟨hx, ?_⟩⟩
      unfold hasB at hQ
      rw [e, Bool.false_or] at hQ
      exact hQ
  · refine ⟨_, _, _, rfl, rfl, partsS ms, rfl, .inr ⟨⟨⟨_, _, rfl⟩, fun y hy Q q => ?_⟩, _, rfl, ?_⟩⟩
    · obtain ⟨z, _, rfl⟩ := List.mem_map.mp hy
      exact ⟨ns, vs, _, rfl, .inr ⟨rfl, q⟩⟩
    · refine ⟨_, _, _, rfl, rfl, srt lessP us, rfl, .inr ⟨⟨⟨_, _, rfl⟩, fun y hy Q q => ?_⟩, hQ⟩⟩
      obtain ⟨z, _, rfl⟩ := List.mem_map.mp hy
      exact ⟨ns, vs, _, rfl, .inr ⟨rfl, q⟩⟩
def T_law06_r1_6 (a : Nat → Addr) : DTS Mem.deck :=
  (dSeq (dSet 9 (dOp addD (dOp addD (dOp addD (dVar 4) (dVar 5)) (dLc (diSeq (dVar 5)) (gN 14) dYes (dRevT (dVar 14)) [14])) (dLst (daCons (dTup (daCons (dVar 7) (daCons (dVar 8) daNil))) (daCons (dTup (daCons (dVar 8) (daCons (dVar 7) daNil))) (daCons (dB listD (daCons (dTup (daCons (dVar 7) (daCons (dVar 8) daNil))) daNil)) (daCons (dVar 6) daNil)))))))
      (dSeq (dSet 10 (dMt "str" splitD (dVar 7) (daCons (dC (D.str (Str.ofString "."))) daNil)))
      (dSeq (dSet 9 (dOp addD (dOp addD (dVar 9) (dLst (daCons (dOp addD (dVar 7) (dC (D.str (Str.ofString ".a")))) (daCons (dOp addD (dVar 7) (dC (D.str (Str.ofString "a")))) (daCons (dSl slD (dVar 7) doNone (doSome (dUn negD (dC (D.int 1))))) daNil))))) (dLc (diR1 (daCons (dB lenD (daCons (dVar 10) daNil)) daNil)) (gN 12) dYes (dMt "str" joinD (dC (D.str (Str.ofString "."))) (daCons (dSl slD (dVar 10) doNone (doSome (dVar 12))) daNil)) [12])))
      (dSeq (dSet 9 (dOp addD (dVar 9) (dLst (daCons (dTup (daCons (dOp ixD (dVar 10) (dC (D.int 0))) (daCons (dVar 8) daNil))) (daCons (dTup (daCons (dVar 7) (daCons (dVar 8) (daCons (dVar 7) daNil)))) (daCons (dTup (daCons (dLst daNil) (daCons (dVar 7) daNil))) (daCons (dTup (daCons (dVar 7) (daCons dDict0 daNil))) (daCons (dTup (daCons (dC D.non) (daCons (dVar 8) daNil))) daNil))))))))
      (dSeq (dSet 9 (dOp addD (dOp addD (dVar 9) (dLc (diR1 (daCons (dC (D.int 6)) daNil)) (gN 13) dYes (dCall spOdd11 (daCons (dVar 1) (daCons (dVar 7) daNil))) [13])) (dLc (diR1 (daCons (dC (D.int 4)) daNil)) (gN 13) dYes (dCall spPath (daCons (dVar 1) (daCons (dVar 3) (daCons (dC (D.int 6)) daNil)))) [13])))
      (dSeq (dFor (diSeq (dVar 9)) (gN 11)
        (dIf (dNotT (dTr (dCall spSays (daCons (dOwnIn (a 24) (spHas06 (a 24)) (dVar 11) (dVar 6)) (daCons (dCall (spInside06 (a 24)) (daCons (dVar 4) (daCons (dVar 5) (daCons (dVar 11) daNil)))) daNil))))) (dRet (dC (D.bl false))) dNext))
      (dIf (dOrT (dCmT neC (dProp (a 24) (spGetM (a 24)) (dVar 6)) (dB tupD (daCons (dB sortD (daCons (dVar 4) daNil)) daNil))) (dCmT neC (dProp (a 24) (spGetU (a 24)) (dVar 6)) (dB tupD (daCons (dB sortD (daCons (dVar 5) daNil)) daNil)))) (dRet (dC (D.bl false))) dNext)))))))
def T_law06_r1_8 (a : Nat → Addr) : DTS Mem.deck :=
  (dSeq (dSet 9 (dOp addD (dOp addD (dVar 9) (dLst (daCons (dOp addD (dVar 7) (dC (D.str (Str.ofString ".a")))) (daCons (dOp addD (dVar 7) (dC (D.str (Str.ofString "a")))) (daCons (dSl slD (dVar 7) doNone (doSome (dUn negD (dC (D.int 1))))) daNil))))) (dLc (diR1 (daCons (dB lenD (daCons (dVar 10) daNil)) daNil)) (gN 12) dYes (dMt "str" joinD (dC (D.str (Str.ofString "."))) (daCons (dSl slD (dVar 10) doNone (doSome (dVar 12))) daNil)) [12])))
      (dSeq (dSet 9 (dOp addD (dVar 9) (dLst (daCons (dTup (daCons (dOp ixD (dVar 10) (dC (D.int 0))) (daCons (dVar 8) daNil))) (daCons (dTup (daCons (dVar 7) (daCons (dVar 8) (daCons (dVar 7) daNil)))) (daCons (dTup (daCons (dLst daNil) (daCons (dVar 7) daNil))) (daCons (dTup (daCons (dVar 7) (daCons dDict0 daNil))) (daCons (dTup (daCons (dC D.non) (daCons (dVar 8) daNil))) daNil))))))))
      (dSeq (dSet 9 (dOp addD (dOp addD (dVar 9) (dLc (diR1 (daCons (dC (D.int 6)) daNil)) (gN 13) dYes (dCall spOdd11 (daCons (dVar 1) (daCons (dVar 7) daNil))) [13])) (dLc (diR1 (daCons (dC (D.int 4)) daNil)) (gN 13) dYes (dCall spPath (daCons (dVar 1) (daCons (dVar 3) (daCons (dC (D.int 6)) daNil)))) [13])))
      (dSeq (dFor (diSeq (dVar 9)) (gN 11)
        (dIf (dNotT (dTr (dCall spSays (daCons (dOwnIn (a 24) (spHas06 (a 24)) (dVar 11) (dVar 6)) (daCons (dCall (spInside06 (a 24)) (daCons (dVar 4) (daCons (dVar 5) (daCons (dVar 11) daNil)))) daNil))))) (dRet (dC (D.bl false))) dNext))
      (dIf (dOrT (dCmT neC (dProp (a 24) (spGetM (a 24)) (dVar 6)) (dB tupD (daCons (dB sortD (daCons (dVar 4) daNil)) daNil))) (dCmT neC (dProp (a 24) (spGetU (a 24)) (dVar 6)) (dB tupD (daCons (dB sortD (daCons (dVar 5) daNil)) daNil)))) (dRet (dC (D.bl false))) dNext)))))
def T_law06_r1_9 (a : Nat → Addr) : DTS Mem.deck :=
  (dSeq (dSet 9 (dOp addD (dVar 9) (dLst (daCons (dTup (daCons (dOp ixD (dVar 10) (dC (D.int 0))) (daCons (dVar 8) daNil))) (daCons (dTup (daCons (dVar 7) (daCons (dVar 8) (daCons (dVar 7) daNil)))) (daCons (dTup (daCons (dLst daNil) (daCons (dVar 7) daNil))) (daCons (dTup (daCons (dVar 7) (daCons dDict0 daNil))) (daCons (dTup (daCons (dC D.non) (daCons (dVar 8) daNil))) daNil))))))))
      (dSeq (dSet 9 (dOp addD (dOp addD (dVar 9) (dLc (diR1 (daCons (dC (D.int 6)) daNil)) (gN 13) dYes (dCall spOdd11 (daCons (dVar 1) (daCons (dVar 7) daNil))) [13])) (dLc (diR1 (daCons (dC (D.int 4)) daNil)) (gN 13) dYes (dCall spPath (daCons (dVar 1) (daCons (dVar 3) (daCons (dC (D.int 6)) daNil)))) [13])))
      (dSeq (dFor (diSeq (dVar 9)) (gN 11)
        (dIf (dNotT (dTr (dCall spSays (daCons (dOwnIn (a 24) (spHas06 (a 24)) (dVar 11) (dVar 6)) (daCons (dCall (spInside06 (a 24)) (daCons (dVar 4) (daCons (dVar 5) (daCons (dVar 11) daNil)))) daNil))))) (dRet (dC (D.bl false))) dNext))
      (dIf (dOrT (dCmT neC (dProp (a 24) (spGetM (a 24)) (dVar 6)) (dB tupD (daCons (dB sortD (daCons (dVar 4) daNil)) daNil))) (dCmT neC (dProp (a 24) (spGetU (a 24)) (dVar 6)) (dB tupD (daCons (dB sortD (daCons (dVar 5) daNil)) daNil)))) (dRet (dC (D.bl false))) dNext))))
def T_law06_r1_10 (a : Nat → Addr) : DTS Mem.deck :=
  (dSeq (dSet 9 (dOp addD (dOp addD (dVar 9) (dLc (diR1 (daCons (dC (D.int 6)) daNil)) (gN 13) dYes (dCall spOdd11 (daCons (dVar 1) (daCons (dVar 7) daNil))) [13])) (dLc (diR1 (daCons (dC (D.int 4)) daNil)) (gN 13) dYes (dCall spPath (daCons (dVar 1) (daCons (dVar 3) (daCons (dC (D.int 6)) daNil)))) [13])))
      (dSeq (dFor (diSeq (dVar 9)) (gN 11)
        (dIf (dNotT (dTr (dCall spSays (daCons (dOwnIn (a 24) (spHas06 (a 24)) (dVar 11) (dVar 6)) (daCons (dCall (spInside06 (a 24)) (daCons (dVar 4) (daCons (dVar 5) (daCons (dVar 11) daNil)))) daNil))))) (dRet (dC (D.bl false))) dNext))
      (dIf (dOrT (dCmT neC (dProp (a 24) (spGetM (a 24)) (dVar 6)) (dB tupD (daCons (dB sortD (daCons (dVar 4) daNil)) daNil))) (dCmT neC (dProp (a 24) (spGetU (a 24)) (dVar 6)) (dB tupD (daCons (dB sortD (daCons (dVar 5) daNil)) daNil)))) (dRet (dC (D.bl false))) dNext)))
def T_law06_r1_11 (a : Nat → Addr) : DTS Mem.deck :=
  (dSeq (dFor (diSeq (dVar 9)) (gN 11)
        (dIf (dNotT (dTr (dCall spSays (daCons (dOwnIn (a 24) (spHas06 (a 24)) (dVar 11) (dVar 6)) (daCons (dCall (spInside06 (a 24)) (daCons (dVar 4) (daCons (dVar 5) (daCons (dVar 11) daNil)))) daNil))))) (dRet (dC (D.bl false))) dNext))
      (dIf (dOrT (dCmT neC (dProp (a 24) (spGetM (a 24)) (dVar 6)) (dB tupD (daCons (dB sortD (daCons (dVar 4) daNil)) daNil))) (dCmT neC (dProp (a 24) (spGetU (a 24)) (dVar 6)) (dB tupD (daCons (dB sortD (daCons (dVar 5) daNil)) daNil)))) (dRet (dC (D.bl false))) dNext))
def T_law06 (a : Nat → Addr) : DTS Mem.deck :=
  (dSeq (dSet 1 (dCall spDeck (daCons (dVar 0) daNil)))
      (dSeq (dFor (diR1 (daCons (dC (D.int 3)) daNil)) (gN 2)
        (dSeq (dSet 3 (dCall spPool (daCons (dVar 1) (daCons (dC (D.int 5)) daNil))))
        (dSeq (dSet 4 (dCall spModules (daCons (dVar 1) (daCons (dVar 3) (daCons (dC (D.int 10)) daNil)))))
        (dSeq (dSet 5 (dCall spUses (daCons (dVar 1) (daCons (dVar 4) (daCons (dC (D.int 14)) daNil)))))
        (dSeq (dSet 6 (dMake (a 24) spProgI (daCons (dB tupD (daCons (dVar 4) daNil)) (daCons (dB tupD (daCons (dVar 5) daNil)) daNil))))
        (dSeq (dSet 7 (dOp ixD (dOp addD (dVar 4) (dLst (daCons (dC (D.str (Str.ofString "a"))) daNil))) (dCall spNext (daCons (dVar 1) (daCons (dOp addD (dB lenD (daCons (dVar 4) daNil)) (dC (D.int 1))) daNil)))))
        (dSeq (dSet 8 (dOp ixD (dOp addD (dVar 4) (dLst (daCons (dC (D.str (Str.ofString "b"))) daNil))) (dCall spNext (daCons (dVar 1) (daCons (dOp addD (dB lenD (daCons (dVar 4) daNil)) (dC (D.int 1))) daNil)))))
        (dSeq (dSet 9 (dOp addD (dOp addD (dOp addD (dVar 4) (dVar 5)) (dLc (diSeq (dVar 5)) (gN 14) dYes (dRevT (dVar 14)) [14])) (dLst (daCons (dTup (daCons (dVar 7) (daCons (dVar 8) daNil))) (daCons (dTup (daCons (dVar 8) (daCons (dVar 7) daNil))) (daCons (dB listD (daCons (dTup (daCons (dVar 7) (daCons (dVar 8) daNil))) daNil)) (daCons (dVar 6) daNil)))))))
        (dSeq (dSet 10 (dMt "str" splitD (dVar 7) (daCons (dC (D.str (Str.ofString "."))) daNil)))
        (dSeq (dSet 9 (dOp addD (dOp addD (dVar 9) (dLst (daCons (dOp addD (dVar 7) (dC (D.str (Str.ofString ".a")))) (daCons (dOp addD (dVar 7) (dC (D.str (Str.ofString "a")))) (daCons (dSl slD (dVar 7) doNone (doSome (dUn negD (dC (D.int 1))))) daNil))))) (dLc (diR1 (daCons (dB lenD (daCons (dVar 10) daNil)) daNil)) (gN 12) dYes (dMt "str" joinD (dC (D.str (Str.ofString "."))) (daCons (dSl slD (dVar 10) doNone (doSome (dVar 12))) daNil)) [12])))
        (dSeq (dSet 9 (dOp addD (dVar 9) (dLst (daCons (dTup (daCons (dOp ixD (dVar 10) (dC (D.int 0))) (daCons (dVar 8) daNil))) (daCons (dTup (daCons (dVar 7) (daCons (dVar 8) (daCons (dVar 7) daNil)))) (daCons (dTup (daCons (dLst daNil) (daCons (dVar 7) daNil))) (daCons (dTup (daCons (dVar 7) (daCons dDict0 daNil))) (daCons (dTup (daCons (dC D.non) (daCons (dVar 8) daNil))) daNil))))))))
        (dSeq (dSet 9 (dOp addD (dOp addD (dVar 9) (dLc (diR1 (daCons (dC (D.int 6)) daNil)) (gN 13) dYes (dCall spOdd11 (daCons (dVar 1) (daCons (dVar 7) daNil))) [13])) (dLc (diR1 (daCons (dC (D.int 4)) daNil)) (gN 13) dYes (dCall spPath (daCons (dVar 1) (daCons (dVar 3) (daCons (dC (D.int 6)) daNil)))) [13])))
        (dSeq (dFor (diSeq (dVar 9)) (gN 11)
          (dIf (dNotT (dTr (dCall spSays (daCons (dOwnIn (a 24) (spHas06 (a 24)) (dVar 11) (dVar 6)) (daCons (dCall (spInside06 (a 24)) (daCons (dVar 4) (daCons (dVar 5) (daCons (dVar 11) daNil)))) daNil))))) (dRet (dC (D.bl false))) dNext))
        (dIf (dOrT (dCmT neC (dProp (a 24) (spGetM (a 24)) (dVar 6)) (dB tupD (daCons (dB sortD (daCons (dVar 4) daNil)) daNil))) (dCmT neC (dProp (a 24) (spGetU (a 24)) (dVar 6)) (dB tupD (daCons (dB sortD (daCons (dVar 5) daNil)) daNil)))) (dRet (dC (D.bl false))) dNext))))))))))))))
      (dRet (dC (D.bl true)))))
theorem read_law06 {a : Nat → Addr} : ∀ ds s Qd, (spLaw : DSp Mem.deck) ds s Qd → (T_law06 a : DTS Mem.deck) (endsOf Qd) (startD ["_law_script", "_law_deck_here", "_law_turn", "_law_pool_here", "_law_modules_here", "_law_uses_here", "_law_one", "_law_path_here", "_law_other", "_law_tried", "_law_names", "_law_value", "_law_many", "_law_k", "_law_use"] ds) s := by
  intro ds s Qd h
  obtain ⟨ns0, rfl, hl, hs, hn, hQ⟩ := h
  have hlim : drawLim = 1152921504606846976 := rfl
  have hsl : strLim = 1000000 := rfl
  have hd : (Str.ofString ".") = dot := by decide +kernel
  have line : ∀ n, n ≤ 2000 → n ≤ sizeLine := fun n h => line_of (by omega)
  refine ⟨ns0, rfl, hl, hs, fun A B C => ?_⟩
  -- the values, one after another
  have last : ∀ (E : DEnds Mem.deck) (ms : List Str) (us : List (Str × Str)) (L : List D) (c2 c3 c7 c8 c10 c11 c12 c13 c14 : Sl) (s1 : Mem.deck.S), Mods ms → Uses ms us → ms.length ≤ 10 → us.length ≤ 14 → (∀ d ∈ L, V06 (a 24) ms us d) →
      (∀ c11, E.nx [.sh (.fz (ns0.map .int)), .sh (.any (.ref A)), c2, c3, .sh (.lst (ms.map .str)), .sh (.lst (us.map ptD)), .sh (progD (a 24) ms us), c7, c8, .sh (.lst L), c10, c11, c12, c13, c14] s1) →
      T_law06_r1_11 a E [.sh (.fz (ns0.map .int)), .sh (.any (.ref A)), c2, c3, .sh (.lst (ms.map .str)), .sh (.lst (us.map ptD)), .sh (progD (a 24) ms us), c7, c8, .sh (.lst L), c10, c11, c12, c13, c14] s1 := by
    intro E ms us L c2 c3 c7 c8 c10 c11 c12 c13 c14 s1 hm hu l1 l2 hL hE
    refine ⟨L, rfl, fun pre ρ s' => s' = s1 ∧ ∃ c11, ρ = [.sh (.fz (ns0.map .int)), .sh (.any (.ref A)), c2, c3, .sh (.lst (ms.map .str)), .sh (.lst (us.map ptD)), .sh (progD (a 24) ms us), c7, c8, .sh (.lst L), c10, c11, c12, c13, c14], ⟨rfl, _, rfl⟩, ?_, ?_⟩
    · rintro pre v post ρ s' e ⟨rfl, c11, rfl⟩
      have hv := hL v (by rw [e]; simp)
      have yes : ∀ b : Bool, (b == b) = true := fun b => by cases b <;> rfl
      rcases hv with hv | rfl
      · refine ⟨⟨_, _, rfl⟩, ms, us, v, rfl, .inl ⟨hv, _, rfl, ?_⟩⟩
        refine ⟨ms, us, v, rfl, by omega, by omega, .inl ⟨hv, _, _, rfl, ?_⟩⟩
        rw [has_ins hm.path hv, yes]
        exact ⟨_, rfl, rfl, _, rfl⟩
      · refine ⟨⟨_, _, rfl⟩, ms, us, _, rfl, .inr ⟨⟨_, _, rfl⟩, _, rfl, ?_⟩⟩
        refine ⟨ms, us, _, rfl, by omega, by omega, .inr ⟨⟨_, _, rfl⟩, _, _, rfl, _, rfl, rfl, _, rfl⟩⟩
    · rintro ρ s' ⟨rfl, c11, rfl⟩
      refine ⟨⟨_, _, rfl⟩, ms, us, rfl, .inl ⟨_, ms, rfl, rfl, _, _, rfl, rfl, plain_tup _, plain_tup _, ?_⟩⟩
      rw [show eqD (.tup ((srt lessS ms).map .str)) (.tup ((srt lessS ms).map .str)) = decide (srt lessS ms = srt lessS ms) from eqDs_str _ _, dec_self]
      refine ⟨⟨_, _, rfl⟩, ms, us, rfl, .inr ⟨_, us, rfl, rfl, _, _, rfl, rfl, plain_tupP _, plain_tupP _, ?_⟩⟩
      rw [show eqD (.tup ((srt lessP us).map ptD)) (.tup ((srt lessP us).map ptD)) = decide (srt lessP us = srt lessP us) from eqDs_pr _ _, dec_self]
      exact hE c11
  -- odd values and drawn paths
  have r10 : ∀ (E : DEnds Mem.deck) (ms pool : List Str) (us : List (Str × Str)) (x : Str) (L : List D) (c2 c8 c10 c11 c12 c13 c14 : Sl) (k : Nat), Mods ms → Uses ms us → ms.length ≤ 10 → us.length ≤ 14 → pool.length = 5 → (∀ x ∈ pool, NameOk x) → PathS x → L.length ≤ 200 → k + 200 < drawLim → (∀ d ∈ L, V06 (a 24) ms us d) →
      (∀ k' c9 c11 c13, k' ≤ k + 100 → E.nx [.sh (.fz (ns0.map .int)), .sh (.any (.ref A)), c2, .sh (.lst (pool.map .str)), .sh (.lst (ms.map .str)), .sh (.lst (us.map ptD)), .sh (progD (a 24) ms us), .sh (.str x), c8, c9, c10, c11, c12, c13, c14] ⟨some (A, B, C), k'⟩) →
      T_law06_r1_10 a E [.sh (.fz (ns0.map .int)), .sh (.any (.ref A)), c2, .sh (.lst (pool.map .str)), .sh (.lst (ms.map .str)), .sh (.lst (us.map ptD)), .sh (progD (a 24) ms us), .sh (.str x), c8, .sh (.lst L), c10, c11, c12, c13, c14] ⟨some (A, B, C), k⟩ := by
    intro E ms pool us x L c2 c8 c10 c11 c12 c13 c14 k hm hu l1 l2 hpl hpool hx lL hk hL hE
    refine ⟨6, rfl, by decide, by decide, line _ (by decide), fun pre acc s' => s'.adr = some (A, B, C) ∧ s'.n ≤ k + pre.length ∧ acc.length = pre.length ∧ ∀ d ∈ acc, uV d, ⟨rfl, Nat.le_refl _, rfl, by simp⟩, ?_, ?_⟩
    · rintro pre y post acc s' e - ⟨e1, e2, e3, e4⟩
      obtain ⟨hp, _⟩ := rng_pre e
      have hp : pre.length < 6 := hp
      refine ⟨rfl, A, B, C, x, rfl, e1, hx, by omega, fun d k' hd hk' => ⟨rfl, e1, by show k' ≤ _; rw [List.length_append, List.length_singleton]; omega, by rw [List.length_append, List.length_append, e3]; rfl, fun z hz => ?_⟩⟩
      rcases List.mem_append.mp hz with z1 | z1
      · exact e4 z z1
      · rw [List.mem_singleton.mp z1]; exact gd_uV hd
    · rintro acc s' - ⟨e1, e2, e3, e4⟩
      have e2 : s'.n ≤ k + 6 := e2
      have e3 : acc.length = 6 := e3
      refine ⟨line _ (by omega), 4, rfl, by decide, by decide, line _ (by decide), fun pre acc2 s2 => s2.adr = some (A, B, C) ∧ s2.n ≤ k + 6 + 20 * pre.length ∧ acc2.length = pre.length ∧ ∀ d ∈ acc2, uV d, ⟨e1, e2, rfl, by simp⟩, ?_, ?_⟩
      · rintro pre y post acc2 s2 e - ⟨f1, f2, f3, f4⟩
        obtain ⟨hp, _⟩ := rng_pre e
        have hp : pre.length < 4 := hp
        refine ⟨rfl, A, B, C, pool, 6, f1, rfl, by decide, by decide, by omega, by omega, fun y hy => (hpool y hy).2.1, by omega, fun y k' hy hk' => ⟨rfl, f1, by show k' ≤ _; rw [List.length_append, List.length_singleton]; omega, by rw [List.length_append, List.length_append, f3]; rfl, fun z hz => ?_⟩⟩
        rcases List.mem_append.mp hz with z1 | z1
        · exact f4 z z1
        · rw [List.mem_singleton.mp z1]; exact uv_str _
      · rintro acc2 s2 - ⟨f1, f2, f3, f4⟩
        have f2 : s2.n ≤ k + 6 + 20 * 4 := f2
        have f3 : acc2.length = 4 := f3
        obtain ⟨sa, sn⟩ := s2
        have f1 : sa = some (A, B, C) := f1
        subst f1
        refine ⟨line _ (by rw [List.length_append]; omega), ?_⟩
        refine last E ms us _ _ _ _ _ _ _ _ _ _ _ hm hu l1 l2 (fun d hd => ?_) fun c11 => hE sn _ _ _ (by show sn ≤ _; have : sn ≤ k + 6 + 20 * 4 := f2; omega)
        rcases List.mem_append.mp hd with z | z
        · rcases List.mem_append.mp z with z | z
          · exact hL d z
          · exact .inl (e4 d z)
        · exact .inl (f4 d z)
  -- tuples that are no uses
  have r9 : ∀ (E : DEnds Mem.deck) (ms pool : List Str) (us : List (Str × Str)) (x y : Str) (L : List D) (c2 c11 c12 c13 c14 : Sl) (k : Nat), Mods ms → Uses ms us → ms.length ≤ 10 → us.length ≤ 14 → pool.length = 5 → (∀ x ∈ pool, NameOk x) → PathS x → PathS y → L.length ≤ 150 → k + 200 < drawLim → (∀ d ∈ L, V06 (a 24) ms us d) →
      (∀ k' c9 c11 c13, k' ≤ k + 100 → E.nx [.sh (.fz (ns0.map .int)), .sh (.any (.ref A)), c2, .sh (.lst (pool.map .str)), .sh (.lst (ms.map .str)), .sh (.lst (us.map ptD)), .sh (progD (a 24) ms us), .sh (.str x), .sh (.str y), c9, .sh (.lst ((splS 46 x).map .str)), c11, c12, c13, c14] ⟨some (A, B, C), k'⟩) →
      T_law06_r1_9 a E [.sh (.fz (ns0.map .int)), .sh (.any (.ref A)), c2, .sh (.lst (pool.map .str)), .sh (.lst (ms.map .str)), .sh (.lst (us.map ptD)), .sh (progD (a 24) ms us), .sh (.str x), .sh (.str y), .sh (.lst L), .sh (.lst ((splS 46 x).map .str)), c11, c12, c13, c14] ⟨some (A, B, C), k⟩ := by
    intro E ms pool us x y L c2 c11 c12 c13 c14 k hm hu l1 l2 hpl hpool hx hy lL hk hL hE
    obtain ⟨n, r, en⟩ : ∃ n r, splS 46 x = n :: r := by
      cases e : splS 46 x with
      | nil => exact absurd e (splS_ne 46 x)
      | cons n r => exact ⟨n, r, rfl⟩
    rw [en] at hE ⊢
    refine ⟨_, atI_nat (j := 0) rfl, DL.lz rfl, DL.lz rfl, DL.lz rfl, DL.lz rfl, ?_⟩
    refine ⟨DL.lz rfl, DL.lz rfl, DL.lz rfl, line _ (by show L.length + 5 ≤ _; omega), ?_⟩
    refine r10 E ms pool us x _ _ _ _ _ _ _ _ k hm hu l1 l2 hpl hpool hx (by rw [List.length_append]; show L.length + 5 ≤ _; omega) hk (fun d hd => ?_) fun k' c9 c11 c13 h => hE k' c9 c11 c13 h
    rcases List.mem_append.mp hd with z | z
    · exact hL d z
    · refine .inl ?_
      revert d
      intro d _ hd
      have two : ∀ p q : D, (tyT p).isSome = true → (tyT q).isSome = true → uV (.tup [p, q]) := fun p q hp hq => uv_tup fun d hd => by
        rcases List.mem_cons.mp hd with rfl | hd
        · exact hp
        · rw [List.mem_singleton.mp hd]; exact hq
      rcases List.mem_cons.mp hd with rfl | hd
      · exact two _ _ rfl rfl
      rcases List.mem_cons.mp hd with rfl | hd
      · refine uv_tup fun d hd => ?_
        rcases List.mem_cons.mp hd with rfl | hd
        · rfl
        rcases List.mem_cons.mp hd with rfl | hd
        · rfl
        rw [List.mem_singleton.mp hd]; rfl
      rcases List.mem_cons.mp hd with rfl | hd
      · exact two _ _ rfl rfl
      rcases List.mem_cons.mp hd with rfl | hd
      · exact two _ _ rfl rfl
      rw [List.mem_singleton.mp hd]
      exact two _ _ rfl rfl
  -- paths beside it and above it
  have r8 : ∀ (E : DEnds Mem.deck) (ms pool : List Str) (us : List (Str × Str)) (x y : Str) (L : List D) (c2 c11 c12 c13 c14 : Sl) (k : Nat), Mods ms → Uses ms us → ms.length ≤ 10 → us.length ≤ 14 → pool.length = 5 → (∀ x ∈ pool, NameOk x) → PathS x → PathS y → L.length ≤ 100 → k + 200 < drawLim → (∀ d ∈ L, V06 (a 24) ms us d) →
      (∀ k' c9 c11 c12 c13, k' ≤ k + 100 → E.nx [.sh (.fz (ns0.map .int)), .sh (.any (.ref A)), c2, .sh (.lst (pool.map .str)), .sh (.lst (ms.map .str)), .sh (.lst (us.map ptD)), .sh (progD (a 24) ms us), .sh (.str x), .sh (.str y), c9, .sh (.lst ((splS 46 x).map .str)), c11, c12, c13, c14] ⟨some (A, B, C), k'⟩) →
      T_law06_r1_8 a E [.sh (.fz (ns0.map .int)), .sh (.any (.ref A)), c2, .sh (.lst (pool.map .str)), .sh (.lst (ms.map .str)), .sh (.lst (us.map ptD)), .sh (progD (a 24) ms us), .sh (.str x), .sh (.str y), .sh (.lst L), .sh (.lst ((splS 46 x).map .str)), c11, c12, c13, c14] ⟨some (A, B, C), k⟩ := by
    intro E ms pool us x y L c2 c11 c12 c13 c14 k hm hu l1 l2 hpl hpool hx hy lL hk hL hE
    have hx2 := hx.2
    have e1 : (Str.ofString ".a").length = 2 := by decide +kernel
    have e2 : (Str.ofString "a").length = 1 := by decide +kernel
    refine ⟨by rw [e1]; omega, by rw [e2]; omega, ?_⟩
    have hn := hx.names
    refine ⟨_, rfl, DL.lz rfl, line _ (by show L.length + 3 ≤ _; omega), ?_⟩
    refine ⟨_, _, rfl, rfl, _, rfl, by omega, ?_, ?_⟩
    · rw [List.length_map]; omega
    rw [List.length_map]
    have ej : ((splS 46 x).length : Int).toNat = (splS 46 x).length := rfl
    rw [ej]
    refine ⟨line _ (by rw [rngD_length]; omega), fun pre acc s' => s' = ⟨some (A, B, C), k⟩ ∧ acc.length = pre.length ∧ ∀ d ∈ acc, ∃ z, d = .str z, ⟨rfl, rfl, by simp⟩, ?_, ?_⟩
    · rintro pre z post acc s' e - ⟨rfl, h1, h2⟩
      obtain ⟨lt, rfl⟩ := rng_pre e
      have ec := cut_take ((splS 46 x).map D.str) pre.length
      have en : (0 + (pre.length : Int)) = (pre.length : Int) := by omega
      refine ⟨rfl, rfl, _, rfl, ?_⟩
      rw [en]
      simp only [slD, daNil]
      rw [ec, ← List.map_take]
      refine ⟨_, _, rfl, .inl rfl, ?_, trivial, rfl, ?_, ?_⟩
      · have q2 := sum_le8 (ns := (splS 46 x).take pre.length) fun y hy => by
          have z := hn.2 y (List.mem_of_mem_take hy)
          unfold okName okLen at z
          rw [Bool.and_eq_true, Bool.and_eq_true] at z
          exact of_decide_eq_true z.1.2
        rw [hd, show dot.length = 1 from rfl]
        rw [List.length_take] at q2 ⊢
        omega
      · rw [List.length_append, List.length_append, h1]; rfl
      · intro d hd
        rcases List.mem_append.mp hd with w | w
        · exact h2 d w
        · exact ⟨_, List.mem_singleton.mp w⟩
    · rintro acc s' - ⟨rfl, h1, h2⟩
      rw [rngD_length] at h1
      refine ⟨line _ (by rw [List.length_append]; show L.length + 3 + acc.length ≤ _; omega), ?_⟩
      refine r9 E ms pool us x y _ _ _ _ _ _ k hm hu l1 l2 hpl hpool hx hy (by rw [List.length_append, List.length_append]; show L.length + 3 + acc.length ≤ _; omega) hk (fun d hd => ?_) fun k' c9 c11 c13 h => hE k' c9 c11 _ c13 h
      rcases List.mem_append.mp hd with z | z
      · rcases List.mem_append.mp z with z | z
        · exact hL d z
        · refine .inl ?_
          rcases List.mem_cons.mp z with rfl | z
          · exact uv_str _
          rcases List.mem_cons.mp z with rfl | z
          · exact uv_str _
          rw [List.mem_singleton.mp z]; exact uv_str _
      · obtain ⟨w, rfl⟩ := h2 d z
        exact .inl (uv_str _)
  -- modules, uses, pairs, the program
  have r6 : ∀ (E : DEnds Mem.deck) (ms pool : List Str) (us : List (Str × Str)) (x y : Str) (c2 c9 c10 c11 c12 c13 c14 : Sl) (k : Nat), Mods ms → Uses ms us → ms.length ≤ 10 → us.length ≤ 14 → pool.length = 5 → (∀ x ∈ pool, NameOk x) → PathS x → PathS y → k + 200 < drawLim →
      (∀ k' c9 c10 c11 c12 c13 c14, k' ≤ k + 100 → E.nx [.sh (.fz (ns0.map .int)), .sh (.any (.ref A)), c2, .sh (.lst (pool.map .str)), .sh (.lst (ms.map .str)), .sh (.lst (us.map ptD)), .sh (progD (a 24) ms us), .sh (.str x), .sh (.str y), c9, c10, c11, c12, c13, c14] ⟨some (A, B, C), k'⟩) →
      T_law06_r1_6 a E [.sh (.fz (ns0.map .int)), .sh (.any (.ref A)), c2, .sh (.lst (pool.map .str)), .sh (.lst (ms.map .str)), .sh (.lst (us.map ptD)), .sh (progD (a 24) ms us), .sh (.str x), .sh (.str y), c9, c10, c11, c12, c13, c14] ⟨some (A, B, C), k⟩ := by
    intro E ms pool us x y c2 c9 c10 c11 c12 c13 c14 k hm hu l1 l2 hpl hpool hx hy hk hE
    have hx2 := hx.2
    refine ⟨line _ (by rw [List.length_map, List.length_map]; omega), ?_⟩
    refine ⟨_, rfl, lcF (f := ptD) (p := fun _ => true) (h := fun u => ptD (u.2, u.1)) us (by omega) (fun u hu T U t f => ?_) ?_⟩
    · exact ⟨rfl, _, rfl, rfl, t rfl⟩
    · refine ⟨line _ (by rw [List.length_append, List.length_map, List.length_map, List.length_map]; have := List.length_filter_le (fun _ => true) us; omega), ?_⟩
      refine ⟨DL.lz rfl, DL.lz rfl, DL.lz rfl, _, _, rfl, rfl, DL.lz rfl, line _ (by rw [List.length_append, List.length_append, List.length_map, List.length_map, List.length_map]; have := List.length_filter_le (fun _ => true) us; show ms.length + us.length + (us.filter fun _ => true).length + 4 ≤ _; omega), ?_⟩
      refine ⟨rfl, x, 46, rfl, by rw [hd]; rfl, by decide, ?_⟩
      refine r8 E ms pool us x y _ _ _ _ _ _ k hm hu l1 l2 hpl hpool hx hy (by rw [List.length_append, List.length_append, List.length_append, List.length_map, List.length_map, List.length_map]; have := List.length_filter_le (fun _ => true) us; show ms.length + us.length + (us.filter fun _ => true).length + 4 ≤ _; omega) hk (fun d hd => ?_) fun k' c9 c11 c12 c13 h => hE k' c9 _ c11 c12 c13 _ h
      rcases List.mem_append.mp hd with z | z
      · rcases List.mem_append.mp z with z | z
        · rcases List.mem_append.mp z with z | z
          · obtain ⟨w, _, rfl⟩ := List.mem_map.mp z
            exact .inl (uv_str _)
          · obtain ⟨w, _, rfl⟩ := List.mem_map.mp z
            exact .inl (uv_pt _)
        · obtain ⟨w, _, rfl⟩ := List.mem_map.mp z
          exact .inl (uv_pt _)
      · rcases List.mem_cons.mp z with rfl | z
        · exact .inl (uv_pt (x, y))
        rcases List.mem_cons.mp z with rfl | z
        · exact .inl (uv_pt (y, x))
        rcases List.mem_cons.mp z with rfl | z
        · exact .inl (uv_lst _)
        rw [List.mem_singleton.mp z]
        exact .inr rfl
  refine ⟨3, rfl, by decide, by decide, fun pre ρ s' => s'.adr = some (A, B, C) ∧ s'.n ≤ 2000 * pre.length ∧ ∃ c2 c3 c4 c5 c6 c7 c8 c9 c10 c11 c12 c13 c14, ρ = [.sh (.fz (ns0.map .int)), .sh (.any (.ref A)), c2, c3, c4, c5, c6, c7, c8, c9, c10, c11, c12, c13, c14],
    ⟨rfl, (by show s.n ≤ 0; omega), _, _, _, _, _, _, _, _, _, _, _, _, _, rfl⟩, fun pre0 x post ρ s' heq hI => ?_, fun ρ s' hI => ?_⟩
  · obtain ⟨h1, h2, c2, c3, c4, c5, c6, c7, c8, c9, c10, c11, c12, c13, c14, rfl⟩ := hI
    obtain ⟨hp, rfl⟩ := rng_pre heq
    have hp : pre0.length < 3 := hp
    refine ⟨A, B, C, 5, h1, rfl, by decide, by decide, (by omega), fun pool k1 hpl hpool hk1 => ?_⟩
    have hpl : pool.length = 5 := hpl
    refine ⟨A, B, C, pool, 10, rfl, h1, by decide, by decide, by omega, by omega, hpool, (by show k1 + _ < _; omega), fun ms k2 hm hml hk2 => ?_⟩
    have hk2 : k2 ≤ k1 + 700 := hk2
    have hml : ms.length ≤ 10 := by omega
    refine ⟨A, B, C, ms, 14, rfl, h1, by decide, by decide, by omega, (by show k2 + _ < _; omega), fun us k3 hu hul hk3 => ?_⟩
    have hk3 : k3 ≤ k2 + 300 := hk3
    have hul : us.length ≤ 14 := by omega
    refine ⟨_, _, rfl, rfl, _, _, rfl, rfl, ms, us, rfl, hm, hu, by omega, by omega, ?_⟩
    have pick : ∀ z : Str, PathS z → ∀ d ∈ ms.map D.str ++ [D.str z], ∃ x, d = .str x ∧ PathS x := fun z hz d hd => by
      rcases List.mem_append.mp hd with w | w
      · obtain ⟨x, hx, rfl⟩ := List.mem_map.mp w
        exact ⟨x, rfl, hm.path x hx⟩
      · exact ⟨z, List.mem_singleton.mp w, hz⟩
    have lm : ∀ z : Str, ((ms.map D.str ++ [D.str z]).length : Nat) = ms.length + 1 := fun z => by rw [List.length_append, List.length_map]; rfl
    refine ⟨DL.lz rfl, line _ (by rw [List.length_map]; show ms.length + 1 ≤ _; omega), _, _, rfl, rfl, A, B, C, _, h1, rfl, (by rw [List.length_map]; omega), (by rw [List.length_map]; omega), by show k3 < _; omega, fun r k4 g0 g1 hk4 => ?_⟩
    have hk4 : k4 = k3 + 1 := hk4
    refine ix_pick g0 (by rw [lm]; rw [List.length_map] at g1; omega) fun d hd => ?_
    obtain ⟨x, rfl, hx⟩ := pick _ a_path d hd
    refine ⟨DL.lz rfl, line _ (by rw [List.length_map]; show ms.length + 1 ≤ _; omega), _, _, rfl, rfl, A, B, C, _, h1, rfl, (by rw [List.length_map]; omega), (by rw [List.length_map]; omega), by show k4 < _; omega, fun r k5 g0 g1 hk5 => ?_⟩
    have hk5 : k5 = k4 + 1 := hk5
    refine ix_pick g0 (by rw [lm]; rw [List.length_map] at g1; omega) fun d hd => ?_
    obtain ⟨y, rfl, hy⟩ := pick _ ⟨by decide +kernel, by decide +kernel⟩ d hd
    have e1 : s'.adr = some (A, B, C) := h1
    rw [show (⟨s'.adr, k5⟩ : Mem.deck.S) = ⟨some (A, B, C), k5⟩ by rw [e1]]
    refine r6 _ ms pool us x y _ _ _ _ _ _ _ k5 hm hu hml hul hpl hpool hx hy (by omega) fun k' c9 c10 c11 c12 c13 c14 hk' => ⟨rfl, by show k' ≤ _; rw [List.length_append, List.length_singleton]; omega, _, _, _, _, _, _, _, _, _, _, _, _, _, rfl⟩
  · obtain ⟨h1, h2, _⟩ := hI
    exact hQ _
end R06

set_option Elab.async false
set_option linter.all false
set_option maxRecDepth 100000
set_option maxHeartbeats 4000000
namespace K06
open PySem PySem.Spec PyProof.Rows L2 TL DL RP RG R06
def topS (i : Nat) : Stmt := PySem.Challenge.pw_mayrest_k06_in_a_program.main.body.getD i (.Pass ⟨0, 0, 0, 0⟩)
abbrev s__law_deck : Stmt := topS 26
abbrev s__law_next : Stmt := topS 27
abbrev s__law_name : Stmt := topS 28
abbrev s__law_pool : Stmt := topS 29
abbrev s__law_path : Stmt := topS 30
abbrev s__law_covers : Stmt := topS 31
abbrev s__law_overlap : Stmt := topS 32
abbrev s__law_modules : Stmt := topS 33
abbrev s__law_uses : Stmt := topS 34
abbrev s__law_odd : Stmt := topS 35
abbrev s__law_says : Stmt := topS 36
abbrev s__law_inside : Stmt := topS 37
abbrev s__is_name : Stmt := topS 12
abbrev s_is_path : Stmt := topS 13
abbrev s_covers : Stmt := topS 14
abbrev s_overlap : Stmt := topS 15
abbrev s__modules_error : Stmt := topS 20
abbrev s__is_pair_of : Stmt := topS 18
abbrev s__uses_error : Stmt := topS 21
abbrev s_program_error : Stmt := topS 22
abbrev s_parent : Stmt := topS 16
abbrev s__parts : Stmt := topS 23
abbrev s_Program___init__ : Stmt := inClass (topS 24) 0
abbrev s_Program_modules : Stmt := inClass (topS 24) 2
abbrev s_Program_uses : Stmt := inClass (topS 24) 3
abbrev s_Program___eq__ : Stmt := inClass (topS 24) 9
abbrev s_Program___contains__ : Stmt := inClass (topS 24) 8
abbrev s_law : Stmt := topS 38
structure Tx (w : World) (K : PySem.W.Frag) (mg : Str → Option Value) (base : Heap) (a : Nat → Addr) (d : Nat → FuncData) (e : Nat → Addr) (ed : Nat → FuncData) : Prop where
  f26 : Fun K "_law_deck" "_law_deck" (topS 26) (a 26) (d 26)
  g26 : mg "_law_deck" = some (.ref (a 26))
  b26 : Binds K (d 26) ["_law_script"] []
  f27 : Fun K "_law_next" "_law_next" (topS 27) (a 27) (d 27)
  g27 : mg "_law_next" = some (.ref (a 27))
  b27 : Binds K (d 27) ["_law_deck_here", "_law_many"] []
  f28 : Fun K "_law_name" "_law_name" (topS 28) (a 28) (d 28)
  g28 : mg "_law_name" = some (.ref (a 28))
  b28 : Binds K (d 28) ["_law_deck_here"] []
  f29 : Fun K "_law_pool" "_law_pool" (topS 29) (a 29) (d 29)
  g29 : mg "_law_pool" = some (.ref (a 29))
  b29 : Binds K (d 29) ["_law_deck_here", "_law_many"] []
  f30 : Fun K "_law_path" "_law_path" (topS 30) (a 30) (d 30)
  g30 : mg "_law_path" = some (.ref (a 30))
  b30 : Binds K (d 30) ["_law_deck_here", "_law_pool_here", "_law_most"] []
  f31 : Fun K "_law_covers" "_law_covers" (topS 31) (a 31) (d 31)
  g31 : mg "_law_covers" = some (.ref (a 31))
  b31 : Binds K (d 31) ["_law_path_here", "_law_other"] []
  f32 : Fun K "_law_overlap" "_law_overlap" (topS 32) (a 32) (d 32)
  g32 : mg "_law_overlap" = some (.ref (a 32))
  b32 : Binds K (d 32) ["_law_path_here", "_law_other"] []
  f33 : Fun K "_law_modules" "_law_modules" (topS 33) (a 33) (d 33)
  g33 : mg "_law_modules" = some (.ref (a 33))
  b33 : Binds K (d 33) ["_law_deck_here", "_law_pool_here", "_law_most"] []
  f34 : Fun K "_law_uses" "_law_uses" (topS 34) (a 34) (d 34)
  g34 : mg "_law_uses" = some (.ref (a 34))
  b34 : Binds K (d 34) ["_law_deck_here", "_law_modules_here", "_law_most"] []
  f35 : Fun K "_law_odd" "_law_odd" (topS 35) (a 35) (d 35)
  g35 : mg "_law_odd" = some (.ref (a 35))
  b35 : Binds K (d 35) ["_law_deck_here", "_law_path_here"] []
  f36 : Fun K "_law_says" "_law_says" (topS 36) (a 36) (d 36)
  g36 : mg "_law_says" = some (.ref (a 36))
  b36 : Binds K (d 36) ["_law_found", "_law_due"] []
  f37 : Fun K "_law_inside" "_law_inside" (topS 37) (a 37) (d 37)
  g37 : mg "_law_inside" = some (.ref (a 37))
  b37 : Binds K (d 37) ["_law_modules_here", "_law_uses_here", "_law_value"] []
  f12 : Fun K "_is_name" "_is_name" (topS 12) (a 12) (d 12)
  g12 : mg "_is_name" = some (.ref (a 12))
  b12 : Binds K (d 12) ["text"] []
  f13 : Fun K "is_path" "is_path" (topS 13) (a 13) (d 13)
  g13 : mg "is_path" = some (.ref (a 13))
  b13 : Binds K (d 13) ["value"] []
  f14 : Fun K "covers" "covers" (topS 14) (a 14) (d 14)
  g14 : mg "covers" = some (.ref (a 14))
  b14 : Binds K (d 14) ["path", "other"] []
  f15 : Fun K "overlap" "overlap" (topS 15) (a 15) (d 15)
  g15 : mg "overlap" = some (.ref (a 15))
  b15 : Binds K (d 15) ["path", "other"] []
  f20 : Fun K "_modules_error" "_modules_error" (topS 20) (a 20) (d 20)
  g20 : mg "_modules_error" = some (.ref (a 20))
  b20 : Binds K (d 20) ["modules"] []
  f18 : Fun K "_is_pair_of" "_is_pair_of" (topS 18) (a 18) (d 18)
  g18 : mg "_is_pair_of" = some (.ref (a 18))
  b18 : Binds K (d 18) ["value", "modules"] []
  f21 : Fun K "_uses_error" "_uses_error" (topS 21) (a 21) (d 21)
  g21 : mg "_uses_error" = some (.ref (a 21))
  b21 : Binds K (d 21) ["modules", "uses"] []
  f22 : Fun K "program_error" "program_error" (topS 22) (a 22) (d 22)
  g22 : mg "program_error" = some (.ref (a 22))
  b22 : Binds K (d 22) ["modules", "uses"] []
  f16 : Fun K "parent" "parent" (topS 16) (a 16) (d 16)
  g16 : mg "parent" = some (.ref (a 16))
  b16 : Binds K (d 16) ["path"] []
  f23 : Fun K "_parts" "_parts" (topS 23) (a 23) (d 23)
  g23 : mg "_parts" = some (.ref (a 23))
  b23 : Binds K (d 23) ["modules"] []
  f2200 : Fun K "__init__" "Program.__init__" s_Program___init__ (a 2200) (d 2200)
  b2200 : Binds K (d 2200) ["self", "modules", "uses"] []
  f2202 : Fun K "modules" "Program.modules" s_Program_modules (a 2202) (d 2202)
  b2202 : Binds K (d 2202) ["self"] []
  f2203 : Fun K "uses" "Program.uses" s_Program_uses (a 2203) (d 2203)
  b2203 : Binds K (d 2203) ["self"] []
  f2209 : Fun K "__eq__" "Program.__eq__" s_Program___eq__ (a 2209) (d 2209)
  b2209 : Binds K (d 2209) ["self", "other"] []
  f2208 : Fun K "__contains__" "Program.__contains__" s_Program___contains__ (a 2208) (d 2208)
  b2208 : Binds K (d 2208) ["self", "value"] []
  f38 : Fun K "law" "law" (topS 38) (a 38) (d 38)
  g38 : mg "law" = some (.ref (a 38))
  b38 : Binds K (d 38) ["_law_script"] []
  g24 : mg "Program" = some (.ref (a 24))
  M24 : Mk K (a 24) (a 2200)
  cl24 : InsK K (a 24)
  ow24 : OwnC K (a 24)
  ns24 : NoSub K (a 24)
  p2202 : PropOf K (a 24) "modules" (e 2202) (a 2202)
  p2203 : PropOf K (a 24) "uses" (e 2203) (a 2203)
  m2209 : PySem.W.findIn K (.ref (a 24)) "__eq__" = some (some (.ref (a 2209)))
  n2209 : PySem.W.isFn K (.ref (a 2209)) = true
  m2208 : PySem.W.findIn K (.ref (a 24)) "__contains__" = some (some (.ref (a 2208)))
  n2208 : PySem.W.isFn K (.ref (a 2208)) = true
  na24_modules : NoAttr K (a 24) "_modules"
  na24_parts : NoAttr K (a 24) "_parts"
  na24_uses : NoAttr K (a 24) "_uses"
  z_abs : mg "abs" = none
  z_all : mg "all" = none
  z_any : mg "any" = none
  z_bool : mg "bool" = none
  z_enumerate : mg "enumerate" = none
  z_int : mg "int" = none
  z_isinstance : mg "isinstance" = none
  z_len : mg "len" = none
  z_list : mg "list" = none
  z_min : mg "min" = none
  z_range : mg "range" = none
  z_set : mg "set" = none
  z_sorted : mg "sorted" = none
  z_str : mg "str" = none
  z_tuple : mg "tuple" = none
  c_MAX_MODULES : ∃ t, mg "MAX_MODULES" = some (.int 24 t)
  c_MAX_NAMES : ∃ t, mg "MAX_NAMES" = some (.int 6 t)
  c_MAX_USES : ∃ t, mg "MAX_USES" = some (.int 200 t)
  c__MAX_LETTERS : ∃ t, mg "_MAX_LETTERS" = some (.int 8 t)
section
variable {P : Program} {w : World} {K : PySem.W.Frag} {mg : Str → Option Value} {base : Heap} {a : Nat → Addr} {d : Nat → FuncData} {e : Nat → Addr} {ed : Nat → FuncData}

abbrev names__law_deck : List Str := ["_law_script", "_law_cells", "_law_number"]
theorem sc__law_deck : FnScope names__law_deck ["_law_script"] (defScope s__law_deck) := ⟨rfl, rfl, rfl, by decide +kernel, rfl, by decide +kernel, by decide +kernel⟩
theorem ok0__law_deck (T : Tx w K mg base a d e ed) : FnOk P w K mg base CX0 1 (a 26) (d 26) ["_law_script"] (lift K Mem.deck 1 spDeck) := by
  refine T.f26.ok sc__law_deck (fun vs H Q E h => h.1) (fun cdv A outer s H vs Q E hr h => ?_)
  obtain ⟨hl, F, ds, sd, Qd, sub, hm, hreg, rs, ⟨ns, e2, hns, e0, hQd⟩, hQ⟩ := h
  subst e2
  obtain ⟨v, _, rfl, ⟨sc, vs, rfl, hsc, _, rv⟩, rn⟩ := rs
  cases rn
  have ev := reps_ints rv
  subst ev
  have hS : SqL K H sc (ns.map V.int) := Same.seq sub hsc
  refine ⟨_, pss_cons (ps_setLc (i := 1) (own := [("_law_number", 2)]) (g := gName 2) (tt := tYes) rfl sc__law_deck.nd rfl rfl (sw_true rfl rfl rfl (by decide +kernel)) (pi_list (pv 0)) (blkOk_by (N := names__law_deck) (sc := defScope s__law_deck) (by decide +kernel)) (fun _ _ _ _ _ => pg_name (i := 2) sc__law_deck.nd rfl (Or.inl rfl)) (fun _ _ _ _ _ => pts_nil) (fun _ _ _ _ _ => pe_callB call_abs (by rfl) T.z_abs (by decide +kernel) (pa_cons (pv 2) pa_nil)))
    (pss_one (ps_ret (pe_lst (pa_cons (pe_lc (own := [("_law_number", 2)]) (g := gName 2) rfl sc__law_deck.nd (pi_list (pv 1)) (blkOk_by (N := names__law_deck) (sc := defScope s__law_deck) (by decide +kernel)) (fun _ _ _ _ _ => pg_name (i := 2) sc__law_deck.nd rfl (Or.inl rfl)) (fun _ _ _ _ _ => pts_one (pt_cmpR op_ge (pv 2) (pe_op op_pow pe_int pe_int) (nomark _))) (fun _ _ _ _ _ => pv 2))
      (pa_cons (pe_op op_cat (pv 1) (pe_lst (pa_cons (pe_op op_add (pe_callB call_len_seq (by rfl) T.z_len PySem.boot_len (pa_cons (pv 1) pa_nil)) pe_int) pa_nil))) (pa_cons pe_int pa_nil)))))), ?_⟩
  refine ⟨_, rfl, sc, rfl, ⟨_, hS⟩, fun D hD => lc_list (K := K) (a := sc) (xs := ns.map V.int) (fun i H' => H' D = some (.lst ((ns.take i).map fun x => V.int (absI x))) ∧ Same H H') ⟨upd_same, DL.same_upd hD⟩ (fun i H' _ q => Same.seq q.2 hS) (fun i x H' hx q => ?_) (fun H' q => ?_)⟩
  · obtain ⟨q1, q2⟩ := q
    obtain ⟨z, hz, rfl⟩ : ∃ z, ns[i]? = some z ∧ V.int z = x := by
      rw [List.getElem?_map] at hx
      cases e : ns[i]? with
      | none => rw [e] at hx; cases hx
      | some z => rw [e] at hx; exact ⟨z, rfl, Option.some.inj hx⟩
    have hi : i < ns.length := (List.getElem?_eq_some_iff.mp hz).1
    refine ⟨rfl, _, rfl, z, rfl, _, q1, by rw [List.length_map, List.length_take]; exact small1000 (by omega), ?_, fun b o e => ?_⟩
    · rw [upd_same, List.take_add_one, hz, List.map_append]
      rfl
    · rw [upd_ne (ne_of_none e hD)]; exact q2 _ _ e
  · obtain ⟨q1, q2⟩ := q
    have q1' : H' D = some (.lst (ns.map fun x => V.int (absI x))) := by rw [q1]; simp
    obtain ⟨cs, hcs, ecs⟩ : ∃ cs : List Int, cs.length = ns.length ∧ (ns.map fun x => V.int (absI x)) = cs.map V.int := ⟨ns.map absI, List.length_map _, by rw [List.map_map]; rfl⟩
    rw [ecs] at q1'
    have hC : SqL K H' D (cs.map V.int) := .inl (.inl q1')
    refine ⟨_, rfl, D, rfl, ⟨_, hC⟩, fun B hB => lc_list (K := K) (a := D) (xs := cs.map V.int) (fun i H2 => (∃ bg : List Int, bg.length ≤ i ∧ H2 B = some (.lst (bg.map V.int))) ∧ Same H' H2) ⟨⟨[], Nat.le_refl _, upd_same⟩, DL.same_upd hB⟩ (fun i H2 _ q => Same.seq q.2 hC) (fun i x H2 hx q => ?_) (fun H2 q => ?_)⟩
    · obtain ⟨⟨bg, g1, g2⟩, g3⟩ := q
      obtain ⟨z, hz, rfl⟩ : ∃ z, cs[i]? = some z ∧ V.int z = x := by
        rw [List.getElem?_map] at hx
        cases e : cs[i]? with
        | none => rw [e] at hx; cases hx
        | some z => rw [e] at hx; exact ⟨z, rfl, Option.some.inj hx⟩
      have hi : i < cs.length := (List.getElem?_eq_some_iff.mp hz).1
      refine ⟨rfl, _, rfl, 10, 18, rfl, rfl, ⟨by decide, by decide, by decide⟩, z, _, rfl, rfl, _, rfl, ?_⟩
      refine ite2 (fun _ => ?_) fun _ => ?_
      · refine ⟨_, rfl, _, g2, by rw [List.length_map]; exact small1000 (by omega), ⟨bg ++ [z], by rw [List.length_append]; simp; omega, by rw [upd_same, List.map_append]; rfl⟩, fun b o e => ?_⟩
        rw [upd_ne (ne_of_none e hB)]; exact g3 _ _ e
      · exact ⟨⟨bg, by omega, g2⟩, g3⟩
    · obtain ⟨⟨bg, g1, g2⟩, g3⟩ := q
      have hD2 : H2 D = some (.lst (cs.map V.int)) := g3 _ _ q1'
      refine ⟨_, rfl, _, rfl, D, cs.map V.int, rfl, .inl (.inl (.inl hD2)), _, 3, rfl, rfl, by show 1 ≤ sizeLine; decide, fun U hU => ?_⟩
      have nDU : D ≠ U := ne_of_none hD2 hU
      refine ⟨D, U, _, _, rfl, rfl, by rw [upd_ne nDU]; exact hD2, upd_same, ?_, fun C hC2 => ⟨by show 3 ≤ sizeLine; decide, fun a0 ha0 => ?_⟩⟩
      · rw [List.length_map]
        exact Nat.le_of_lt (small1000 (by show cs.length + 1 ≤ 1000; omega))
      · have nUC : U ≠ C := fun e => by rw [← e, upd_same] at hC2; cases hC2
        have hC3 : H2 C = none := by rw [upd_ne nUC.symm] at hC2; exact hC2
        have nBC : B ≠ C := ne_of_none g2 hC3
        have nBU : B ≠ U := ne_of_none g2 hU
        have na0C : a0 ≠ C := fun e => by rw [e, upd_same] at ha0; cases ha0
        have ha1 : (upd H2 U (.lst [V.int (((cs.map V.int).length : Nat) + 3)])) a0 = none := by rw [upd_ne na0C] at ha0; exact ha0
        have na0U : a0 ≠ U := fun e => by rw [e, upd_same] at ha1; cases ha1
        have ha2 : H2 a0 = none := by rw [upd_ne na0U] at ha1; exact ha1
        have na0B : a0 ≠ B := fun e => by rw [e, g2] at ha2; cases ha2
        have s2 : Same H H2 := q2.trans g3
        have fin : ∀ x o, H x = some o → (upd (upd (upd H2 U (.lst [V.int (((cs.map V.int).length : Nat) + 3)])) C (.lst (cs.map V.int ++ [V.int (((cs.map V.int).length : Nat) + 3)]))) a0 (.lst [.ref B, .ref C, .int 0])) x = some o := fun x o e => by
          have e2 := s2 _ _ e
          rw [upd_ne (ne_of_none e2 ha2), upd_ne (ne_of_none e2 hC3), upd_ne (ne_of_none e2 hU)]
          exact e2
        have hBn : H B = none := q2.free hB
        refine hQ (.any (.ref a0)) ⟨some (a0, B, C), sd.n⟩ (.ref a0) F _ (hQd a0 B C) ⟨Same.refl F, fun x o e _ => fin x o e, fun x e => ?_, fun x o e => .inl e, fun x ⟨a', b', c', e, hx⟩ => ?_, sub.trans fin, fun a' b' c' e => ?_, fun x ⟨a', b', c', e, hx⟩ => ?_⟩ rfl
        · cases o : H x with
          | none => exact absurd o e
          | some u => rw [fin x u o]; simp
        · have e' : (some (a0, B, C) : Option (Addr × Addr × Addr)) = some (a', b', c') := e
          cases e'
          rcases hx with rfl | rfl | rfl
          · exact .inr (s2.free ha2)
          · exact .inr hBn
          · exact .inr (s2.free hC3)
        · have e' : (some (a0, B, C) : Option (Addr × Addr × Addr)) = some (a', b', c') := e
          cases e'
          refine ⟨na0B, na0C, nBC, bg, cs ++ [((cs.length : Nat) : Int) + 3], 0, upd_same, by rw [upd_ne na0B.symm, upd_ne nBC, upd_ne nBU]; exact g2, ?_, by simp, ?_, ?_, Int.le_refl _, Int.natCast_nonneg _⟩
          · rw [upd_ne na0C.symm, upd_same, List.map_append, List.length_map]
            rfl
          · rw [List.length_append]; simp; omega
          · rw [List.length_map] at g1; omega
        · have e' : (some (a0, B, C) : Option (Addr × Addr × Addr)) = some (a', b', c') := e
          cases e'
          rcases hx with rfl | rfl | rfl
          · exact sub.free (s2.free ha2)
          · exact sub.free hBn
          · exact sub.free (s2.free hC3)
theorem len__law_deck : ∀ ds s Qd, spDeck ds s Qd → ds.length = 1 := spDeck_len
theorem ok__law_deck (T : Tx w K mg base a d e ed) : FnG P w K mg base CX0 1 (a 26) (d 26) ["_law_script"] (lift K Mem.deck 1 spDeck) := fnG_of (ok0__law_deck T)
abbrev names__law_next : List Str := ["_law_deck_here", "_law_many", "_law_rest", "_law_turn", "_law_number", "_law_mixed"]
theorem sc__law_next : FnScope names__law_next ["_law_deck_here", "_law_many"] (defScope s__law_next) := ⟨rfl, rfl, rfl, by decide +kernel, rfl, by decide +kernel, by decide +kernel⟩
theorem ok0__law_next (T : Tx w K mg base a d e ed) : FnOk P w K mg base CX0 1 (a 27) (d 27) ["_law_deck_here", "_law_many"] (lift K Mem.deck 2 spNext) := by
  refine T.f27.ok sc__law_next (fun vs H Q E h => h.1) (fun cdv A outer s H vs Q E hr h => ?_)
  obtain ⟨hl, F, ds, sd, Qd, sub, hm, hreg, rs, ⟨p, q, r, n, e1, e2, h0, h1, hlim, hQd⟩, hQ⟩ := h
  subst e2
  obtain ⟨v, _, rfl, rv, v2, _, rfl, rv2, rn⟩ := rs
  cases rn
  cases rv
  cases rv2
  refine ⟨_, pss_cons (ps_while PassesOwn.never (pt_cmpR (op_neD (u64R hr)) (pe_ix ix_list (pv 0) pe_int (fun _ _ => rfl)) (pe_lst pa_nil) (nomark _))
      (pss_cons (ps_set (i := 2) sc__law_next.nd rfl (.inl rfl) (pe_ix ix_list (pe_ix ix_list (pv 0) pe_int (fun _ _ => rfl)) pe_int (fun _ _ => rfl)))
      (pss_cons (ps_if (pt_cmpR op_gt (pv 2) pe_int (nomark _))
        (pss_cons (ps_asg (pe_op op_fdiv (pv 2) (pv 1)) (pg_sub (pe_ix ix_list (pv 0) pe_int (fun _ _ => rfl)) pe_int set_list))
        (pss_one (ps_ret (pe_op op_mod (pe_callTy call_int1 (by rfl) T.z_int (by decide +kernel) (pa_cons (pv 2) pa_nil)) (pv 1)))))
        pss_nil)
      (pss_one (ps_expr (pe_bm PySem.F.plainAttrs_list PySem.F.slot_list_pop PySem.F.type_list_pop mt_popAt (pe_ix ix_list (pv 0) pe_int (fun _ _ => rfl)) (pa_cons pe_int pa_nil)))))))
    (pss_cons (ps_asg (pe_op op_add (pe_ix ix_list (pv 0) pe_int (fun _ _ => rfl)) pe_int) (pg_sub (pv 0) pe_int set_list))
    (pss_cons (ps_set (i := 3) sc__law_next.nd rfl (.inl rfl) (pe_ix ix_list (pv 0) pe_int (fun _ _ => rfl)))
    (pss_cons (ps_set (i := 4) sc__law_next.nd rfl (.inl rfl) (pe_op op_mod (pe_callTy call_int1 (by rfl) T.z_int (by decide +kernel) (pa_cons (pe_ix ix_list (pe_ix ix_list (pv 0) pe_int (fun _ _ => rfl)) (pe_op op_mod (pe_callTy call_int1 (by rfl) T.z_int (by decide +kernel) (pa_cons (pv 3) pa_nil)) (pe_callB call_len_seq (by rfl) T.z_len PySem.boot_len (pa_cons (pe_ix ix_list (pv 0) pe_int (fun _ _ => rfl)) pa_nil))) (fun _ _ => rfl)) pa_nil)) pe_int))
    (pss_cons (ps_set (i := 5) sc__law_next.nd rfl (.inl rfl) (pe_op op_mod (pe_callTy call_int1 (by rfl) T.z_int (by decide +kernel) (pa_cons (pe_op op_add (pe_op op_add (pe_op op_mul (pv 4) (pe_op op_add pe_int (pe_op op_mul pe_int (pv 3)))) (pe_op op_mul (pe_op op_mul pe_int (pv 3)) (pv 3))) pe_int) pa_nil)) pe_int))
    (pss_one (ps_ret (pe_op op_mod (pe_op op_fdiv (pe_op op_mod (pe_callTy call_int1 (by rfl) T.z_int (by decide +kernel) (pa_cons (pe_op op_mul (pv 5) (pv 5)) pa_nil)) pe_int) pe_int) (pv 1)))))))), ?_⟩
  obtain ⟨n1, n2, n3, big, all, t, ha, hb, hc, hall, hl1, hl2, ht0, ht1⟩ := hm p q r e1
  have regs : ∀ x, Mem.deck.R sd x → x = p ∨ x = q ∨ x = r := fun x ⟨a', b', c', e, hx⟩ => by
    rw [e1] at e; cases e; exact hx
  have Fp : F p = none := hreg p ⟨p, q, r, e1, .inl rfl⟩
  have Fq : F q = none := hreg q ⟨p, q, r, e1, .inr (.inl rfl)⟩
  have Fr : F r = none := hreg r ⟨p, q, r, e1, .inr (.inr rfl)⟩
  -- the way out: a number below n, the deck as it is then
  have out : ∀ (z : Int) (H' : Hp) (big' : List Int) (t' : Int), 0 ≤ z → z < n → H' p = some (.lst [.ref q, .ref r, .int t']) → H' q = some (.lst (big'.map V.int)) → H' r = some (.lst (all.map V.int)) → big'.length ≤ 1000 → 0 ≤ t' → t' ≤ (sd.n + 1 : Nat) →
      (∀ x o, H x = some o → x ≠ p → x ≠ q → H' x = some o) → Q (.int z) H' := fun z H' big' t' z0 z1 a1 a2 a3 a4 a5 a6 k => by
    have Hp' : H p ≠ none := by rw [ha]; simp
    refine hQ (.int z) ⟨sd.adr, sd.n + 1⟩ (.int z) F H' (hQd z (sd.n + 1) z0 z1 rfl) ⟨Same.refl F, fun x o h nr => k x o h (fun e => nr ⟨p, q, r, e1, .inl e⟩) (fun e => nr ⟨p, q, r, e1, .inr (.inl e)⟩), fun x h => ?_, fun x o h => .inl h, fun x h => ?_, fun x o h => ?_, fun a' b' c' e => ?_, fun x h => hreg x h⟩ rfl
    · by_cases e : x = p
      · rw [e, a1]; simp
      · by_cases e' : x = q
        · rw [e', a2]; simp
        · cases o : H x with
          | none => exact absurd o h
          | some u => rw [k x u o e e']; simp
    · exact .inl h
    · have h' := sub x o h
      exact k x o h' (fun e => by rw [e, Fp] at h; cases h) (fun e => by rw [e, Fq] at h; cases h)
    · have e' : sd.adr = some (a', b', c') := e
      rw [e1] at e'; cases e'
      exact ⟨n1, n2, n3, big', all, t', a1, a2, a3, hall, hl1, a4, a5, a6⟩
  -- the while
  refine ⟨fun m σ H2 => ∃ (bg : List Int) (y2 : Option V), m = bg.length ∧ bg.length ≤ big.length ∧ σ = [some (.ref p), some (.int n), y2, none, none, none] ∧ H2 p = some (.lst [.ref q, .ref r, .int t]) ∧ H2 q = some (.lst (bg.map V.int)) ∧ (∀ x o, H x = some o → x ≠ q → H2 x = some o),
    ⟨big.length, big, none, rfl, Nat.le_refl _, rfl, ha, hb, fun _ _ h _ => h⟩, ?_⟩
  rintro m σ H2 ⟨bg, y2, rfl, hbg, rfl, g1, g2, gk⟩
  have dpI : ∀ (l : List Int), DpAll K H2 (l.map V.int) (l.map PyData.int) := fun l => by
    induction l with
    | nil => exact .nil
    | cons x l ih => exact .cons (.int x) ih
  have layI : ∀ (l : List Int), PyData.canLayAll0 (l.map PyData.int) = true ∧ PyData.depthAll (l.map PyData.int) ≤ 0 := fun l => by
    induction l with
    | nil => exact ⟨rfl, Nat.le_refl _⟩
    | cons x l ih =>
      obtain ⟨i1, i2⟩ := ih
      rw [List.map_cons]
      exact ⟨by simp only [PyData.canLayAll0, PyData.canLay0, i1, Bool.and_self], by simp only [PyData.depthAll, PyData.depth]; omega⟩
  refine ⟨_, rfl, p, _, 0, .ref q, rfl, rfl, .inl (.inl g1), rfl, Nat.zero_le _, fun o no => ?_⟩
  have nop : p ≠ o := ne_of_none g1 no
  have noq : q ≠ o := ne_of_none g2 no
  have g1' : (upd H2 o (.lst [])) p = some (.lst [.ref q, .ref r, .int t]) := by rw [upd_ne nop]; exact g1
  have g2' : (upd H2 o (.lst [])) q = some (.lst (bg.map V.int)) := by rw [upd_ne noq]; exact g2
  have sm : Same H2 (upd H2 o (.lst [])) := DL.same_upd no
  have dp1 : Dp K (upd H2 o (.lst [])) (.ref q) (.list (bg.map PyData.int)) := by
    refine .lst (.inl (.inl g2')) ?_
    clear layI dpI g2 g2' hbg
    induction bg with
    | nil => exact .nil
    | cons x l ih => exact .cons (.int x) ih
  have sh1 : SeqAt.shaped (.list (bg.map PyData.int)) = true := by
    obtain ⟨i1, i2⟩ := layI bg
    unfold SeqAt.shaped
    have d1 : (PyData.list (bg.map PyData.int)).depth ≤ 64 := by simp only [PyData.depth]; omega
    rw [decide_eq_true d1, show (PyData.list (bg.map PyData.int)).canLay0 = true by simp only [PyData.canLay0]; exact i1]
    rfl
  refine ⟨_, _, dp1, .lst (.inl (.inl upd_same)) .nil, sh1, by decide, _, rfl, ?_⟩
  cases bg with
  | nil =>
    refine iteF ?_
    -- behind the while
    refine ⟨_, rfl, p, _, 2, .int t, rfl, rfl, .inl (.inl g1'), rfl, t, 1, rfl, rfl, _, rfl, p, _, 2, 2, rfl, rfl, g1', rfl, ?_⟩
    have hr' : H2 r = some (.lst (all.map V.int)) := gk r _ hc n3.symm
    have nrp : r ≠ p := n2.symm
    have nro : r ≠ o := ne_of_none hr' no
    refine ⟨_, rfl, p, _, 2, .int (t + 1), rfl, rfl, .inl (.inl upd_same), rfl, ?_⟩
    have hrr : (upd (upd H2 o (.lst [])) p (.lst ([V.ref q, .ref r, .int t].set 2 (.int (t + 1))))) r = some (.lst (all.map V.int)) := by rw [upd_ne nrp, upd_ne nro]; exact hr'
    have lpos : (0 : Int) < ((all.map V.int).length : Nat) := by
      cases all with
      | nil => exact absurd rfl hall
      | cons x l => rw [List.length_map, List.length_cons]; omega
    obtain ⟨k, hk, hk2⟩ : ∃ k : Nat, (t + 1) % (((all.map V.int).length : Nat) : Int) = (k : Int) ∧ k < all.length := by
      have m0 := Int.emod_nonneg (t + 1) (Int.ne_of_gt lpos)
      have m1 := Int.emod_lt_of_pos (t + 1) lpos
      rw [List.length_map] at m0 m1 lpos ⊢
      exact ⟨((t + 1) % (all.length : Int)).toNat, by omega, by omega⟩
    have hat : atI (all.map V.int) ((t + 1) % (((all.map V.int).length : Nat) : Int)) = some (.int all[k]) := by
      rw [hk]
      exact atI_nat (by rw [List.getElem?_map, List.getElem?_eq_getElem hk2]; rfl)
    refine ⟨_, rfl, p, _, 1, .ref r, rfl, rfl, .inl (.inl upd_same), rfl, _, rfl, .inl ⟨t + 1, rfl, _, rfl, p, _, 1, .ref r, rfl, rfl, .inl (.inl upd_same), rfl, r, _, rfl, .inl (.inl (.inl hrr)), _, _, rfl, rfl, lpos, r, _, _, .int all[k], rfl, rfl, .inl (.inl hrr), hat, .inl ⟨all[k], rfl, all[k], 2147483647, rfl, rfl, (by show (0 : Int) < 2147483647; decide), ?_⟩⟩⟩
    have u1 : t + 1 ≤ 2 ^ 60 := by
      have : sd.n < 2 ^ 60 := hlim
      omega
    have m0 : 0 ≤ all[k] % 2147483647 := Int.emod_nonneg _ (by decide)
    have m1 : all[k] % 2147483647 < 2147483647 := Int.emod_lt_of_pos _ (by decide)
    refine ⟨_, rfl, _, rfl, 69621, t + 1, rfl, rfl, .inl ⟨by decide, by decide⟩, 48271, _, rfl, rfl, all[k] % 2147483647, _, rfl, rfl, .inl ⟨by omega, by omega⟩, _, rfl, 40692, t + 1, rfl, rfl, .inl ⟨by decide, by decide⟩, _, rfl, 40692 * (t + 1), t + 1, rfl, rfl, .inr ⟨by omega, by omega⟩, _, _, rfl, rfl, _, 11, rfl, rfl, .inl ⟨_, rfl, _, 2147483629, rfl, rfl, (by show (0 : Int) < 2147483629; decide), ?_⟩⟩
    obtain ⟨M, hM⟩ : ∃ M, M = (all[k] % 2147483647 * (48271 + 69621 * (t + 1)) + 40692 * (t + 1) * (t + 1) + 11) % 2147483629 := ⟨_, rfl⟩
    have q0 : 0 ≤ M := by rw [hM]; exact Int.emod_nonneg _ (by decide)
    have q1 : M < 2147483629 := by rw [hM]; exact Int.emod_lt_of_pos _ (by decide)
    refine ⟨_, rfl, _, rfl, M, M, by rw [hM], by rw [hM], .inl ⟨by omega, by omega⟩, .inl ⟨_, rfl, _, 2147483587, rfl, rfl, (by show (0 : Int) < 2147483587; decide), _, 16, rfl, rfl, ⟨by decide, by decide⟩, _, rfl, _, n, rfl, rfl, h0, ?_⟩⟩
    refine out _ _ [] (t + 1) (Int.emod_nonneg _ (Int.ne_of_gt h0)) (Int.emod_lt_of_pos _ h0) upd_same (by rw [upd_ne n1.symm]; exact g2') hrr (Nat.zero_le _) (by omega) (by omega) fun x u e n4 n5 => ?_
    rw [upd_ne n4, upd_ne (ne_of_none (gk x u e n5) no)]
    exact gk x u e n5
  | cons x bg =>
    refine iteT ⟨fun σ' H' => ∃ y2 : Option V, σ' = [some (.ref p), some (.int n), y2, none, none, none] ∧ H' p = some (.lst [.ref q, .ref r, .int t]) ∧ H' q = some (.lst (bg.map V.int)) ∧ (∀ x o, H x = some o → x ≠ q → H' x = some o), fun σ' H' ⟨y, a1, a2, a3, a4⟩ => ⟨bg.length, Nat.lt_succ_self _, bg, y, rfl, by rw [List.length_cons] at hbg; omega, a1, a2, a3, a4⟩, ?_⟩
    refine ⟨_, rfl, p, _, 0, .ref q, rfl, rfl, .inl (.inl g1'), rfl, q, _, 0, .int x, rfl, rfl, .inl (.inl g2'), atI_nat (j := 0) rfl, ?_⟩
    refine ⟨_, rfl, x, 0, rfl, rfl, _, rfl, ?_⟩
    refine ite2 (fun hx => ?_) fun hx => ?_
    · refine ⟨_, rfl, _, rfl, x, n, rfl, rfl, ⟨h0, h1⟩, _, rfl, p, _, 0, .ref q, rfl, rfl, .inl (.inl g1'), rfl, q, _, 0, 0, rfl, rfl, g2', ix0 x bg, ?_⟩
      refine ⟨_, rfl, .inl ⟨x, rfl, _, rfl, x, n, rfl, rfl, h0, ?_⟩⟩
      refine out _ _ (x / n :: bg) t (Int.emod_nonneg _ (Int.ne_of_gt h0)) (Int.emod_lt_of_pos _ h0) (by rw [upd_ne n1]; exact g1') upd_same ?_ (by rw [List.length_cons] at hbg ⊢; omega) ht0 (by omega) fun y u e n4 n5 => ?_
      · have hr' : H2 r = some (.lst (all.map V.int)) := gk r _ hc n3.symm
        rw [upd_ne n3.symm, upd_ne (ne_of_none hr' no)]
        exact hr'
      · rw [upd_ne n5, upd_ne (ne_of_none (gk y u e n5) no)]
        exact gk y u e n5
    · refine ⟨_, rfl, p, _, 0, .ref q, rfl, rfl, .inl (.inl g1'), rfl, .inl ⟨rfl, _, .inl (.inl g2')⟩, q, _, 0, 0, .int x, rfl, rfl, g2', by decide, by decide, ?_, rfl, ?_⟩
      · show seqIndex? 0 (((x :: bg).map V.int).length) = some 0
        rw [List.length_map, List.length_cons]
        exact seqIndex_of (by decide) (by omega)
      · refine ⟨_, rfl, by rw [upd_ne n1]; exact g1', by rw [upd_same]; rfl, fun y u e n5 => ?_⟩
        rw [upd_ne n5, upd_ne (ne_of_none (gk y u e n5) no)]
        exact gk y u e n5
theorem len__law_next : ∀ ds s Qd, spNext ds s Qd → ds.length = 2 := spNext_len
theorem ok__law_next (T : Tx w K mg base a d e ed) : FnG P w K mg base CX0 1 (a 27) (d 27) ["_law_deck_here", "_law_many"] (lift K Mem.deck 2 spNext) := fnG_of (ok0__law_next T)
abbrev names__law_name : List Str := ["_law_deck_here", "_law_letters", "_law_many", "_law_k"]
theorem sc__law_name : FnScope names__law_name ["_law_deck_here"] (defScope s__law_name) := ⟨rfl, rfl, rfl, by decide +kernel, rfl, by decide +kernel, by decide +kernel⟩
theorem len__law_name : ∀ ds s Qd, (spName : DSp Mem.deck) ds s Qd → ds.length = 1 := spName_len
theorem ok__law_name (T : Tx w K mg base a d e ed) : FnG P w K mg base CX0 2 (a 28) (d 28) ["_law_deck_here"] (lift K Mem.deck 1 spName) := by
  have G__law_next := ok__law_next (P := P) (w := w) (base := base) T
  refine dfn T.f28 sc__law_name rfl (fun cdv A outer s0 H E En hr => ⟨_, (dss_cons (ds_set 1 sc__law_name.nd de_str)
      (dss_cons (ds_set 2 sc__law_name.nd (de_ix ix_seq o_ix (de_lst (da_cons de_int (da_cons de_int (da_cons de_int (da_cons de_int (da_cons de_int (da_cons de_int (da_cons de_int (da_cons de_int da_nil))))))))) (de_call G__law_next len__law_next (hr.mono (by decide)) (by rfl) T.g27 T.f27.kp T.b27 (da_cons (dv 0) (da_cons de_int da_nil)))))
      (dss_one (ds_ret (de_m PySem.F.plainAttrs_str PySem.F.slot_str_join PySem.F.type_str_join mt_join o_join de_str (da_cons (de_lc (own := [("_law_k", 3)]) sc__law_name.nd (di_range1 (by rfl) T.z_range (da_cons (dv 2) da_nil)) (blkOk_by (N := names__law_name) (sc := defScope s__law_name) (by decide +kernel)) (fun _ _ _ _ _ => (dg_name 3 sc__law_name.nd)) (fun _ _ _ _ _ => dts_nil) (fun _ _ _ _ _ => (de_ix ix_seq o_ix (dv 1) (de_call G__law_next len__law_next (hr.mono (by decide)) (by rfl) T.g27 T.f27.kp T.b27 (da_cons (dv 0) (da_cons de_int da_nil)))))) da_nil)))))), fun ds s Qd h => ?_⟩)
  exact read__law_name ds s Qd h
abbrev names__law_pool : List Str := ["_law_deck_here", "_law_many", "_law_found", "_law_k"]
theorem sc__law_pool : FnScope names__law_pool ["_law_deck_here", "_law_many"] (defScope s__law_pool) := ⟨rfl, rfl, rfl, by decide +kernel, rfl, by decide +kernel, by decide +kernel⟩
theorem len__law_pool : ∀ ds s Qd, (spPool : DSp Mem.deck) ds s Qd → ds.length = 2 := spPool_len
theorem ok__law_pool (T : Tx w K mg base a d e ed) : FnG P w K mg base CX0 3 (a 29) (d 29) ["_law_deck_here", "_law_many"] (lift K Mem.deck 2 spPool) := by
  have G__law_next := ok__law_next (P := P) (w := w) (base := base) T
  have G__law_name := ok__law_name (P := P) (w := w) (base := base) T
  refine dfn T.f29 sc__law_pool rfl (fun cdv A outer s0 H E En hr => ⟨_, (dss_cons (ds_setLcO 2 (own := [("_law_k", 3)]) sc__law_pool.nd (di_range1 (by rfl) T.z_range (da_cons (dv 1) da_nil)) (blkOk_by (N := names__law_pool) (sc := defScope s__law_pool) (by decide +kernel)) (fun _ _ _ _ _ => (dg_name 3 sc__law_pool.nd)) (fun _ _ _ _ _ => dts_nil) (fun _ _ _ _ _ => (de_call G__law_name len__law_name (hr.mono (by decide)) (by rfl) T.g28 T.f28.kp T.b28 (da_cons (dv 0) da_nil))))
      (dss_cons (ds_if (dt_cmp op_ltA o_lt (de_callB (DL.CallR.or call_len call_lenD) o_len (by rfl) T.z_len (by decide +kernel) (da_cons (de_ixO 2 de_int) da_nil)) de_int)
        (dss_one (ds_stO 2 (de_op op_addA o_add (de_ixO 2 de_int) (de_ix ix_seq o_ix de_str (de_call G__law_next len__law_next (hr.mono (by decide)) (by rfl) T.g27 T.f27.kp T.b27 (da_cons (dv 0) (da_cons de_int da_nil))))) de_int))
        (dss_one (ds_stO 2 (de_slice sl_all o_sl (de_ixO 2 de_int) do_none (do_some de_int)) de_int)))
      (dss_one (ds_ret (dv 2))))), fun ds s Qd h => ?_⟩)
  exact read__law_pool ds s Qd h
abbrev names__law_path : List Str := ["_law_deck_here", "_law_pool_here", "_law_most", "_law_many", "_law_k"]
theorem sc__law_path : FnScope names__law_path ["_law_deck_here", "_law_pool_here", "_law_most"] (defScope s__law_path) := ⟨rfl, rfl, rfl, by decide +kernel, rfl, by decide +kernel, by decide +kernel⟩
theorem len__law_path : ∀ ds s Qd, (spPath : DSp Mem.deck) ds s Qd → ds.length = 3 := spPath_len
theorem ok__law_path (T : Tx w K mg base a d e ed) : FnG P w K mg base CX0 2 (a 30) (d 30) ["_law_deck_here", "_law_pool_here", "_law_most"] (lift K Mem.deck 3 spPath) := by
  have G__law_next := ok__law_next (P := P) (w := w) (base := base) T
  refine dfn T.f30 sc__law_path rfl (fun cdv A outer s0 H E En hr => ⟨_, (dss_cons (ds_set 3 sc__law_path.nd (de_op op_addA o_add de_int (de_callB (call_min2 rfl) o_min (by rfl) T.z_min (by decide +kernel) (da_cons (de_op op_sub o_sub (dv 2) de_int) (da_cons (de_ix ix_seq o_ix (de_lst (da_cons de_int (da_cons de_int (da_cons de_int (da_cons de_int (da_cons de_int (da_cons de_int (da_cons de_int (da_cons de_int da_nil))))))))) (de_call G__law_next len__law_next (hr.mono (by decide)) (by rfl) T.g27 T.f27.kp T.b27 (da_cons (dv 0) (da_cons de_int da_nil)))) da_nil)))))
      (dss_one (ds_ret (de_m PySem.F.plainAttrs_str PySem.F.slot_str_join PySem.F.type_str_join mt_join o_join de_str (da_cons (de_lc (own := [("_law_k", 4)]) sc__law_path.nd (di_range1 (by rfl) T.z_range (da_cons (dv 3) da_nil)) (blkOk_by (N := names__law_path) (sc := defScope s__law_path) (by decide +kernel)) (fun _ _ _ _ _ => (dg_name 4 sc__law_path.nd)) (fun _ _ _ _ _ => dts_nil) (fun _ _ _ _ _ => (de_ix ix_seq o_ix (dv 1) (de_call G__law_next len__law_next (hr.mono (by decide)) (by rfl) T.g27 T.f27.kp T.b27 (da_cons (dv 0) (da_cons (de_callB (DL.CallR.or call_len call_lenD) o_len (by rfl) T.z_len (by decide +kernel) (da_cons (dv 1) da_nil)) da_nil)))))) da_nil))))), fun ds s Qd h => ?_⟩)
  exact read__law_path ds s Qd h
abbrev names__law_covers : List Str := ["_law_path_here", "_law_other", "_law_names"]
theorem sc__law_covers : FnScope names__law_covers ["_law_path_here", "_law_other"] (defScope s__law_covers) := ⟨rfl, rfl, rfl, by decide +kernel, rfl, by decide +kernel, by decide +kernel⟩
theorem len__law_covers {m : Mem} : ∀ ds s Qd, (spLcov : DSp m) ds s Qd → ds.length = 2 := spLcov_len
theorem ok__law_covers {m : Mem} (T : Tx w K mg base a d e ed) : FnG P w K mg base CX0 1 (a 31) (d 31) ["_law_path_here", "_law_other"] (lift K m 2 spLcov) := by
  refine dfn T.f31 sc__law_covers rfl (fun cdv A outer s0 H E En hr => ⟨_, (dss_cons (ds_set 2 sc__law_covers.nd (de_m PySem.F.plainAttrs_str PySem.F.slot_str_split PySem.F.type_str_split mt_split o_split (dv 0) (da_cons de_str da_nil)))
      (dss_one (ds_ret (de_cmp (op_eqD (u64 hr)) o_eq (de_slice sl_all o_sl (de_m PySem.F.plainAttrs_str PySem.F.slot_str_split PySem.F.type_str_split mt_split o_split (dv 1) (da_cons de_str da_nil)) do_none (do_some (de_callB (DL.CallR.or call_len call_lenD) o_len (by rfl) T.z_len (by decide +kernel) (da_cons (dv 2) da_nil)))) (dv 2))))), fun ds s Qd h => ?_⟩)
  exact read__law_covers ds s Qd h
abbrev names__law_overlap : List Str := ["_law_path_here", "_law_other"]
theorem sc__law_overlap : FnScope names__law_overlap ["_law_path_here", "_law_other"] (defScope s__law_overlap) := ⟨rfl, rfl, rfl, by decide +kernel, rfl, by decide +kernel, by decide +kernel⟩
theorem len__law_overlap {m : Mem} : ∀ ds s Qd, (spLover : DSp m) ds s Qd → ds.length = 2 := spLover_len
theorem ok__law_overlap {m : Mem} (T : Tx w K mg base a d e ed) : FnG P w K mg base CX0 2 (a 32) (d 32) ["_law_path_here", "_law_other"] (lift K m 2 spLover) := by
  have G__law_covers := ok__law_covers (P := P) (w := w) (base := base) (m := m) T
  refine dfn T.f32 sc__law_overlap rfl (fun cdv A outer s0 H E En hr => ⟨_, (dss_one (ds_ret (de_or (de_call G__law_covers len__law_covers (hr.mono (by decide)) (by rfl) T.g31 T.f31.kp T.b31 (da_cons (dv 0) (da_cons (dv 1) da_nil))) (de_one (de_call G__law_covers len__law_covers (hr.mono (by decide)) (by rfl) T.g31 T.f31.kp T.b31 (da_cons (dv 1) (da_cons (dv 0) da_nil))))))), fun ds s Qd h => ?_⟩)
  exact read__law_overlap ds s Qd h
abbrev names__law_modules : List Str := ["_law_deck_here", "_law_pool_here", "_law_most", "_law_found", "_law_k", "_law_path_here", "_law_module"]
theorem sc__law_modules : FnScope names__law_modules ["_law_deck_here", "_law_pool_here", "_law_most"] (defScope s__law_modules) := ⟨rfl, rfl, rfl, by decide +kernel, rfl, by decide +kernel, by decide +kernel⟩
theorem len__law_modules : ∀ ds s Qd, (spModules : DSp Mem.deck) ds s Qd → ds.length = 3 := spModules_len
theorem ok__law_modules (T : Tx w K mg base a d e ed) : FnG P w K mg base CX0 3 (a 33) (d 33) ["_law_deck_here", "_law_pool_here", "_law_most"] (lift K Mem.deck 3 spModules) := by
  have G__law_next := ok__law_next (P := P) (w := w) (base := base) T
  have G__law_path := ok__law_path (P := P) (w := w) (base := base) T
  have G__law_overlap := ok__law_overlap (P := P) (w := w) (base := base) (m := Mem.deck) T
  refine dfn T.f33 sc__law_modules rfl (fun cdv A outer s0 H E En hr => ⟨_, (dss_cons (ds_setL 3 sc__law_modules.nd da_nil)
      (dss_cons (ds_for rfl (di_range1 (by rfl) T.z_range (da_cons (de_ix ix_seq o_ix (de_lst (da_cons (dv 2) (da_cons (de_call G__law_next len__law_next (hr.mono (by decide)) (by rfl) T.g27 T.f27.kp T.b27 (da_cons (dv 0) (da_cons (de_op op_addA o_add (dv 2) de_int) da_nil))) da_nil))) (de_call G__law_next len__law_next (hr.mono (by decide)) (by rfl) T.g27 T.f27.kp T.b27 (da_cons (dv 0) (da_cons de_int da_nil)))) da_nil)) (dg_name 4 sc__law_modules.nd)
        (dss_cons (ds_set 5 sc__law_modules.nd (de_call G__law_path len__law_path (hr.mono (by decide)) (by rfl) T.g30 T.f30.kp T.b30 (da_cons (dv 0) (da_cons (dv 1) (da_cons de_int da_nil)))))
        (dss_one (ds_if (dt_back (dt_cmp (op_eqE (u1 hr)) o_eqE (de_lc (own := [("_law_module", 6)]) sc__law_modules.nd (di_seq (dv 3)) (blkOk_by (N := names__law_modules) (sc := defScope s__law_modules) (by decide +kernel)) (fun _ _ _ _ _ => (dg_name 6 sc__law_modules.nd)) (fun _ _ _ _ _ => (dts_one (dt_truth (de_call G__law_overlap len__law_overlap (hr.mono (by decide)) (by rfl) T.g32 T.f32.kp T.b32 (da_cons (dv 6) (da_cons (dv 5) da_nil)))))) (fun _ _ _ _ _ => (dv 6))) (de_lst da_nil)))
          (dss_one (ds_app 3 (dv 5)))
          dss_nil))))
      (dss_one (ds_ret (dv 3))))), fun ds s Qd h => ?_⟩)
  exact read_lmodules05 ds s Qd h
abbrev names__law_uses : List Str := ["_law_deck_here", "_law_modules_here", "_law_most", "_law_found", "_law_k", "_law_user", "_law_used"]
theorem sc__law_uses : FnScope names__law_uses ["_law_deck_here", "_law_modules_here", "_law_most"] (defScope s__law_uses) := ⟨rfl, rfl, rfl, by decide +kernel, rfl, by decide +kernel, by decide +kernel⟩
theorem len__law_uses : ∀ ds s Qd, (spUses : DSp Mem.deck) ds s Qd → ds.length = 3 := spUses_len
theorem ok__law_uses (T : Tx w K mg base a d e ed) : FnG P w K mg base CX0 2 (a 34) (d 34) ["_law_deck_here", "_law_modules_here", "_law_most"] (lift K Mem.deck 3 spUses) := by
  have G__law_next := ok__law_next (P := P) (w := w) (base := base) T
  refine dfn T.f34 sc__law_uses rfl (fun cdv A outer s0 H E En hr => ⟨_, (dss_cons (ds_setL 3 sc__law_uses.nd da_nil)
      (dss_cons (ds_for rfl (di_range1 (by rfl) T.z_range (da_cons (de_op op_mulA o_mul (de_ix ix_seq o_ix (de_lst (da_cons (dv 2) (da_cons (de_call G__law_next len__law_next (hr.mono (by decide)) (by rfl) T.g27 T.f27.kp T.b27 (da_cons (dv 0) (da_cons (de_op op_addA o_add (dv 2) de_int) da_nil))) da_nil))) (de_call G__law_next len__law_next (hr.mono (by decide)) (by rfl) T.g27 T.f27.kp T.b27 (da_cons (dv 0) (da_cons de_int da_nil)))) (de_callTy call_int1 o_intB (by rfl) T.z_int (by decide +kernel) (da_cons (de_cmp op_gtA o_gt (de_callB (DL.CallR.or call_len call_lenD) o_len (by rfl) T.z_len (by decide +kernel) (da_cons (dv 1) da_nil)) de_int) da_nil))) da_nil)) (dg_name 4 sc__law_uses.nd)
        (dss_cons (ds_set 5 sc__law_uses.nd (de_ix ix_seq o_ix (dv 1) (de_call G__law_next len__law_next (hr.mono (by decide)) (by rfl) T.g27 T.f27.kp T.b27 (da_cons (dv 0) (da_cons (de_callB (DL.CallR.or call_len call_lenD) o_len (by rfl) T.z_len (by decide +kernel) (da_cons (dv 1) da_nil)) da_nil)))))
        (dss_cons (ds_set 6 sc__law_uses.nd (de_ix ix_seq o_ix (dv 1) (de_call G__law_next len__law_next (hr.mono (by decide)) (by rfl) T.g27 T.f27.kp T.b27 (da_cons (dv 0) (da_cons (de_callB (DL.CallR.or call_len call_lenD) o_len (by rfl) T.z_len (by decide +kernel) (da_cons (dv 1) da_nil)) da_nil)))))
        (dss_one (ds_if (dt_back (PW.pt (dw_and (dt_cmp (op_neD (u64 hr)) o_ne (dv 5) (dv 6)) (dw_and1 (dt_cmp (op_notInA (u65 hr)) o_notIn (de_tup (da_cons (dv 5) (da_cons (dv 6) da_nil))) (dv 3))))))
          (dss_one (ds_app 3 (de_tup (da_cons (dv 5) (da_cons (dv 6) da_nil)))))
          dss_nil)))))
      (dss_one (ds_ret (dv 3))))), fun ds s Qd h => ?_⟩)
  exact read_luses05 ds s Qd h
abbrev names__law_odd : List Str := ["_law_deck_here", "_law_path_here", "_law_some"]
theorem sc__law_odd : FnScope names__law_odd ["_law_deck_here", "_law_path_here"] (defScope s__law_odd) := ⟨rfl, rfl, rfl, by decide +kernel, rfl, by decide +kernel, by decide +kernel⟩
theorem len__law_odd : ∀ ds s Qd, (spOdd11 : DSp Mem.deck) ds s Qd → ds.length = 2 := spOdd11_len
theorem ok__law_odd (T : Tx w K mg base a d e ed) : FnG P w K mg base CX0 2 (a 35) (d 35) ["_law_deck_here", "_law_path_here"] (lift K Mem.deck 2 spOdd11) := by
  have G__law_next := ok__law_next (P := P) (w := w) (base := base) T
  refine dfn T.f35 sc__law_odd rfl (fun cdv A outer s0 H E En hr => ⟨_, (dss_cons (ds_set 2 sc__law_odd.nd (de_lst (da_cons de_non (da_cons de_bl (da_cons de_bl (da_cons de_int (da_cons de_int (da_cons (de_un un_neg o_neg de_int) (da_cons (de_op op_pow o_pow de_int de_int) (da_cons de_str (da_cons de_str (da_cons de_str (da_cons de_str (da_cons de_str (da_cons de_str (da_cons de_str (da_cons de_str (da_cons de_str (da_cons de_str da_nil)))))))))))))))))))
      (dss_cons (ds_set 2 sc__law_odd.nd (de_op op_addA o_add (dv 2) (de_lst (da_cons de_str (da_cons (de_tup da_nil) (da_cons (de_lst da_nil) (da_cons de_dict0 (da_cons (de_tup (da_cons (dv 1) da_nil)) (da_cons (de_lst (da_cons (dv 1) da_nil)) (da_cons (de_dict1 1 1) (da_cons (de_tup (da_cons (dv 1) (da_cons (dv 1) da_nil))) (da_cons (de_tup (da_cons (dv 1) (da_cons (dv 1) (da_cons (dv 1) da_nil)))) da_nil))))))))))))
      (dss_cons (ds_set 2 sc__law_odd.nd (de_op op_addA o_add (dv 2) (de_lst (da_cons (de_op op_addA o_add (dv 1) de_str) (da_cons (de_op op_addA o_add (dv 1) de_str) (da_cons (de_m0 PySem.F.plainAttrs_str PySem.F.slot_str_upper PySem.F.type_str_upper mt_upper o_upper (dv 1)) (da_cons (de_op op_addA o_add (dv 1) de_str) (da_cons (de_lst (da_cons (dv 1) (da_cons (dv 1) da_nil))) (da_cons (de_tup (da_cons de_str (da_cons (de_lst da_nil) (da_cons de_dict0 da_nil)))) (da_cons (de_tup (da_cons (de_tup (da_cons (dv 1) (da_cons (dv 1) da_nil))) da_nil)) da_nil))))))))))
      (dss_one (ds_ret (de_ix ix_seq o_ix (dv 2) (de_call G__law_next len__law_next (hr.mono (by decide)) (by rfl) T.g27 T.f27.kp T.b27 (da_cons (dv 0) (da_cons (de_callB (DL.CallR.or call_len call_lenD) o_len (by rfl) T.z_len (by decide +kernel) (da_cons (dv 2) da_nil)) da_nil))))))))), fun ds s Qd h => ?_⟩)
  exact read_odd11 ds s Qd h
abbrev names__law_says : List Str := ["_law_found", "_law_due"]
theorem sc__law_says : FnScope names__law_says ["_law_found", "_law_due"] (defScope s__law_says) := ⟨rfl, rfl, rfl, by decide +kernel, rfl, by decide +kernel, by decide +kernel⟩
theorem len__law_says {m : Mem} : ∀ ds s Qd, (spSays : DSp m) ds s Qd → ds.length = 2 := spSays_len
theorem ok__law_says {m : Mem} (T : Tx w K mg base a d e ed) : FnG P w K mg base CX0 1 (a 36) (d 36) ["_law_found", "_law_due"] (lift K m 2 spSays) := by
  refine dfn T.f36 sc__law_says rfl (fun cdv A outer s0 H E En hr => ⟨_, (dss_one (ds_ret (de_and (de_callB call_isi o_isi (by rfl) T.z_isinstance (by decide +kernel) (da_cons (dv 0) (da_cons (de_bltn (v := .ty "bool") (by rfl) T.z_bool (by decide +kernel) rfl) da_nil))) (de_one (de_cmp (op_eqD (u64 hr)) o_eq (dv 0) (dv 1)))))), fun ds s Qd h => ?_⟩)
  exact read__law_says ds s Qd h
abbrev names__law_inside : List Str := ["_law_modules_here", "_law_uses_here", "_law_value", "_law_module", "_law_use"]
theorem sc__law_inside : FnScope names__law_inside ["_law_modules_here", "_law_uses_here", "_law_value"] (defScope s__law_inside) := ⟨rfl, rfl, rfl, by decide +kernel, rfl, by decide +kernel, by decide +kernel⟩
theorem len__law_inside {m : Mem} : ∀ ds s Qd, ((spInside06 (a 24)) : DSp m) ds s Qd → ds.length = 3 := spInside06_len
theorem ok__law_inside {m : Mem} (T : Tx w K mg base a d e ed) : FnG P w K mg base CX0 2 (a 37) (d 37) ["_law_modules_here", "_law_uses_here", "_law_value"] (lift K m 3 (spInside06 (a 24))) := by
  have G__law_covers := ok__law_covers (P := P) (w := w) (base := base) (m := m) T
  refine dfn T.f37 sc__law_inside rfl (fun cdv A outer s0 H E En hr => ⟨_, (dss_cons (ds_if (dt_truth (de_callB call_isi (o_isn2 T.cl24 T.ns24) (by rfl) T.z_isinstance (by decide +kernel) (da_cons (dv 2) (da_cons (de_bltn (v := .ty "str") (by rfl) T.z_str (by decide +kernel) rfl) da_nil))))
        (dss_one (ds_ret (de_cmp (op_neE (u1 hr)) o_eqE (de_lc (own := [("_law_module", 3)]) sc__law_inside.nd (di_seq (dv 0)) (blkOk_by (N := names__law_inside) (sc := defScope s__law_inside) (by decide +kernel)) (fun _ _ _ _ _ => (dg_name 3 sc__law_inside.nd)) (fun _ _ _ _ _ => (dts_one (dt_truth (de_call G__law_covers len__law_covers (hr.mono (by decide)) (by rfl) T.g31 T.f31.kp T.b31 (da_cons (dv 2) (da_cons (dv 3) da_nil)))))) (fun _ _ _ _ _ => (dv 3))) (de_lst da_nil))))
        dss_nil)
      (dss_one (ds_ret (de_and (de_callB call_isi (o_isn2 T.cl24 T.ns24) (by rfl) T.z_isinstance (by decide +kernel) (da_cons (dv 2) (da_cons (de_bltn (v := .ty "tuple") (by rfl) T.z_tuple (by decide +kernel) rfl) da_nil))) (de_one (de_cmp (op_neE (u1 hr)) o_eqE (de_lc (own := [("_law_use", 4)]) sc__law_inside.nd (di_seq (dv 1)) (blkOk_by (N := names__law_inside) (sc := defScope s__law_inside) (by decide +kernel)) (fun _ _ _ _ _ => (dg_name 4 sc__law_inside.nd)) (fun _ _ _ _ _ => (dts_one (dt_cmp (op_eqPrT (u2 hr)) o_eqPrT (dv 4) (dv 2)))) (fun _ _ _ _ _ => (dv 4))) (de_lst da_nil))))))), fun ds s Qd h => ?_⟩)
  exact read_inside06 ds s Qd h
abbrev names__is_name : List Str := ["text", "letter"]
theorem sc__is_name : FnScope names__is_name ["text"] (defScope s__is_name) := ⟨rfl, rfl, rfl, by decide +kernel, rfl, by decide +kernel, by decide +kernel⟩
theorem len__is_name {m : Mem} : ∀ ds s Qd, (spIsName : DSp m) ds s Qd → ds.length = 1 := spIsName_len
theorem ok__is_name {m : Mem} (T : Tx w K mg base a d e ed) : FnG P w K mg base CX0 1 (a 12) (d 12) ["text"] (lift K m 1 spIsName) := by
  refine dfn T.f12 sc__is_name rfl (fun cdv A outer s0 H E En hr => ⟨_, (dss_one (ds_ret (de_and (de_chain op_leA op_leA o_le o_le de_int (de_callB (DL.CallR.or call_len call_lenD) o_len (by rfl) T.z_len (by decide +kernel) (da_cons (dv 0) da_nil)) (de_globI (by rfl) T.c__MAX_LETTERS)) (de_one (de_callB (cr_all rfl) o_all (by rfl) T.z_all (by decide +kernel) (da_cons (de_lc (own := [("letter", 1)]) sc__is_name.nd (di_str (dv 0)) (blkOk_by (N := names__is_name) (sc := defScope s__is_name) (by decide +kernel)) (fun _ _ _ _ _ => (dg_name 1 sc__is_name.nd)) (fun _ _ _ _ _ => dts_nil) (fun _ _ _ _ _ => (de_chain op_leA op_leA o_le o_le de_str (dv 1) de_str))) da_nil)))))), fun ds s Qd h => ?_⟩)
  exact read__is_name ds s Qd h
abbrev names_is_path : List Str := ["value", "names", "name"]
theorem sc_is_path : FnScope names_is_path ["value"] (defScope s_is_path) := ⟨rfl, rfl, rfl, by decide +kernel, rfl, by decide +kernel, by decide +kernel⟩
theorem len_is_path {m : Mem} : ∀ ds s Qd, (spIsPath : DSp m) ds s Qd → ds.length = 1 := spIsPath_len
theorem ok_is_path {m : Mem} (T : Tx w K mg base a d e ed) : FnG P w K mg base CX0 2 (a 13) (d 13) ["value"] (lift K m 1 spIsPath) := by
  have G__is_name := ok__is_name (P := P) (w := w) (base := base) (m := m) T
  refine dfn T.f13 sc_is_path rfl (fun cdv A outer s0 H E En hr => ⟨_, (dss_cons (ds_if (dt_not (dt_truth (de_callB call_isi o_isi (by rfl) T.z_isinstance (by decide +kernel) (da_cons (dv 0) (da_cons (de_bltn (v := .ty "str") (by rfl) T.z_str (by decide +kernel) rfl) da_nil)))))
        (dss_one (ds_ret de_bl))
        dss_nil)
      (dss_cons (ds_set 1 sc_is_path.nd (de_m PySem.F.plainAttrs_str PySem.F.slot_str_split PySem.F.type_str_split mt_split o_split (dv 0) (da_cons de_str da_nil)))
      (dss_one (ds_ret (de_and (de_cmp op_leA o_le (de_callB (DL.CallR.or call_len call_lenD) o_len (by rfl) T.z_len (by decide +kernel) (da_cons (dv 1) da_nil)) (de_globI (by rfl) T.c_MAX_NAMES)) (de_one (de_callB (cr_all rfl) o_all (by rfl) T.z_all (by decide +kernel) (da_cons (de_lc (own := [("name", 2)]) sc_is_path.nd (di_seq (dv 1)) (blkOk_by (N := names_is_path) (sc := defScope s_is_path) (by decide +kernel)) (fun _ _ _ _ _ => (dg_name 2 sc_is_path.nd)) (fun _ _ _ _ _ => dts_nil) (fun _ _ _ _ _ => (de_call G__is_name len__is_name (hr.mono (by decide)) (by rfl) T.g12 T.f12.kp T.b12 (da_cons (dv 2) da_nil)))) da_nil)))))))), fun ds s Qd h => ?_⟩)
  exact read_is_path ds s Qd h
abbrev names_covers : List Str := ["path", "other"]
theorem sc_covers : FnScope names_covers ["path", "other"] (defScope s_covers) := ⟨rfl, rfl, rfl, by decide +kernel, rfl, by decide +kernel, by decide +kernel⟩
theorem len_covers {m : Mem} : ∀ ds s Qd, (spCovers : DSp m) ds s Qd → ds.length = 2 := spCovers_len
theorem ok_covers {m : Mem} (T : Tx w K mg base a d e ed) : FnG P w K mg base CX0 1 (a 14) (d 14) ["path", "other"] (lift K m 2 spCovers) := by
  refine dfn T.f14 sc_covers rfl (fun cdv A outer s0 H E En hr => ⟨_, (dss_one (ds_ret (de_or (de_cmp (op_eqD (u64 hr)) o_eq (dv 1) (dv 0)) (de_one (de_m PySem.F.plainAttrs_str PySem.F.slot_str_startswith PySem.F.type_str_startswith mt_startswith o_sw (dv 1) (da_cons (de_op op_addA o_add (dv 0) de_str) da_nil)))))), fun ds s Qd h => ?_⟩)
  exact read_covers ds s Qd h
abbrev names_overlap : List Str := ["path", "other"]
theorem sc_overlap : FnScope names_overlap ["path", "other"] (defScope s_overlap) := ⟨rfl, rfl, rfl, by decide +kernel, rfl, by decide +kernel, by decide +kernel⟩
theorem len_overlap {m : Mem} : ∀ ds s Qd, (spOverlap : DSp m) ds s Qd → ds.length = 2 := spOverlap_len
theorem ok_overlap {m : Mem} (T : Tx w K mg base a d e ed) : FnG P w K mg base CX0 2 (a 15) (d 15) ["path", "other"] (lift K m 2 spOverlap) := by
  have G_covers := ok_covers (P := P) (w := w) (base := base) (m := m) T
  refine dfn T.f15 sc_overlap rfl (fun cdv A outer s0 H E En hr => ⟨_, (dss_one (ds_ret (de_or (de_call G_covers len_covers (hr.mono (by decide)) (by rfl) T.g14 T.f14.kp T.b14 (da_cons (dv 0) (da_cons (dv 1) da_nil))) (de_one (de_call G_covers len_covers (hr.mono (by decide)) (by rfl) T.g14 T.f14.kp T.b14 (da_cons (dv 1) (da_cons (dv 0) da_nil))))))), fun ds s Qd h => ?_⟩)
  exact read_overlap ds s Qd h
abbrev names__modules_error : List Str := ["modules", "index", "module", "earlier"]
theorem sc__modules_error : FnScope names__modules_error ["modules"] (defScope s__modules_error) := ⟨rfl, rfl, rfl, by decide +kernel, rfl, by decide +kernel, by decide +kernel⟩
theorem len__modules_error {m : Mem} : ∀ ds s Qd, (spModErr : DSp m) ds s Qd → ds.length = 1 := spModErr_len
theorem ok__modules_error {m : Mem} (T : Tx w K mg base a d e ed) : FnG P w K mg base CX0 3 (a 20) (d 20) ["modules"] (lift K m 1 spModErr) := by
  have G_is_path := ok_is_path (P := P) (w := w) (base := base) (m := m) T
  have G_overlap := ok_overlap (P := P) (w := w) (base := base) (m := m) T
  refine dfn T.f20 sc__modules_error rfl (fun cdv A outer s0 H E En hr => ⟨_, (dss_cons (ds_if (PW.pt (dw_or (dt_not (dt_truth (de_callB call_isi o_isi (by rfl) T.z_isinstance (by decide +kernel) (da_cons (dv 0) (da_cons (de_bltn (v := .ty "tuple") (by rfl) T.z_tuple (by decide +kernel) rfl) da_nil))))) (dw_or1 (dt_cmp op_gtA o_gt (de_callB (DL.CallR.or call_len call_lenD) o_len (by rfl) T.z_len (by decide +kernel) (da_cons (dv 0) da_nil)) (de_globI (by rfl) T.c_MAX_MODULES)))))
        (dss_one (ds_ret (de_tup (da_cons de_non (da_cons de_str da_nil)))))
        dss_nil)
      (dss_cons (ds_for rfl (di_enumA (by rfl) T.z_enumerate (da_cons (dv 0) da_nil)) (dg_tup (n := 2) rfl (dgs_cons (dg_name 1 sc__modules_error.nd) (dgs_cons (dg_name 2 sc__modules_error.nd) dgs_nil)))
        (dss_cons (ds_if (dt_not (dt_truth (de_call G_is_path len_is_path (hr.mono (by decide)) (by rfl) T.g13 T.f13.kp T.b13 (da_cons (dv 2) da_nil))))
          (dss_one (ds_ret (de_tup (da_cons (dv 1) (da_cons de_str da_nil)))))
          dss_nil)
        (dss_one (ds_if (dt_truth (de_callB (cr_any rfl) o_any (by rfl) T.z_any (by decide +kernel) (da_cons (de_lc (own := [("earlier", 3)]) sc__modules_error.nd (di_seq (de_slice sl_all o_sl (dv 0) do_none (do_some (dv 1)))) (blkOk_by (N := names__modules_error) (sc := defScope s__modules_error) (by decide +kernel)) (fun _ _ _ _ _ => (dg_name 3 sc__modules_error.nd)) (fun _ _ _ _ _ => dts_nil) (fun _ _ _ _ _ => (de_call G_overlap len_overlap (hr.mono (by decide)) (by rfl) T.g15 T.f15.kp T.b15 (da_cons (dv 3) (da_cons (dv 2) da_nil))))) da_nil)))
          (dss_one (ds_ret (de_tup (da_cons (dv 1) (da_cons de_str da_nil)))))
          dss_nil))))
      (dss_one (ds_ret de_non)))), fun ds s Qd h => ?_⟩)
  exact read_mod_error05 ds s Qd h
abbrev names__is_pair_of : List Str := ["value", "modules"]
theorem sc__is_pair_of : FnScope names__is_pair_of ["value", "modules"] (defScope s__is_pair_of) := ⟨rfl, rfl, rfl, by decide +kernel, rfl, by decide +kernel, by decide +kernel⟩
theorem len__is_pair_of {m : Mem} : ∀ ds s Qd, (spIsPair : DSp m) ds s Qd → ds.length = 2 := spIsPair_len
theorem ok__is_pair_of {m : Mem} (T : Tx w K mg base a d e ed) : FnG P w K mg base CX0 1 (a 18) (d 18) ["value", "modules"] (lift K m 2 spIsPair) := by
  refine dfn T.f18 sc__is_pair_of rfl (fun cdv A outer s0 H E En hr => ⟨_, (dss_one (ds_ret (de_and (de_callB call_isi o_isi (by rfl) T.z_isinstance (by decide +kernel) (da_cons (dv 0) (da_cons (de_bltn (v := .ty "tuple") (by rfl) T.z_tuple (by decide +kernel) rfl) da_nil))) (de_and (de_cmp (op_eqD (u64 hr)) o_eq (de_callB (DL.CallR.or call_len call_lenD) o_len (by rfl) T.z_len (by decide +kernel) (da_cons (dv 0) da_nil)) de_int) (de_and (de_cmp (op_neD (u64 hr)) o_ne (de_ix ix_seq o_ix (dv 0) de_int) (de_ix ix_seq o_ix (dv 0) de_int)) (de_and (de_cmp (op_inTP (u65 hr)) (o_inTP (neg := false)) (de_ix ix_seq o_ix (dv 0) de_int) (dv 1)) (de_one (de_cmp (op_inTP (u65 hr)) (o_inTP (neg := false)) (de_ix ix_seq o_ix (dv 0) de_int) (dv 1))))))))), fun ds s Qd h => ?_⟩)
  exact read_is_pair05 ds s Qd h
abbrev names__uses_error : List Str := ["modules", "uses", "seen", "index", "use"]
theorem sc__uses_error : FnScope names__uses_error ["modules", "uses"] (defScope s__uses_error) := ⟨rfl, rfl, rfl, by decide +kernel, rfl, by decide +kernel, by decide +kernel⟩
theorem len__uses_error {m : Mem} : ∀ ds s Qd, (spUseErr : DSp m) ds s Qd → ds.length = 2 := spUseErr_len
theorem ok__uses_error {m : Mem} (T : Tx w K mg base a d e ed) : FnG P w K mg base CX0 2 (a 21) (d 21) ["modules", "uses"] (lift K m 2 spUseErr) := by
  have G__is_pair_of := ok__is_pair_of (P := P) (w := w) (base := base) (m := m) T
  refine dfn T.f21 sc__uses_error rfl (fun cdv A outer s0 H E En hr => ⟨_, (dss_cons (ds_if (PW.pt (dw_or (dt_not (dt_truth (de_callB call_isi o_isi (by rfl) T.z_isinstance (by decide +kernel) (da_cons (dv 1) (da_cons (de_bltn (v := .ty "tuple") (by rfl) T.z_tuple (by decide +kernel) rfl) da_nil))))) (dw_or1 (dt_cmp op_gtA o_gt (de_callB (DL.CallR.or call_len call_lenD) o_len (by rfl) T.z_len (by decide +kernel) (da_cons (dv 1) da_nil)) (de_globI (by rfl) T.c_MAX_USES)))))
        (dss_one (ds_ret (de_tup (da_cons de_non (da_cons de_str da_nil)))))
        dss_nil)
      (dss_cons (ds_setP 2 sc__uses_error.nd (by rfl) T.z_set)
      (dss_cons (ds_for rfl (di_enumA (by rfl) T.z_enumerate (da_cons (dv 1) da_nil)) (dg_tup (n := 2) rfl (dgs_cons (dg_name 3 sc__uses_error.nd) (dgs_cons (dg_name 4 sc__uses_error.nd) dgs_nil)))
        (dss_cons (ds_if (dt_not (dt_truth (de_call G__is_pair_of len__is_pair_of (hr.mono (by decide)) (by rfl) T.g18 T.f18.kp T.b18 (da_cons (dv 4) (da_cons (dv 0) da_nil)))))
          (dss_one (ds_ret (de_tup (da_cons (dv 3) (da_cons de_str da_nil)))))
          dss_nil)
        (dss_cons (ds_if (dt_inP 2 (u64 hr) (dv 4))
          (dss_one (ds_ret (de_tup (da_cons (dv 3) (da_cons de_str da_nil)))))
          dss_nil)
        (dss_one (ds_addP 2 (u64 hr) (dv 4))))))
      (dss_one (ds_ret de_non))))), fun ds s Qd h => ?_⟩)
  exact read_use_error05 ds s Qd h
abbrev names_program_error : List Str := ["modules", "uses", "error"]
theorem sc_program_error : FnScope names_program_error ["modules", "uses"] (defScope s_program_error) := ⟨rfl, rfl, rfl, by decide +kernel, rfl, by decide +kernel, by decide +kernel⟩
theorem len_program_error {m : Mem} : ∀ ds s Qd, (spProgErr : DSp m) ds s Qd → ds.length = 2 := spProgErr_len
theorem ok_program_error {m : Mem} (T : Tx w K mg base a d e ed) : FnG P w K mg base CX0 4 (a 22) (d 22) ["modules", "uses"] (lift K m 2 spProgErr) := by
  have G__modules_error := ok__modules_error (P := P) (w := w) (base := base) (m := m) T
  have G__uses_error := ok__uses_error (P := P) (w := w) (base := base) (m := m) T
  refine dfn T.f22 sc_program_error rfl (fun cdv A outer s0 H E En hr => ⟨_, (dss_cons (ds_set 2 sc_program_error.nd (de_call G__modules_error len__modules_error (hr.mono (by decide)) (by rfl) T.g20 T.f20.kp T.b20 (da_cons (dv 0) da_nil)))
      (dss_cons (ds_if (dt_cmp op_isN o_isN (dv 2) de_non)
        (dss_one (ds_set 2 sc_program_error.nd (de_call G__uses_error len__uses_error (hr.mono (by decide)) (by rfl) T.g21 T.f21.kp T.b21 (da_cons (dv 0) (da_cons (dv 1) da_nil)))))
        dss_nil)
      (dss_one (ds_ret (dv 2))))), fun ds s Qd h => ?_⟩)
  exact read_prog_error05 ds s Qd h
abbrev names_parent : List Str := ["path", "above", "dot", "_"]
theorem sc_parent : FnScope names_parent ["path"] (defScope s_parent) := ⟨rfl, rfl, rfl, by decide +kernel, rfl, by decide +kernel, by decide +kernel⟩
theorem len_parent {m : Mem} : ∀ ds s Qd, (spParent : DSp m) ds s Qd → ds.length = 1 := spParent_len
theorem ok_parent {m : Mem} (T : Tx w K mg base a d e ed) : FnG P w K mg base CX0 1 (a 16) (d 16) ["path"] (lift K m 1 spParent) := by
  refine dfn T.f16 sc_parent rfl (fun cdv A outer s0 H E En hr => ⟨_, (dss_cons (ds_asg (de_m PySem.F.plainAttrs_str PySem.F.slot_str_rpartition PySem.F.type_str_rpartition mt_rpartition o_rpart (dv 0) (da_cons de_str da_nil)) (dg_tup (n := 3) rfl (dgs_cons (dg_name 1 sc_parent.nd) (dgs_cons (dg_name 2 sc_parent.nd) (dgs_cons (dg_name 3 sc_parent.nd) dgs_nil)))))
      (dss_one (ds_ret (de_ifExp (dt_truth (dv 2)) (dv 1) de_non)))), fun ds s Qd h => ?_⟩)
  exact read_parent ds s Qd h
abbrev names__parts : List Str := ["modules", "found", "module", "path"]
theorem sc__parts : FnScope names__parts ["modules"] (defScope s__parts) := ⟨rfl, rfl, rfl, by decide +kernel, rfl, by decide +kernel, by decide +kernel⟩
theorem len__parts {m : Mem} : ∀ ds s Qd, (spParts : DSp m) ds s Qd → ds.length = 1 := spParts_len
theorem ok__parts {m : Mem} (T : Tx w K mg base a d e ed) : FnG P w K mg base CX0 2 (a 23) (d 23) ["modules"] (lift K m 1 spParts) := by
  have G_parent := ok_parent (P := P) (w := w) (base := base) (m := m) T
  refine dfn T.f23 sc__parts rfl (fun cdv A outer s0 H E En hr => ⟨_, (dss_cons (ds_setT 1 sc__parts.nd (by rfl) T.z_set)
      (dss_cons (ds_for rfl (di_seq (dv 0)) (dg_name 2 sc__parts.nd)
        (dss_cons (ds_set 3 sc__parts.nd (dv 2))
        (dss_one (ds_while (dt_cmp op_notN o_notN (dv 3) de_non)
          (dss_cons (ds_addT 1 (dv 3))
          (dss_one (ds_set 3 sc__parts.nd (de_call G_parent len_parent (hr.mono (by decide)) (by rfl) T.g16 T.f16.kp T.b16 (da_cons (dv 3) da_nil)))))))))
      (dss_one (ds_ret (de_callTy call_tuple_of o_tuple (by rfl) T.z_tuple (by decide +kernel) (da_cons (de_sortT 1 (by rfl) (by rfl) T.z_sorted) da_nil)))))), fun ds s Qd h => ?_⟩)
  exact read_parts05 ds s Qd h
abbrev names_Program___init__ : List Str := ["self", "modules", "uses", "error"]
theorem sc_Program___init__ : FnScope names_Program___init__ ["self", "modules", "uses"] (defScope s_Program___init__) := ⟨rfl, rfl, rfl, by decide +kernel, rfl, by decide +kernel, by decide +kernel⟩
theorem len_Program___init__ {m : Mem} : ∀ ds s Qd, (spProgI : ISp m) ds s Qd → ds.length = 2 := spProgI_len
theorem ok_Program___init__ {m : Mem} (T : Tx w K mg base a d e ed) : FnG P w K mg base CX0 5 (a 2200) (d 2200) ["self", "modules", "uses"] (liftI K m (a 24) 2 spProgI) := by
  have G_program_error := ok_program_error (P := P) (w := w) (base := base) (m := m) T
  have G__parts := ok__parts (P := P) (w := w) (base := base) (m := m) T
  refine dfnI T.f2200 sc_Program___init__ rfl (fun cdv A outer s0 H E En hr => ⟨_, (dss_cons (ds_set 3 sc_Program___init__.nd (de_call G_program_error len_program_error (hr.mono (by decide)) (by rfl) T.g22 T.f22.kp T.b22 (da_cons (dv 1) (da_cons (dv 2) da_nil))))
      (dss_cons (ds_if (dt_cmp op_notN o_notN (dv 3) de_non)
        (dss_one ds_never)
        dss_nil)
      (dss_cons (ds_fst 0 T.cl24.cl T.na24_modules (de_callTy call_tuple_of o_tuple (by rfl) T.z_tuple (by decide +kernel) (da_cons (de_callB cr_sortT2 o_sortT (by rfl) T.z_sorted (by decide +kernel) (da_cons (dv 1) da_nil)) da_nil)))
      (dss_cons (ds_fst 0 T.cl24.cl T.na24_uses (de_callTy call_tuple_of o_tuple (by rfl) T.z_tuple (by decide +kernel) (da_cons (de_callB cr_sortT2 o_sortT (by rfl) T.z_sorted (by decide +kernel) (da_cons (dv 2) da_nil)) da_nil)))
      (dss_one (ds_fst 0 T.cl24.cl T.na24_parts (de_call G__parts len__parts (hr.mono (by decide)) (by rfl) T.g23 T.f23.kp T.b23 (da_cons (dv 1) da_nil)))))))), fun ds s Qd x dx h => ?_⟩)
  exact read_prog_init05 (w := w) (a := fun _ => a 24) ds s Qd x dx h
abbrev names_Program_modules : List Str := ["self"]
theorem sc_Program_modules : FnScope names_Program_modules ["self"] (defScope s_Program_modules) := ⟨rfl, rfl, rfl, by decide +kernel, rfl, by decide +kernel, by decide +kernel⟩
theorem ok_Program_modules {m : Mem} (T : Tx w K mg base a d e ed) : FnG P w K mg base CX0 1 (a 2202) (d 2202) ["self"] (lift K m 1 (spGetM (a 24))) := by
  refine dfn T.f2202 sc_Program_modules rfl (fun cdv A outer s0 H E En hr => ⟨_, (dss_one (ds_ret (de_fld T.cl24.cl T.na24_modules (dv 0)))), fun ds s Qd h => ?_⟩)
  exact read_getm05 (a := fun _ => a 24) ds s Qd h
abbrev names_Program_uses : List Str := ["self"]
theorem sc_Program_uses : FnScope names_Program_uses ["self"] (defScope s_Program_uses) := ⟨rfl, rfl, rfl, by decide +kernel, rfl, by decide +kernel, by decide +kernel⟩
theorem ok_Program_uses {m : Mem} (T : Tx w K mg base a d e ed) : FnG P w K mg base CX0 1 (a 2203) (d 2203) ["self"] (lift K m 1 (spGetU (a 24))) := by
  refine dfn T.f2203 sc_Program_uses rfl (fun cdv A outer s0 H E En hr => ⟨_, (dss_one (ds_ret (de_fld T.cl24.cl T.na24_uses (dv 0)))), fun ds s Qd h => ?_⟩)
  exact read_getu05 (a := fun _ => a 24) ds s Qd h
abbrev names_Program___eq__ : List Str := ["self", "other"]
theorem sc_Program___eq__ : FnScope names_Program___eq__ ["self", "other"] (defScope s_Program___eq__) := ⟨rfl, rfl, rfl, by decide +kernel, rfl, by decide +kernel, by decide +kernel⟩
theorem ok_Program___eq__ {m : Mem} (T : Tx w K mg base a d e ed) : FnG P w K mg base CX0 4 (a 2209) (d 2209) ["self", "other"] (lift K m 2 (spProgEq (a 24))) := by
  have G_Program_modules := ok_Program_modules (P := P) (w := w) (base := base) (m := m) T
  have G_Program_uses := ok_Program_uses (P := P) (w := w) (base := base) (m := m) T
  refine dfn T.f2209 sc_Program___eq__ rfl (fun cdv A outer s0 H E En hr => ⟨_, (dss_cons (ds_if (dt_not (dt_truth (de_callB call_isi (o_isoC T.ow24 T.cl24) (by rfl) T.z_isinstance (by decide +kernel) (da_cons (dv 1) (da_cons (de_glob (d := .any (.ref (a 24))) (v := .ref (a 24)) (by rfl) T.g24 rfl (fun _ => rfl)) da_nil)))))
        (dss_one (ds_ret de_bl))
        dss_nil)
      (dss_one (ds_ret (de_and (de_cmp (op_eqD (u64 hr)) o_eq (de_prop T.cl24.cl T.p2202 G_Program_modules (hr.mono (by decide)) T.b2202 (dv 0)) (de_prop T.cl24.cl T.p2202 G_Program_modules (hr.mono (by decide)) T.b2202 (dv 1))) (de_one (de_cmp (op_eqD (u64 hr)) o_eq (de_prop T.cl24.cl T.p2203 G_Program_uses (hr.mono (by decide)) T.b2203 (dv 0)) (de_prop T.cl24.cl T.p2203 G_Program_uses (hr.mono (by decide)) T.b2203 (dv 1)))))))), fun ds s Qd h => ?_⟩)
  exact read_eq05 (a := fun _ => a 24) ds s Qd h
abbrev names_Program___contains__ : List Str := ["self", "value"]
theorem sc_Program___contains__ : FnScope names_Program___contains__ ["self", "value"] (defScope s_Program___contains__) := ⟨rfl, rfl, rfl, by decide +kernel, rfl, by decide +kernel, by decide +kernel⟩
theorem ok_Program___contains__ {m : Mem} (T : Tx w K mg base a d e ed) : FnG P w K mg base CX0 7 (a 2208) (d 2208) ["self", "value"] (lift K m 2 (spHas06 (a 24))) := by
  have G_Program___eq__ := ok_Program___eq__ (P := P) (w := w) (base := base) (m := m) T
  refine dfn T.f2208 sc_Program___contains__ rfl (fun cdv A outer s0 H E En hr => ⟨_, (dss_one (ds_ret (de_or (de_inOwnT G_Program___eq__ (hr.mono (by decide)) T.b2209 T.m2209 T.n2209 T.ns24 (dv 1) (de_fld T.cl24.cl T.na24_parts (dv 0))) (de_one (de_inOwnP G_Program___eq__ (hr.mono (by decide)) T.b2209 T.m2209 T.n2209 T.ns24 (dv 1) (de_fld T.cl24.cl T.na24_uses (dv 0))))))), fun ds s Qd h => ?_⟩)
  exact read_has06 ds s Qd h
abbrev names_law : List Str := ["_law_script", "_law_deck_here", "_law_turn", "_law_pool_here", "_law_modules_here", "_law_uses_here", "_law_one", "_law_path_here", "_law_other", "_law_tried", "_law_names", "_law_value", "_law_many", "_law_k", "_law_use"]
theorem sc_law : FnScope names_law ["_law_script"] (defScope s_law) := ⟨rfl, rfl, rfl, by decide +kernel, rfl, by decide +kernel, by decide +kernel⟩
theorem ok_law (T : Tx w K mg base a d e ed) : FnG P w K mg base CX0 10 (a 38) (d 38) ["_law_script"] (lift K Mem.deck 1 spLaw) := by
  have G__law_deck := ok__law_deck (P := P) (w := w) (base := base) T
  have G__law_next := ok__law_next (P := P) (w := w) (base := base) T
  have G__law_pool := ok__law_pool (P := P) (w := w) (base := base) T
  have G__law_path := ok__law_path (P := P) (w := w) (base := base) T
  have G__law_modules := ok__law_modules (P := P) (w := w) (base := base) T
  have G__law_uses := ok__law_uses (P := P) (w := w) (base := base) T
  have G__law_odd := ok__law_odd (P := P) (w := w) (base := base) T
  have G__law_says := ok__law_says (P := P) (w := w) (base := base) (m := Mem.deck) T
  have G__law_inside := ok__law_inside (P := P) (w := w) (base := base) (m := Mem.deck) T
  have G_Program___init__ := ok_Program___init__ (P := P) (w := w) (base := base) (m := Mem.deck) T
  have G_Program_modules := ok_Program_modules (P := P) (w := w) (base := base) (m := Mem.deck) T
  have G_Program_uses := ok_Program_uses (P := P) (w := w) (base := base) (m := Mem.deck) T
  have G_Program___contains__ := ok_Program___contains__ (P := P) (w := w) (base := base) (m := Mem.deck) T
  refine dfn T.f38 sc_law rfl (fun cdv A outer s0 H E En hr => ⟨_, (dss_cons (ds_set 1 sc_law.nd (de_call G__law_deck len__law_deck (hr.mono (by decide)) (by rfl) T.g26 T.f26.kp T.b26 (da_cons (dv 0) da_nil)))
      (dss_cons (ds_for rfl (di_range1 (by rfl) T.z_range (da_cons de_int da_nil)) (dg_name 2 sc_law.nd)
        (dss_cons (ds_set 3 sc_law.nd (de_call G__law_pool len__law_pool (hr.mono (by decide)) (by rfl) T.g29 T.f29.kp T.b29 (da_cons (dv 1) (da_cons de_int da_nil))))
        (dss_cons (ds_set 4 sc_law.nd (de_call G__law_modules len__law_modules (hr.mono (by decide)) (by rfl) T.g33 T.f33.kp T.b33 (da_cons (dv 1) (da_cons (dv 3) (da_cons de_int da_nil)))))
        (dss_cons (ds_set 5 sc_law.nd (de_call G__law_uses len__law_uses (hr.mono (by decide)) (by rfl) T.g34 T.f34.kp T.b34 (da_cons (dv 1) (da_cons (dv 4) (da_cons de_int da_nil)))))
        (dss_cons (ds_set 6 sc_law.nd (de_make T.M24 G_Program___init__ len_Program___init__ (hr.mono (by decide)) (by rfl) T.g24 T.b2200 (da_cons (de_callTy call_tuple_of o_tuple (by rfl) T.z_tuple (by decide +kernel) (da_cons (dv 4) da_nil)) (da_cons (de_callTy call_tuple_of o_tuple (by rfl) T.z_tuple (by decide +kernel) (da_cons (dv 5) da_nil)) da_nil))))
        (dss_cons (ds_set 7 sc_law.nd (de_ix ix_seq o_ix (de_op op_addA o_add (dv 4) (de_lst (da_cons de_str da_nil))) (de_call G__law_next len__law_next (hr.mono (by decide)) (by rfl) T.g27 T.f27.kp T.b27 (da_cons (dv 1) (da_cons (de_op op_addA o_add (de_callB (DL.CallR.or call_len call_lenD) o_len (by rfl) T.z_len (by decide +kernel) (da_cons (dv 4) da_nil)) de_int) da_nil)))))
        (dss_cons (ds_set 8 sc_law.nd (de_ix ix_seq o_ix (de_op op_addA o_add (dv 4) (de_lst (da_cons de_str da_nil))) (de_call G__law_next len__law_next (hr.mono (by decide)) (by rfl) T.g27 T.f27.kp T.b27 (da_cons (dv 1) (da_cons (de_op op_addA o_add (de_callB (DL.CallR.or call_len call_lenD) o_len (by rfl) T.z_len (by decide +kernel) (da_cons (dv 4) da_nil)) de_int) da_nil)))))
        (dss_cons (ds_set 9 sc_law.nd (de_op op_addA o_add (de_op op_addA o_add (de_op op_addA o_add (dv 4) (dv 5)) (de_lc (own := [("_law_use", 14)]) sc_law.nd (di_seq (dv 5)) (blkOk_by (N := names_law) (sc := defScope s_law) (by decide +kernel)) (fun _ _ _ _ _ => (dg_name 14 sc_law.nd)) (fun _ _ _ _ _ => dts_nil) (fun _ _ _ _ _ => (de_revT (dv 14))))) (de_lst (da_cons (de_tup (da_cons (dv 7) (da_cons (dv 8) da_nil))) (da_cons (de_tup (da_cons (dv 8) (da_cons (dv 7) da_nil))) (da_cons (de_callTy call_list_of o_list (by rfl) T.z_list (by decide +kernel) (da_cons (de_tup (da_cons (dv 7) (da_cons (dv 8) da_nil))) da_nil)) (da_cons (dv 6) da_nil)))))))
        (dss_cons (ds_set 10 sc_law.nd (de_m PySem.F.plainAttrs_str PySem.F.slot_str_split PySem.F.type_str_split mt_split o_split (dv 7) (da_cons de_str da_nil)))
        (dss_cons (ds_set 9 sc_law.nd (de_op op_addA o_add (de_op op_addA o_add (dv 9) (de_lst (da_cons (de_op op_addA o_add (dv 7) de_str) (da_cons (de_op op_addA o_add (dv 7) de_str) (da_cons (de_slice sl_all o_sl (dv 7) do_none (do_some (de_un un_neg o_neg de_int))) da_nil))))) (de_lc (own := [("_law_many", 12)]) sc_law.nd (di_range1 (by rfl) T.z_range (da_cons (de_callB (DL.CallR.or call_len call_lenD) o_len (by rfl) T.z_len (by decide +kernel) (da_cons (dv 10) da_nil)) da_nil)) (blkOk_by (N := names_law) (sc := defScope s_law) (by decide +kernel)) (fun _ _ _ _ _ => (dg_name 12 sc_law.nd)) (fun _ _ _ _ _ => dts_nil) (fun _ _ _ _ _ => (de_m PySem.F.plainAttrs_str PySem.F.slot_str_join PySem.F.type_str_join mt_join o_join de_str (da_cons (de_slice sl_all o_sl (dv 10) do_none (do_some (dv 12))) da_nil))))))
        (dss_cons (ds_set 9 sc_law.nd (de_op op_addA o_add (dv 9) (de_lst (da_cons (de_tup (da_cons (de_ix ix_seq o_ix (dv 10) de_int) (da_cons (dv 8) da_nil))) (da_cons (de_tup (da_cons (dv 7) (da_cons (dv 8) (da_cons (dv 7) da_nil)))) (da_cons (de_tup (da_cons (de_lst da_nil) (da_cons (dv 7) da_nil))) (da_cons (de_tup (da_cons (dv 7) (da_cons de_dict0 da_nil))) (da_cons (de_tup (da_cons de_non (da_cons (dv 8) da_nil))) da_nil))))))))
        (dss_cons (ds_set 9 sc_law.nd (de_op op_addA o_add (de_op op_addA o_add (dv 9) (de_lc (own := [("_law_k", 13)]) sc_law.nd (di_range1 (by rfl) T.z_range (da_cons de_int da_nil)) (blkOk_by (N := names_law) (sc := defScope s_law) (by decide +kernel)) (fun _ _ _ _ _ => (dg_name 13 sc_law.nd)) (fun _ _ _ _ _ => dts_nil) (fun _ _ _ _ _ => (de_call G__law_odd len__law_odd (hr.mono (by decide)) (by rfl) T.g35 T.f35.kp T.b35 (da_cons (dv 1) (da_cons (dv 7) da_nil)))))) (de_lc (own := [("_law_k", 13)]) sc_law.nd (di_range1 (by rfl) T.z_range (da_cons de_int da_nil)) (blkOk_by (N := names_law) (sc := defScope s_law) (by decide +kernel)) (fun _ _ _ _ _ => (dg_name 13 sc_law.nd)) (fun _ _ _ _ _ => dts_nil) (fun _ _ _ _ _ => (de_call G__law_path len__law_path (hr.mono (by decide)) (by rfl) T.g30 T.f30.kp T.b30 (da_cons (dv 1) (da_cons (dv 3) (da_cons de_int da_nil))))))))
        (dss_cons (ds_for rfl (di_seq (dv 9)) (dg_name 11 sc_law.nd)
          (dss_one (ds_if (dt_not (dt_truth (de_call G__law_says len__law_says (hr.mono (by decide)) (by rfl) T.g36 T.f36.kp T.b36 (da_cons (de_ownIn G_Program___contains__ (hr.mono (by decide)) T.b2208 T.m2208 T.n2208 (dv 11) (dv 6)) (da_cons (de_call G__law_inside len__law_inside (hr.mono (by decide)) (by rfl) T.g37 T.f37.kp T.b37 (da_cons (dv 4) (da_cons (dv 5) (da_cons (dv 11) da_nil)))) da_nil)))))
            (dss_one (ds_ret de_bl))
            dss_nil)))
        (dss_one (ds_if (PW.pt (dw_or (dt_cmp (op_neD (u64 hr)) o_ne (de_prop T.cl24.cl T.p2202 G_Program_modules (hr.mono (by decide)) T.b2202 (dv 6)) (de_callTy call_tuple_of o_tuple (by rfl) T.z_tuple (by decide +kernel) (da_cons (de_callB cr_sortT2 o_sortT (by rfl) T.z_sorted (by decide +kernel) (da_cons (dv 4) da_nil)) da_nil))) (dw_or1 (dt_cmp (op_neD (u64 hr)) o_ne (de_prop T.cl24.cl T.p2203 G_Program_uses (hr.mono (by decide)) T.b2203 (dv 6)) (de_callTy call_tuple_of o_tuple (by rfl) T.z_tuple (by decide +kernel) (da_cons (de_callB cr_sortT2 o_sortT (by rfl) T.z_sorted (by decide +kernel) (da_cons (dv 5) da_nil)) da_nil))))))
          (dss_one (ds_ret de_bl))
          dss_nil)))))))))))))))
      (dss_one (ds_ret de_bl)))), fun ds s Qd h => ?_⟩)
  exact read_law06 ds s Qd h
end
theorem all_mk {l : PySem.W.OpenLaw} {w : World} {K : PySem.W.Frag} {h : Heap} {mg : Str → Option Value} {fa : Addr} (X : K.In h) (G : h.Ns mainGlobals mg) (hfa : mg "law" = some (.ref fa))
    {f26 : Addr} {od26 an26 : Option Addr} {sl26 : Array (Option Value)} {oc26 kV26 dc26 pm26 cd26 ct26 : Value}
    (a26 : PySem.W.nsIn K mainGlobals "_law_deck" = some (some (.ref f26))) (l26 : K.lookup f26 = some ⟨oc26, od26, .func (PySem.W.fnOf "_law_deck" "_law_deck" (defArgs s__law_deck) (defBody s__law_deck) (defScope s__law_deck) .none kV26 dc26 pm26 an26 cd26 ct26), sl26⟩) (c26 : PySem.W.codeIn K cd26 "_law_deck" = true) (k26 : PySem.W.keepIn K (.ref f26) = true)
    {f27 : Addr} {od27 an27 : Option Addr} {sl27 : Array (Option Value)} {oc27 kV27 dc27 pm27 cd27 ct27 : Value}
    (a27 : PySem.W.nsIn K mainGlobals "_law_next" = some (some (.ref f27))) (l27 : K.lookup f27 = some ⟨oc27, od27, .func (PySem.W.fnOf "_law_next" "_law_next" (defArgs s__law_next) (defBody s__law_next) (defScope s__law_next) .none kV27 dc27 pm27 an27 cd27 ct27), sl27⟩) (c27 : PySem.W.codeIn K cd27 "_law_next" = true) (k27 : PySem.W.keepIn K (.ref f27) = true)
    {f28 : Addr} {od28 an28 : Option Addr} {sl28 : Array (Option Value)} {oc28 kV28 dc28 pm28 cd28 ct28 : Value}
    (a28 : PySem.W.nsIn K mainGlobals "_law_name" = some (some (.ref f28))) (l28 : K.lookup f28 = some ⟨oc28, od28, .func (PySem.W.fnOf "_law_name" "_law_name" (defArgs s__law_name) (defBody s__law_name) (defScope s__law_name) .none kV28 dc28 pm28 an28 cd28 ct28), sl28⟩) (c28 : PySem.W.codeIn K cd28 "_law_name" = true) (k28 : PySem.W.keepIn K (.ref f28) = true)
    {f29 : Addr} {od29 an29 : Option Addr} {sl29 : Array (Option Value)} {oc29 kV29 dc29 pm29 cd29 ct29 : Value}
    (a29 : PySem.W.nsIn K mainGlobals "_law_pool" = some (some (.ref f29))) (l29 : K.lookup f29 = some ⟨oc29, od29, .func (PySem.W.fnOf "_law_pool" "_law_pool" (defArgs s__law_pool) (defBody s__law_pool) (defScope s__law_pool) .none kV29 dc29 pm29 an29 cd29 ct29), sl29⟩) (c29 : PySem.W.codeIn K cd29 "_law_pool" = true) (k29 : PySem.W.keepIn K (.ref f29) = true)
    {f30 : Addr} {od30 an30 : Option Addr} {sl30 : Array (Option Value)} {oc30 kV30 dc30 pm30 cd30 ct30 : Value}
    (a30 : PySem.W.nsIn K mainGlobals "_law_path" = some (some (.ref f30))) (l30 : K.lookup f30 = some ⟨oc30, od30, .func (PySem.W.fnOf "_law_path" "_law_path" (defArgs s__law_path) (defBody s__law_path) (defScope s__law_path) .none kV30 dc30 pm30 an30 cd30 ct30), sl30⟩) (c30 : PySem.W.codeIn K cd30 "_law_path" = true) (k30 : PySem.W.keepIn K (.ref f30) = true)
    {f31 : Addr} {od31 an31 : Option Addr} {sl31 : Array (Option Value)} {oc31 kV31 dc31 pm31 cd31 ct31 : Value}
    (a31 : PySem.W.nsIn K mainGlobals "_law_covers" = some (some (.ref f31))) (l31 : K.lookup f31 = some ⟨oc31, od31, .func (PySem.W.fnOf "_law_covers" "_law_covers" (defArgs s__law_covers) (defBody s__law_covers) (defScope s__law_covers) .none kV31 dc31 pm31 an31 cd31 ct31), sl31⟩) (c31 : PySem.W.codeIn K cd31 "_law_covers" = true) (k31 : PySem.W.keepIn K (.ref f31) = true)
    {f32 : Addr} {od32 an32 : Option Addr} {sl32 : Array (Option Value)} {oc32 kV32 dc32 pm32 cd32 ct32 : Value}
    (a32 : PySem.W.nsIn K mainGlobals "_law_overlap" = some (some (.ref f32))) (l32 : K.lookup f32 = some ⟨oc32, od32, .func (PySem.W.fnOf "_law_overlap" "_law_overlap" (defArgs s__law_overlap) (defBody s__law_overlap) (defScope s__law_overlap) .none kV32 dc32 pm32 an32 cd32 ct32), sl32⟩) (c32 : PySem.W.codeIn K cd32 "_law_overlap" = true) (k32 : PySem.W.keepIn K (.ref f32) = true)
    {f33 : Addr} {od33 an33 : Option Addr} {sl33 : Array (Option Value)} {oc33 kV33 dc33 pm33 cd33 ct33 : Value}
    (a33 : PySem.W.nsIn K mainGlobals "_law_modules" = some (some (.ref f33))) (l33 : K.lookup f33 = some ⟨oc33, od33, .func (PySem.W.fnOf "_law_modules" "_law_modules" (defArgs s__law_modules) (defBody s__law_modules) (defScope s__law_modules) .none kV33 dc33 pm33 an33 cd33 ct33), sl33⟩) (c33 : PySem.W.codeIn K cd33 "_law_modules" = true) (k33 : PySem.W.keepIn K (.ref f33) = true)
    {f34 : Addr} {od34 an34 : Option Addr} {sl34 : Array (Option Value)} {oc34 kV34 dc34 pm34 cd34 ct34 : Value}
    (a34 : PySem.W.nsIn K mainGlobals "_law_uses" = some (some (.ref f34))) (l34 : K.lookup f34 = some ⟨oc34, od34, .func (PySem.W.fnOf "_law_uses" "_law_uses" (defArgs s__law_uses) (defBody s__law_uses) (defScope s__law_uses) .none kV34 dc34 pm34 an34 cd34 ct34), sl34⟩) (c34 : PySem.W.codeIn K cd34 "_law_uses" = true) (k34 : PySem.W.keepIn K (.ref f34) = true)
    {f35 : Addr} {od35 an35 : Option Addr} {sl35 : Array (Option Value)} {oc35 kV35 dc35 pm35 cd35 ct35 : Value}
    (a35 : PySem.W.nsIn K mainGlobals "_law_odd" = some (some (.ref f35))) (l35 : K.lookup f35 = some ⟨oc35, od35, .func (PySem.W.fnOf "_law_odd" "_law_odd" (defArgs s__law_odd) (defBody s__law_odd) (defScope s__law_odd) .none kV35 dc35 pm35 an35 cd35 ct35), sl35⟩) (c35 : PySem.W.codeIn K cd35 "_law_odd" = true) (k35 : PySem.W.keepIn K (.ref f35) = true)
    {f36 : Addr} {od36 an36 : Option Addr} {sl36 : Array (Option Value)} {oc36 kV36 dc36 pm36 cd36 ct36 : Value}
    (a36 : PySem.W.nsIn K mainGlobals "_law_says" = some (some (.ref f36))) (l36 : K.lookup f36 = some ⟨oc36, od36, .func (PySem.W.fnOf "_law_says" "_law_says" (defArgs s__law_says) (defBody s__law_says) (defScope s__law_says) .none kV36 dc36 pm36 an36 cd36 ct36), sl36⟩) (c36 : PySem.W.codeIn K cd36 "_law_says" = true) (k36 : PySem.W.keepIn K (.ref f36) = true)
    {f37 : Addr} {od37 an37 : Option Addr} {sl37 : Array (Option Value)} {oc37 kV37 dc37 pm37 cd37 ct37 : Value}
    (a37 : PySem.W.nsIn K mainGlobals "_law_inside" = some (some (.ref f37))) (l37 : K.lookup f37 = some ⟨oc37, od37, .func (PySem.W.fnOf "_law_inside" "_law_inside" (defArgs s__law_inside) (defBody s__law_inside) (defScope s__law_inside) .none kV37 dc37 pm37 an37 cd37 ct37), sl37⟩) (c37 : PySem.W.codeIn K cd37 "_law_inside" = true) (k37 : PySem.W.keepIn K (.ref f37) = true)
    {f12 : Addr} {od12 an12 : Option Addr} {sl12 : Array (Option Value)} {oc12 kV12 dc12 pm12 cd12 ct12 : Value}
    (a12 : PySem.W.nsIn K mainGlobals "_is_name" = some (some (.ref f12))) (l12 : K.lookup f12 = some ⟨oc12, od12, .func (PySem.W.fnOf "_is_name" "_is_name" (defArgs s__is_name) (defBody s__is_name) (defScope s__is_name) .none kV12 dc12 pm12 an12 cd12 ct12), sl12⟩) (c12 : PySem.W.codeIn K cd12 "_is_name" = true) (k12 : PySem.W.keepIn K (.ref f12) = true)
    {f13 : Addr} {od13 an13 : Option Addr} {sl13 : Array (Option Value)} {oc13 kV13 dc13 pm13 cd13 ct13 : Value}
    (a13 : PySem.W.nsIn K mainGlobals "is_path" = some (some (.ref f13))) (l13 : K.lookup f13 = some ⟨oc13, od13, .func (PySem.W.fnOf "is_path" "is_path" (defArgs s_is_path) (defBody s_is_path) (defScope s_is_path) .none kV13 dc13 pm13 an13 cd13 ct13), sl13⟩) (c13 : PySem.W.codeIn K cd13 "is_path" = true) (k13 : PySem.W.keepIn K (.ref f13) = true)
    {f14 : Addr} {od14 an14 : Option Addr} {sl14 : Array (Option Value)} {oc14 kV14 dc14 pm14 cd14 ct14 : Value}
    (a14 : PySem.W.nsIn K mainGlobals "covers" = some (some (.ref f14))) (l14 : K.lookup f14 = some ⟨oc14, od14, .func (PySem.W.fnOf "covers" "covers" (defArgs s_covers) (defBody s_covers) (defScope s_covers) .none kV14 dc14 pm14 an14 cd14 ct14), sl14⟩) (c14 : PySem.W.codeIn K cd14 "covers" = true) (k14 : PySem.W.keepIn K (.ref f14) = true)
    {f15 : Addr} {od15 an15 : Option Addr} {sl15 : Array (Option Value)} {oc15 kV15 dc15 pm15 cd15 ct15 : Value}
    (a15 : PySem.W.nsIn K mainGlobals "overlap" = some (some (.ref f15))) (l15 : K.lookup f15 = some ⟨oc15, od15, .func (PySem.W.fnOf "overlap" "overlap" (defArgs s_overlap) (defBody s_overlap) (defScope s_overlap) .none kV15 dc15 pm15 an15 cd15 ct15), sl15⟩) (c15 : PySem.W.codeIn K cd15 "overlap" = true) (k15 : PySem.W.keepIn K (.ref f15) = true)
    {f20 : Addr} {od20 an20 : Option Addr} {sl20 : Array (Option Value)} {oc20 kV20 dc20 pm20 cd20 ct20 : Value}
    (a20 : PySem.W.nsIn K mainGlobals "_modules_error" = some (some (.ref f20))) (l20 : K.lookup f20 = some ⟨oc20, od20, .func (PySem.W.fnOf "_modules_error" "_modules_error" (defArgs s__modules_error) (defBody s__modules_error) (defScope s__modules_error) .none kV20 dc20 pm20 an20 cd20 ct20), sl20⟩) (c20 : PySem.W.codeIn K cd20 "_modules_error" = true) (k20 : PySem.W.keepIn K (.ref f20) = true)
    {f18 : Addr} {od18 an18 : Option Addr} {sl18 : Array (Option Value)} {oc18 kV18 dc18 pm18 cd18 ct18 : Value}
    (a18 : PySem.W.nsIn K mainGlobals "_is_pair_of" = some (some (.ref f18))) (l18 : K.lookup f18 = some ⟨oc18, od18, .func (PySem.W.fnOf "_is_pair_of" "_is_pair_of" (defArgs s__is_pair_of) (defBody s__is_pair_of) (defScope s__is_pair_of) .none kV18 dc18 pm18 an18 cd18 ct18), sl18⟩) (c18 : PySem.W.codeIn K cd18 "_is_pair_of" = true) (k18 : PySem.W.keepIn K (.ref f18) = true)
    {f21 : Addr} {od21 an21 : Option Addr} {sl21 : Array (Option Value)} {oc21 kV21 dc21 pm21 cd21 ct21 : Value}
    (a21 : PySem.W.nsIn K mainGlobals "_uses_error" = some (some (.ref f21))) (l21 : K.lookup f21 = some ⟨oc21, od21, .func (PySem.W.fnOf "_uses_error" "_uses_error" (defArgs s__uses_error) (defBody s__uses_error) (defScope s__uses_error) .none kV21 dc21 pm21 an21 cd21 ct21), sl21⟩) (c21 : PySem.W.codeIn K cd21 "_uses_error" = true) (k21 : PySem.W.keepIn K (.ref f21) = true)
    {f22 : Addr} {od22 an22 : Option Addr} {sl22 : Array (Option Value)} {oc22 kV22 dc22 pm22 cd22 ct22 : Value}
    (a22 : PySem.W.nsIn K mainGlobals "program_error" = some (some (.ref f22))) (l22 : K.lookup f22 = some ⟨oc22, od22, .func (PySem.W.fnOf "program_error" "program_error" (defArgs s_program_error) (defBody s_program_error) (defScope s_program_error) .none kV22 dc22 pm22 an22 cd22 ct22), sl22⟩) (c22 : PySem.W.codeIn K cd22 "program_error" = true) (k22 : PySem.W.keepIn K (.ref f22) = true)
    {f16 : Addr} {od16 an16 : Option Addr} {sl16 : Array (Option Value)} {oc16 kV16 dc16 pm16 cd16 ct16 : Value}
    (a16 : PySem.W.nsIn K mainGlobals "parent" = some (some (.ref f16))) (l16 : K.lookup f16 = some ⟨oc16, od16, .func (PySem.W.fnOf "parent" "parent" (defArgs s_parent) (defBody s_parent) (defScope s_parent) .none kV16 dc16 pm16 an16 cd16 ct16), sl16⟩) (c16 : PySem.W.codeIn K cd16 "parent" = true) (k16 : PySem.W.keepIn K (.ref f16) = true)
    {f23 : Addr} {od23 an23 : Option Addr} {sl23 : Array (Option Value)} {oc23 kV23 dc23 pm23 cd23 ct23 : Value}
    (a23 : PySem.W.nsIn K mainGlobals "_parts" = some (some (.ref f23))) (l23 : K.lookup f23 = some ⟨oc23, od23, .func (PySem.W.fnOf "_parts" "_parts" (defArgs s__parts) (defBody s__parts) (defScope s__parts) .none kV23 dc23 pm23 an23 cd23 ct23), sl23⟩) (c23 : PySem.W.codeIn K cd23 "_parts" = true) (k23 : PySem.W.keepIn K (.ref f23) = true)
    {f2200 : Addr} {od2200 an2200 : Option Addr} {sl2200 : Array (Option Value)} {oc2200 kV2200 dc2200 pm2200 cd2200 ct2200 : Value}
    (l2200 : K.lookup f2200 = some ⟨oc2200, od2200, .func (PySem.W.fnOf "__init__" "Program.__init__" (defArgs s_Program___init__) (defBody s_Program___init__) (defScope s_Program___init__) .none kV2200 dc2200 pm2200 an2200 cd2200 ct2200), sl2200⟩) (c2200 : PySem.W.codeIn K cd2200 "Program.__init__" = true) (k2200 : PySem.W.keepIn K (.ref f2200) = true)
    {f2202 : Addr} {od2202 an2202 : Option Addr} {sl2202 : Array (Option Value)} {oc2202 kV2202 dc2202 pm2202 cd2202 ct2202 : Value}
    (l2202 : K.lookup f2202 = some ⟨oc2202, od2202, .func (PySem.W.fnOf "modules" "Program.modules" (defArgs s_Program_modules) (defBody s_Program_modules) (defScope s_Program_modules) .none kV2202 dc2202 pm2202 an2202 cd2202 ct2202), sl2202⟩) (c2202 : PySem.W.codeIn K cd2202 "Program.modules" = true) (k2202 : PySem.W.keepIn K (.ref f2202) = true)
    {f2203 : Addr} {od2203 an2203 : Option Addr} {sl2203 : Array (Option Value)} {oc2203 kV2203 dc2203 pm2203 cd2203 ct2203 : Value}
    (l2203 : K.lookup f2203 = some ⟨oc2203, od2203, .func (PySem.W.fnOf "uses" "Program.uses" (defArgs s_Program_uses) (defBody s_Program_uses) (defScope s_Program_uses) .none kV2203 dc2203 pm2203 an2203 cd2203 ct2203), sl2203⟩) (c2203 : PySem.W.codeIn K cd2203 "Program.uses" = true) (k2203 : PySem.W.keepIn K (.ref f2203) = true)
    {f2209 : Addr} {od2209 an2209 : Option Addr} {sl2209 : Array (Option Value)} {oc2209 kV2209 dc2209 pm2209 cd2209 ct2209 : Value}
    (l2209 : K.lookup f2209 = some ⟨oc2209, od2209, .func (PySem.W.fnOf "__eq__" "Program.__eq__" (defArgs s_Program___eq__) (defBody s_Program___eq__) (defScope s_Program___eq__) .none kV2209 dc2209 pm2209 an2209 cd2209 ct2209), sl2209⟩) (c2209 : PySem.W.codeIn K cd2209 "Program.__eq__" = true) (k2209 : PySem.W.keepIn K (.ref f2209) = true)
    {f2208 : Addr} {od2208 an2208 : Option Addr} {sl2208 : Array (Option Value)} {oc2208 kV2208 dc2208 pm2208 cd2208 ct2208 : Value}
    (l2208 : K.lookup f2208 = some ⟨oc2208, od2208, .func (PySem.W.fnOf "__contains__" "Program.__contains__" (defArgs s_Program___contains__) (defBody s_Program___contains__) (defScope s_Program___contains__) .none kV2208 dc2208 pm2208 an2208 cd2208 ct2208), sl2208⟩) (c2208 : PySem.W.codeIn K cd2208 "Program.__contains__" = true) (k2208 : PySem.W.keepIn K (.ref f2208) = true)
    {f38 : Addr} {od38 an38 : Option Addr} {sl38 : Array (Option Value)} {oc38 kV38 dc38 pm38 cd38 ct38 : Value}
    (a38 : PySem.W.nsIn K mainGlobals "law" = some (some (.ref f38))) (l38 : K.lookup f38 = some ⟨oc38, od38, .func (PySem.W.fnOf "law" "law" (defArgs s_law) (defBody s_law) (defScope s_law) .none kV38 dc38 pm38 an38 cd38 ct38), sl38⟩) (c38 : PySem.W.codeIn K cd38 "law" = true) (k38 : PySem.W.keepIn K (.ref f38) = true)
    {f24 : Addr} (a24 : PySem.W.nsIn K mainGlobals "Program" = some (some (.ref f24))) (kow24 : ownB K f24 = true)
    (kmk24 : PySem.W.makesIn K f24 = true) (i24 : PySem.W.findIn K (.ref f24) "__init__" = some (some (.ref f2200))) (kfn24 : PySem.W.isFn K (.ref f2200) = true) (kkp24 : PySem.W.keepIn K (.ref f24) = true)
    (kpg24 : PySem.W.plainGet K f24 Str.empty = true) (khd24 : PySem.W.hasDictIn K f24 = true) (kpo24 : PySem.W.plainOver K f24 = true) (ksa24 : PySem.W.findIn K (.ref f24) "__setattr__" = some (some (.builtin "object.__setattr__")))
    (kha24 : PySem.W.findIn K (.ref f24) "__class__" = some (some (.builtin "object.__class__"))) (khn24 : PySem.W.specialIn K (.builtin "object.__class__") "__get__" = some (some (.builtin "getset_descriptor.__get__"))) (kht24 : PySem.W.takesIn K (.builtin "object.__class__") = some true) (khm24 : PySem.W.mroIn K f24 (.type "object") = some true) (kno24 : PySem.W.kitOne K (.ref f24) (.type "tuple") = some false)
    (kns24 : PySem.W.subIn K (.ref f24) (.type "str") = some false) (knt24 : PySem.W.subIn K (.ref f24) (.type "tuple") = some false) (knu24 : PySem.W.kitOne K (.ref f24) (.type "str") = some false)
    {q2202 : Addr} {re2202 : List Value} (kpa2202 : PySem.W.findIn K (.ref f24) "modules" = some (some (.ref q2202))) (kpb2202 : PySem.W.specialIn K (.ref q2202) "__get__" = some (some (.builtin "property.__get__"))) (kpc2202 : PySem.W.takesIn K (.ref q2202) = some true) (kpd2202 : PySem.W.recIn K q2202 "property" = some (.ref f2202 :: re2202))
    {q2203 : Addr} {re2203 : List Value} (kpa2203 : PySem.W.findIn K (.ref f24) "uses" = some (some (.ref q2203))) (kpb2203 : PySem.W.specialIn K (.ref q2203) "__get__" = some (some (.builtin "property.__get__"))) (kpc2203 : PySem.W.takesIn K (.ref q2203) = some true) (kpd2203 : PySem.W.recIn K q2203 "property" = some (.ref f2203 :: re2203))
    (km2209 : PySem.W.findIn K (.ref f24) "__eq__" = some (some (.ref f2209))) (kn2209 : PySem.W.isFn K (.ref f2209) = true)
    (km2208 : PySem.W.findIn K (.ref f24) "__contains__" = some (some (.ref f2208))) (kn2208 : PySem.W.isFn K (.ref f2208) = true)
    (kna24_modules : PySem.W.findIn K (.ref f24) "_modules" = some none)
    (kna24_parts : PySem.W.findIn K (.ref f24) "_parts" = some none)
    (kna24_uses : PySem.W.findIn K (.ref f24) "_uses" = some none)
    (z_abs : PySem.W.nsIn K mainGlobals "abs" = some none)
    (z_all : PySem.W.nsIn K mainGlobals "all" = some none)
    (z_any : PySem.W.nsIn K mainGlobals "any" = some none)
    (z_bool : PySem.W.nsIn K mainGlobals "bool" = some none)
    (z_enumerate : PySem.W.nsIn K mainGlobals "enumerate" = some none)
    (z_int : PySem.W.nsIn K mainGlobals "int" = some none)
    (z_isinstance : PySem.W.nsIn K mainGlobals "isinstance" = some none)
    (z_len : PySem.W.nsIn K mainGlobals "len" = some none)
    (z_list : PySem.W.nsIn K mainGlobals "list" = some none)
    (z_min : PySem.W.nsIn K mainGlobals "min" = some none)
    (z_range : PySem.W.nsIn K mainGlobals "range" = some none)
    (z_set : PySem.W.nsIn K mainGlobals "set" = some none)
    (z_sorted : PySem.W.nsIn K mainGlobals "sorted" = some none)
    (z_str : PySem.W.nsIn K mainGlobals "str" = some none)
    (z_tuple : PySem.W.nsIn K mainGlobals "tuple" = some none)
    {t_MAX_MODULES : Tok} (c_MAX_MODULES : PySem.W.nsIn K mainGlobals "MAX_MODULES" = some (some (.int 24 t_MAX_MODULES)))
    {t_MAX_NAMES : Tok} (c_MAX_NAMES : PySem.W.nsIn K mainGlobals "MAX_NAMES" = some (some (.int 6 t_MAX_NAMES)))
    {t_MAX_USES : Tok} (c_MAX_USES : PySem.W.nsIn K mainGlobals "MAX_USES" = some (some (.int 200 t_MAX_USES)))
    {t__MAX_LETTERS : Tok} (c__MAX_LETTERS : PySem.W.nsIn K mainGlobals "_MAX_LETTERS" = some (some (.int 8 t__MAX_LETTERS)))
    : ∃ fd : FuncData, (∀ (s : Shared) (v : Value), BindsTo s fd ⟨[v], []⟩ [("_law_script", v)]) ∧ ∀ base : Heap, K.In base → base.Ns mainGlobals mg → (∃ o, base.get? sysModules = some o) → FnG l.prog w K mg base CX0 10 fa fd ["_law_script"] (lift K Mem.deck 1 spLaw) := by
  have eL := hfa.symm.trans (PySem.W.mg_of X G a38)
  cases eL
  have F26 := fun_mk (st := s__law_deck) l26 c26 k26
  have b26 := F26.binds (ps := ["_law_script"]) fun _ _ _ _ _ _ us hl => match us, hl with | [_], _ => rfl
  have F27 := fun_mk (st := s__law_next) l27 c27 k27
  have b27 := F27.binds (ps := ["_law_deck_here", "_law_many"]) fun _ _ _ _ _ _ us hl => match us, hl with | [_, _], _ => rfl
  have F28 := fun_mk (st := s__law_name) l28 c28 k28
  have b28 := F28.binds (ps := ["_law_deck_here"]) fun _ _ _ _ _ _ us hl => match us, hl with | [_], _ => rfl
  have F29 := fun_mk (st := s__law_pool) l29 c29 k29
  have b29 := F29.binds (ps := ["_law_deck_here", "_law_many"]) fun _ _ _ _ _ _ us hl => match us, hl with | [_, _], _ => rfl
  have F30 := fun_mk (st := s__law_path) l30 c30 k30
  have b30 := F30.binds (ps := ["_law_deck_here", "_law_pool_here", "_law_most"]) fun _ _ _ _ _ _ us hl => match us, hl with | [_, _, _], _ => rfl
  have F31 := fun_mk (st := s__law_covers) l31 c31 k31
  have b31 := F31.binds (ps := ["_law_path_here", "_law_other"]) fun _ _ _ _ _ _ us hl => match us, hl with | [_, _], _ => rfl
  have F32 := fun_mk (st := s__law_overlap) l32 c32 k32
  have b32 := F32.binds (ps := ["_law_path_here", "_law_other"]) fun _ _ _ _ _ _ us hl => match us, hl with | [_, _], _ => rfl
  have F33 := fun_mk (st := s__law_modules) l33 c33 k33
  have b33 := F33.binds (ps := ["_law_deck_here", "_law_pool_here", "_law_most"]) fun _ _ _ _ _ _ us hl => match us, hl with | [_, _, _], _ => rfl
  have F34 := fun_mk (st := s__law_uses) l34 c34 k34
  have b34 := F34.binds (ps := ["_law_deck_here", "_law_modules_here", "_law_most"]) fun _ _ _ _ _ _ us hl => match us, hl with | [_, _, _], _ => rfl
  have F35 := fun_mk (st := s__law_odd) l35 c35 k35
  have b35 := F35.binds (ps := ["_law_deck_here", "_law_path_here"]) fun _ _ _ _ _ _ us hl => match us, hl with | [_, _], _ => rfl
  have F36 := fun_mk (st := s__law_says) l36 c36 k36
  have b36 := F36.binds (ps := ["_law_found", "_law_due"]) fun _ _ _ _ _ _ us hl => match us, hl with | [_, _], _ => rfl
  have F37 := fun_mk (st := s__law_inside) l37 c37 k37
  have b37 := F37.binds (ps := ["_law_modules_here", "_law_uses_here", "_law_value"]) fun _ _ _ _ _ _ us hl => match us, hl with | [_, _, _], _ => rfl
  have F12 := fun_mk (st := s__is_name) l12 c12 k12
  have b12 := F12.binds (ps := ["text"]) fun _ _ _ _ _ _ us hl => match us, hl with | [_], _ => rfl
  have F13 := fun_mk (st := s_is_path) l13 c13 k13
  have b13 := F13.binds (ps := ["value"]) fun _ _ _ _ _ _ us hl => match us, hl with | [_], _ => rfl
  have F14 := fun_mk (st := s_covers) l14 c14 k14
  have b14 := F14.binds (ps := ["path", "other"]) fun _ _ _ _ _ _ us hl => match us, hl with | [_, _], _ => rfl
  have F15 := fun_mk (st := s_overlap) l15 c15 k15
  have b15 := F15.binds (ps := ["path", "other"]) fun _ _ _ _ _ _ us hl => match us, hl with | [_, _], _ => rfl
  have F20 := fun_mk (st := s__modules_error) l20 c20 k20
  have b20 := F20.binds (ps := ["modules"]) fun _ _ _ _ _ _ us hl => match us, hl with | [_], _ => rfl
  have F18 := fun_mk (st := s__is_pair_of) l18 c18 k18
  have b18 := F18.binds (ps := ["value", "modules"]) fun _ _ _ _ _ _ us hl => match us, hl with | [_, _], _ => rfl
  have F21 := fun_mk (st := s__uses_error) l21 c21 k21
  have b21 := F21.binds (ps := ["modules", "uses"]) fun _ _ _ _ _ _ us hl => match us, hl with | [_, _], _ => rfl
  have F22 := fun_mk (st := s_program_error) l22 c22 k22
  have b22 := F22.binds (ps := ["modules", "uses"]) fun _ _ _ _ _ _ us hl => match us, hl with | [_, _], _ => rfl
  have F16 := fun_mk (st := s_parent) l16 c16 k16
  have b16 := F16.binds (ps := ["path"]) fun _ _ _ _ _ _ us hl => match us, hl with | [_], _ => rfl
  have F23 := fun_mk (st := s__parts) l23 c23 k23
  have b23 := F23.binds (ps := ["modules"]) fun _ _ _ _ _ _ us hl => match us, hl with | [_], _ => rfl
  have F2200 := fun_mk (st := s_Program___init__) l2200 c2200 k2200
  have b2200 := F2200.binds (ps := ["self", "modules", "uses"]) fun _ _ _ _ _ _ us hl => match us, hl with | [_, _, _], _ => rfl
  have F2202 := fun_mk (st := s_Program_modules) l2202 c2202 k2202
  have b2202 := F2202.binds (ps := ["self"]) fun _ _ _ _ _ _ us hl => match us, hl with | [_], _ => rfl
  have F2203 := fun_mk (st := s_Program_uses) l2203 c2203 k2203
  have b2203 := F2203.binds (ps := ["self"]) fun _ _ _ _ _ _ us hl => match us, hl with | [_], _ => rfl
  have F2209 := fun_mk (st := s_Program___eq__) l2209 c2209 k2209
  have b2209 := F2209.binds (ps := ["self", "other"]) fun _ _ _ _ _ _ us hl => match us, hl with | [_, _], _ => rfl
  have F2208 := fun_mk (st := s_Program___contains__) l2208 c2208 k2208
  have b2208 := F2208.binds (ps := ["self", "value"]) fun _ _ _ _ _ _ us hl => match us, hl with | [_, _], _ => rfl
  have F38 := fun_mk (st := s_law) l38 c38 k38
  have b38 := F38.binds (ps := ["_law_script"]) fun _ _ _ _ _ _ us hl => match us, hl with | [_], _ => rfl
  have T : ∀ base : Heap, (∃ o, base.get? sysModules = some o) → Tx w K mg base (fun i => if i = 26 then f26 else if i = 27 then f27 else if i = 28 then f28 else if i = 29 then f29 else if i = 30 then f30 else if i = 31 then f31 else if i = 32 then f32 else if i = 33 then f33 else if i = 34 then f34 else if i = 35 then f35 else if i = 36 then f36 else if i = 37 then f37 else if i = 12 then f12 else if i = 13 then f13 else if i = 14 then f14 else if i = 15 then f15 else if i = 20 then f20 else if i = 18 then f18 else if i = 21 then f21 else if i = 22 then f22 else if i = 16 then f16 else if i = 23 then f23 else if i = 2200 then f2200 else if i = 2202 then f2202 else if i = 2203 then f2203 else if i = 2209 then f2209 else if i = 2208 then f2208 else if i = 38 then fa else if i = 24 then f24 else 0) (fun i => if i = 26 then PySem.W.fnOf "_law_deck" "_law_deck" (defArgs s__law_deck) (defBody s__law_deck) (defScope s__law_deck) .none kV26 dc26 pm26 an26 cd26 ct26 else if i = 27 then PySem.W.fnOf "_law_next" "_law_next" (defArgs s__law_next) (defBody s__law_next) (defScope s__law_next) .none kV27 dc27 pm27 an27 cd27 ct27 else if i = 28 then PySem.W.fnOf "_law_name" "_law_name" (defArgs s__law_name) (defBody s__law_name) (defScope s__law_name) .none kV28 dc28 pm28 an28 cd28 ct28 else if i = 29 then PySem.W.fnOf "_law_pool" "_law_pool" (defArgs s__law_pool) (defBody s__law_pool) (defScope s__law_pool) .none kV29 dc29 pm29 an29 cd29 ct29 else if i = 30 then PySem.W.fnOf "_law_path" "_law_path" (defArgs s__law_path) (defBody s__law_path) (defScope s__law_path) .none kV30 dc30 pm30 an30 cd30 ct30 else if i = 31 then PySem.W.fnOf "_law_covers" "_law_covers" (defArgs s__law_covers) (defBody s__law_covers) (defScope s__law_covers) .none kV31 dc31 pm31 an31 cd31 ct31 else if i = 32 then PySem.W.fnOf "_law_overlap" "_law_overlap" (defArgs s__law_overlap) (defBody s__law_overlap) (defScope s__law_overlap) .none kV32 dc32 pm32 an32 cd32 ct32 else if i = 33 then PySem.W.fnOf "_law_modules" "_law_modules" (defArgs s__law_modules) (defBody s__law_modules) (defScope s__law_modules) .none kV33 dc33 pm33 an33 cd33 ct33 else if i = 34 then PySem.W.fnOf "_law_uses" "_law_uses" (defArgs s__law_uses) (defBody s__law_uses) (defScope s__law_uses) .none kV34 dc34 pm34 an34 cd34 ct34 else if i = 35 then PySem.W.fnOf "_law_odd" "_law_odd" (defArgs s__law_odd) (defBody s__law_odd) (defScope s__law_odd) .none kV35 dc35 pm35 an35 cd35 ct35 else if i = 36 then PySem.W.fnOf "_law_says" "_law_says" (defArgs s__law_says) (defBody s__law_says) (defScope s__law_says) .none kV36 dc36 pm36 an36 cd36 ct36 else if i = 37 then PySem.W.fnOf "_law_inside" "_law_inside" (defArgs s__law_inside) (defBody s__law_inside) (defScope s__law_inside) .none kV37 dc37 pm37 an37 cd37 ct37 else if i = 12 then PySem.W.fnOf "_is_name" "_is_name" (defArgs s__is_name) (defBody s__is_name) (defScope s__is_name) .none kV12 dc12 pm12 an12 cd12 ct12 else if i = 13 then PySem.W.fnOf "is_path" "is_path" (defArgs s_is_path) (defBody s_is_path) (defScope s_is_path) .none kV13 dc13 pm13 an13 cd13 ct13 else if i = 14 then PySem.W.fnOf "covers" "covers" (defArgs s_covers) (defBody s_covers) (defScope s_covers) .none kV14 dc14 pm14 an14 cd14 ct14 else if i = 15 then PySem.W.fnOf "overlap" "overlap" (defArgs s_overlap) (defBody s_overlap) (defScope s_overlap) .none kV15 dc15 pm15 an15 cd15 ct15 else if i = 20 then PySem.W.fnOf "_modules_error" "_modules_error" (defArgs s__modules_error) (defBody s__modules_error) (defScope s__modules_error) .none kV20 dc20 pm20 an20 cd20 ct20 else if i = 18 then PySem.W.fnOf "_is_pair_of" "_is_pair_of" (defArgs s__is_pair_of) (defBody s__is_pair_of) (defScope s__is_pair_of) .none kV18 dc18 pm18 an18 cd18 ct18 else if i = 21 then PySem.W.fnOf "_uses_error" "_uses_error" (defArgs s__uses_error) (defBody s__uses_error) (defScope s__uses_error) .none kV21 dc21 pm21 an21 cd21 ct21 else if i = 22 then PySem.W.fnOf "program_error" "program_error" (defArgs s_program_error) (defBody s_program_error) (defScope s_program_error) .none kV22 dc22 pm22 an22 cd22 ct22 else if i = 16 then PySem.W.fnOf "parent" "parent" (defArgs s_parent) (defBody s_parent) (defScope s_parent) .none kV16 dc16 pm16 an16 cd16 ct16 else if i = 23 then PySem.W.fnOf "_parts" "_parts" (defArgs s__parts) (defBody s__parts) (defScope s__parts) .none kV23 dc23 pm23 an23 cd23 ct23 else if i = 2200 then PySem.W.fnOf "__init__" "Program.__init__" (defArgs s_Program___init__) (defBody s_Program___init__) (defScope s_Program___init__) .none kV2200 dc2200 pm2200 an2200 cd2200 ct2200 else if i = 2202 then PySem.W.fnOf "modules" "Program.modules" (defArgs s_Program_modules) (defBody s_Program_modules) (defScope s_Program_modules) .none kV2202 dc2202 pm2202 an2202 cd2202 ct2202 else if i = 2203 then PySem.W.fnOf "uses" "Program.uses" (defArgs s_Program_uses) (defBody s_Program_uses) (defScope s_Program_uses) .none kV2203 dc2203 pm2203 an2203 cd2203 ct2203 else if i = 2209 then PySem.W.fnOf "__eq__" "Program.__eq__" (defArgs s_Program___eq__) (defBody s_Program___eq__) (defScope s_Program___eq__) .none kV2209 dc2209 pm2209 an2209 cd2209 ct2209 else if i = 2208 then PySem.W.fnOf "__contains__" "Program.__contains__" (defArgs s_Program___contains__) (defBody s_Program___contains__) (defScope s_Program___contains__) .none kV2208 dc2208 pm2208 an2208 cd2208 ct2208 else if i = 38 then PySem.W.fnOf "law" "law" (defArgs s_law) (defBody s_law) (defScope s_law) .none kV38 dc38 pm38 an38 cd38 ct38 else PySem.W.fnOf "" "" (defArgs (topS 0)) [] (defScope (topS 0)) .none .none .none .none none .none .none) (fun i => if i = 2202 then q2202 else if i = 2203 then q2203 else 0) (fun i => PySem.W.fnOf "" "" (defArgs (topS 0)) [] (defScope (topS 0)) .none .none .none .none none .none .none) := fun base hsys => ⟨F26, PySem.W.mg_of X G a26, b26, F27, PySem.W.mg_of X G a27, b27, F28, PySem.W.mg_of X G a28, b28, F29, PySem.W.mg_of X G a29, b29, F30, PySem.W.mg_of X G a30, b30, F31, PySem.W.mg_of X G a31, b31, F32, PySem.W.mg_of X G a32, b32, F33, PySem.W.mg_of X G a33, b33, F34, PySem.W.mg_of X G a34, b34, F35, PySem.W.mg_of X G a35, b35, F36, PySem.W.mg_of X G a36, b36, F37, PySem.W.mg_of X G a37, b37, F12, PySem.W.mg_of X G a12, b12, F13, PySem.W.mg_of X G a13, b13, F14, PySem.W.mg_of X G a14, b14, F15, PySem.W.mg_of X G a15, b15, F20, PySem.W.mg_of X G a20, b20, F18, PySem.W.mg_of X G a18, b18, F21, PySem.W.mg_of X G a21, b21, F22, PySem.W.mg_of X G a22, b22, F16, PySem.W.mg_of X G a16, b16, F23, PySem.W.mg_of X G a23, b23, F2200, b2200, F2202, b2202, F2203, b2203, F2209, b2209, F2208, b2208, F38, PySem.W.mg_of X G a38, b38, PySem.W.mg_of X G a24, ⟨kmk24, i24, kfn24, kkp24⟩, ⟨⟨kpg24, khd24, kpo24, ksa24⟩, kha24, khn24, kht24, khm24, kno24⟩, ownC_of kow24, ⟨kns24, knt24, knu24⟩, propOf_mk kpa2202 kpb2202 kpc2202 kpd2202, propOf_mk kpa2203 kpb2203 kpc2203 kpd2203, km2209, kn2209, km2208, kn2208, kna24_modules, kna24_parts, kna24_uses, PySem.W.mg_none_of X G z_abs, PySem.W.mg_none_of X G z_all, PySem.W.mg_none_of X G z_any, PySem.W.mg_none_of X G z_bool, PySem.W.mg_none_of X G z_enumerate, PySem.W.mg_none_of X G z_int, PySem.W.mg_none_of X G z_isinstance, PySem.W.mg_none_of X G z_len, PySem.W.mg_none_of X G z_list, PySem.W.mg_none_of X G z_min, PySem.W.mg_none_of X G z_range, PySem.W.mg_none_of X G z_set, PySem.W.mg_none_of X G z_sorted, PySem.W.mg_none_of X G z_str, PySem.W.mg_none_of X G z_tuple, ⟨t_MAX_MODULES, PySem.W.mg_of X G c_MAX_MODULES⟩, ⟨t_MAX_NAMES, PySem.W.mg_of X G c_MAX_NAMES⟩, ⟨t_MAX_USES, PySem.W.mg_of X G c_MAX_USES⟩, ⟨t__MAX_LETTERS, PySem.W.mg_of X G c__MAX_LETTERS⟩⟩
  exact ⟨PySem.W.fnOf "law" "law" (defArgs s_law) (defBody s_law) (defScope s_law) .none kV38 dc38 pm38 an38 cd38 ct38, fun s v => .of_eq rfl, fun base _ _ hsys => ok_law (P := l.prog) (w := w) (base := base) (T base hsys)⟩
end K06

set_option Elab.async false
set_option linter.all false
set_option maxRecDepth 100000
set_option maxHeartbeats 2000000
/-! HX1: what the top leaves, asked once: a list of questions with a yes, the defs' texts, the tables' keys -/
namespace HX
open PySem PySem.Spec PyProof.Rows L2 DL
abbrev Fr := PySem.W.Frag
/-- the text of the def at f -/
def txt (K : Fr) (f : Addr) : He.FnW := (K.lookup f).bind fun o => match o with
  | ⟨_, _, .func d, _⟩ => some (d.name, d.qualname, d.params, d.body, d.scope, d.globals, d.closure, d.builtins)
  | _ => none
/-- its defaults: none; one keyword; one place -/
inductive Dfl where
  | no
  | kw (x : Str) (b : Bool)
  | at_ (b : Bool)
def dflOk (K : Fr) (dV kV : Value) : Dfl → Bool
  | .no => (match dV with | .none => true | _ => false)
  | .kw x b => (match dV, kV with
    | .none, .ref D => decide (PySem.W.nsIn K D x = some (some (.bool b)))
    | _, _ => false)
  | .at_ b => (match dV with
    | .ref T => (match K.lookup T with
      | some ⟨.type c, _, .seq its _, _⟩ => decide (c = "tuple") && decide (its = #[.bool b])
      | _ => false)
    | _ => false)
def okFn (K : Fr) (f : Addr) (q : Str) (k : Dfl) : Bool := PySem.W.keepIn K (.ref f) && (match K.lookup f with
  | some ⟨_, _, .func d, _⟩ => PySem.W.codeIn K d.code q && dflOk K d.defaults d.kwdefaults k
  | _ => false)
abbrev the (n q : Str) (st : Stmt) : He.FnW := some (n, q, defArgs st, .stmts (defBody st), defScope st, mainGlobals, [], builtinsNs)
theorem fn_any {K : Fr} {f : Addr} {n q : Str} {st : Stmt} {k : Dfl} (e : txt K f = the n q st) (c : okFn K f q k = true) : ∃ oc od sl dV kV dc pm an cd ct,
    K.lookup f = some ⟨oc, od, .func (PySem.W.fnOf n q (defArgs st) (defBody st) (defScope st) dV kV dc pm an cd ct), sl⟩ ∧ PySem.W.codeIn K cd q = true ∧ PySem.W.keepIn K (.ref f) = true ∧ dflOk K dV kV k = true := by
  obtain ⟨kp, c⟩ := Bool.and_eq_true_iff.mp c
  unfold txt at e
  cases hl : K.lookup f with
  | none => rw [hl] at e; cases e
  | some o =>
    obtain ⟨oc, od, dt, sl⟩ := o
    rw [hl] at c e
    cases dt with
    | func d =>
      obtain ⟨c1, c2⟩ := Bool.and_eq_true_iff.mp c
      obtain ⟨n1, n2, n3, n4, n5, n6, n7, n8, n9, n10, n11, n12, n13, n14, n15⟩ := d
      have e2 : (some (n1, n2, n3, n4, n5, n6, n7, n15) : He.FnW) = the n q st := e
      simp only [the, Option.some.injEq, Prod.mk.injEq] at e2
      obtain ⟨h1, h2, h3, h4, h5, h6, h7, h8⟩ := e2
      subst h1 h2 h3 h4 h5 h6 h7 h8
      exact ⟨oc, od, sl, n8, n9, n10, n11, n12, n13, n14, rfl, c1, kp, c2⟩
    | _ => cases c
theorem fn_no {K : Fr} {f : Addr} {n q : Str} {st : Stmt} (e : txt K f = the n q st) (c : okFn K f q .no = true) : ∃ oc od sl kV dc pm an cd ct,
    K.lookup f = some ⟨oc, od, .func (PySem.W.fnOf n q (defArgs st) (defBody st) (defScope st) .none kV dc pm an cd ct), sl⟩ ∧ PySem.W.codeIn K cd q = true ∧ PySem.W.keepIn K (.ref f) = true := by
  obtain ⟨oc, od, sl, dV, kV, dc, pm, an, cd, ct, h, c1, c2, c3⟩ := fn_any e c
  cases dV with
  | none => exact ⟨oc, od, sl, kV, dc, pm, an, cd, ct, h, c1, c2⟩
  | _ => cases c3
/-! ### parts of answers -/
def recP (K : Fr) (q : Addr) (x : String) : Addr := match PySem.W.recIn K q x with
  | some (.ref f :: _) => f
  | _ => 0
def recB (K : Fr) (q : Addr) (x : String) : Bool := match PySem.W.recIn K q x with
  | some (.ref _ :: _) => true
  | _ => false
theorem rec_ok {K : Fr} {q : Addr} {x : String} (h : recB K q x = true) : ∃ r, PySem.W.recIn K q x = some (.ref (recP K q x) :: r) := by
  unfold recB at h
  unfold recP
  split at h
  · rename_i f r e
    rw [e]
    exact ⟨r, rfl⟩
  · cases h
def intB (K : Fr) (x : Str) (i : Int) : Bool := match PySem.W.nsIn K mainGlobals x with
  | some (some (.int j _)) => decide (j = i)
  | _ => false
theorem int_ok {K : Fr} {x : Str} {i : Int} (h : intB K x i = true) : ∃ t, PySem.W.nsIn K mainGlobals x = some (some (.int i t)) := by
  unfold intB at h
  split at h
  · rename_i j t e
    rw [of_decide_eq_true h] at e
    exact ⟨t, e⟩
  · cases h
/-! ### all questions at once -/
abbrev An : Type := Bool × List He.FnW × List (Option (List (Option (Str × Int))))
abbrev Tb : Type := (Fr → Addr) × List Str
def ask (fs : List (Fr → Bool)) (fn : List ((Fr → Addr) × He.FnW)) (ts : List Tb) (K : Fr) : An := (fs.all (fun f => f K), fn.map (fun p => txt K (p.1 K)), ts.map fun t => He.dicW K (t.1 K))
def due (fn : List ((Fr → Addr) × He.FnW)) (ts : List Tb) (w : World) : An := (true, fn.map (fun p => p.2), ts.map fun t => some (He.keysIn w.params t.2))
def Says (fs : List (Fr → Bool)) (fn : List ((Fr → Addr) × He.FnW)) (ts : List Tb) (w : World) (K : Fr) : Prop := ask fs fn ts K = due fn ts w
def askG (as : List Addr) (fs : List (Fr → Bool)) (fn : List ((Fr → Addr) × He.FnW)) (ts : List Tb) (g : Addr → Option Obj) : An := ask fs fn ts (He.frG g as)
def hk (as : List Addr) (fs : List (Fr → Bool)) (fn : List ((Fr → Addr) × He.FnW)) (ts : List Tb) : PySem.W.Hook where
  α := An
  obs := fun s => askG as fs fn ts s.heap.get?
  val := fun w => due fn ts w
  says := fun w h => ∃ K : Fr, K.In h ∧ Says fs fn ts w K
  of := fun _ _ e => ⟨_, He.frG_in, e⟩
  keeps := fun _ _ _ ⟨K, hK, c⟩ k => ⟨K, PySem.W.Frag.In.keeps hK k, c⟩
section
variable {as : List Addr} {fs : List (Fr → Bool)} {fn : List ((Fr → Addr) × He.FnW)} {ts : List Tb} {w : World} {K : Fr}
theorem ask_eq (s : PySem.W.SharedT) : askG as fs fn ts (HandSHeadRun.getT s) = (hk as fs fn ts).obs s.abs := by
  show askG as fs fn ts (HandSHeadRun.getT s) = askG as fs fn ts s.abs.heap.get?
  rw [show HandSHeadRun.getT s = s.abs.heap.get? from funext (HandSHeadRun.getT_eq s)]
theorem Says.yes (c : Says fs fn ts w K) (i : Nat) {f : Fr → Bool} (h : fs[i]? = some f := by rfl) : f K = true :=
  List.all_eq_true.mp (congrArg (fun z : An => z.1) c) f (List.mem_of_getElem? h)
theorem Says.txt (c : Says fs fn ts w K) (i : Nat) {p : (Fr → Addr) × He.FnW} (h : fn[i]? = some p := by rfl) : HX.txt K (p.1 K) = p.2 := by
  have e : fn.map (fun p => HX.txt K (p.1 K)) = fn.map (fun p => p.2) := congrArg (fun z : An => z.2.1) c
  have e2 := congrArg (fun l => l[i]?) e
  rw [List.getElem?_map, List.getElem?_map, h] at e2
  exact Option.some.inj e2
end
/-- the law's def is asked by the row, whatever part of the heap is told -/
theorem walkE {l : PySem.W.OpenLaw} {n k : Nat} {q : Program} {loose : List Str} {XP : (Str → Option Value) → Heap → Prop} {YP : World → Heap → Prop} {d : DefRec} {sp : Fr → Sp} {x : Str}
    (hn : l.most = some n) (hn2 : n ≤ sizeLine) (hdf : d.params.defaults = []) (hr : Room k callerA) (hno : importsNone q = true)
    (G : ∀ (w : World) (mg : Str → Option Value) (fa : Addr) (h : Heap), YP w h → h.Ns mainGlobals mg → mg d.name = some (.ref fa) → ∃ K : Fr, K.In h ∧
      ∃ fd : FuncData, (∀ (s : Shared) (u : Value), BindsTo s fd ⟨[u], []⟩ [(x, u)]) ∧ ∀ base : Heap, K.In base → base.Ns mainGlobals mg → (∃ o, base.get? sysModules = some o) → FnG l.prog w K mg base CX0 k fa fd [x] (sp K))
    (hsp : ∀ (K : Fr) (H : Hp) (a : Addr) (ns : List Int), ns.length ≤ n → Only H → SqL K H a (ns.map V.int) → sp K [.ref a] H (fun v _ => v = .bl true) E0) : PySem.W.WalkO q loose XP YP l.row.toRowW d [] (fun f vs => PySem.call f vs) :=
  Att.attach_call hn hdf fun w _ s₁ mg mb fa o pm cd doc a vs ns Gr Y _ _ _ hmg hobj hints hlen hg => by
    obtain ⟨K, KX, fd, hb, hF⟩ := G w mg fa _ Y Gr.T.g hmg
    exact law_goG KX Gr.T.g Gr.T.b Gr.T.builtins Gr.T.nolimit hg hobj hints (Nat.le_trans hlen hn2) hr (by obtain ⟨mm, z, _⟩ := (Gr.T.seer hno).mods; exact ⟨mm, z⟩) hF hb fun H hO hS => hsp _ H a ns hlen hO hS
end HX

set_option Elab.async false
set_option linter.all false
set_option maxRecDepth 100000
set_option maxHeartbeats 0
namespace K06
open PySem PySem.Spec PyProof.Rows L2 DL
open PySem PySem.Spec PyProof.Rows L2 TL DL RP RG R06
abbrev q0 : HX.Fr → Bool := fun K => HX.okFn K ((He.ga K "_law_deck")) "_law_deck" .no
abbrev q1 : HX.Fr → Bool := fun K => HX.okFn K ((He.ga K "_law_next")) "_law_next" .no
abbrev q2 : HX.Fr → Bool := fun K => HX.okFn K ((He.ga K "_law_name")) "_law_name" .no
abbrev q3 : HX.Fr → Bool := fun K => HX.okFn K ((He.ga K "_law_pool")) "_law_pool" .no
abbrev q4 : HX.Fr → Bool := fun K => HX.okFn K ((He.ga K "_law_path")) "_law_path" .no
abbrev q5 : HX.Fr → Bool := fun K => HX.okFn K ((He.ga K "_law_covers")) "_law_covers" .no
abbrev q6 : HX.Fr → Bool := fun K => HX.okFn K ((He.ga K "_law_overlap")) "_law_overlap" .no
abbrev q7 : HX.Fr → Bool := fun K => HX.okFn K ((He.ga K "_law_modules")) "_law_modules" .no
abbrev q8 : HX.Fr → Bool := fun K => HX.okFn K ((He.ga K "_law_uses")) "_law_uses" .no
abbrev q9 : HX.Fr → Bool := fun K => HX.okFn K ((He.ga K "_law_odd")) "_law_odd" .no
abbrev q10 : HX.Fr → Bool := fun K => HX.okFn K ((He.ga K "_law_says")) "_law_says" .no
abbrev q11 : HX.Fr → Bool := fun K => HX.okFn K ((He.ga K "_law_inside")) "_law_inside" .no
abbrev q12 : HX.Fr → Bool := fun K => HX.okFn K ((He.ga K "_is_name")) "_is_name" .no
abbrev q13 : HX.Fr → Bool := fun K => HX.okFn K ((He.ga K "is_path")) "is_path" .no
abbrev q14 : HX.Fr → Bool := fun K => HX.okFn K ((He.ga K "covers")) "covers" .no
abbrev q15 : HX.Fr → Bool := fun K => HX.okFn K ((He.ga K "overlap")) "overlap" .no
abbrev q16 : HX.Fr → Bool := fun K => HX.okFn K ((He.ga K "_modules_error")) "_modules_error" .no
abbrev q17 : HX.Fr → Bool := fun K => HX.okFn K ((He.ga K "_is_pair_of")) "_is_pair_of" .no
abbrev q18 : HX.Fr → Bool := fun K => HX.okFn K ((He.ga K "_uses_error")) "_uses_error" .no
abbrev q19 : HX.Fr → Bool := fun K => HX.okFn K ((He.ga K "program_error")) "program_error" .no
abbrev q20 : HX.Fr → Bool := fun K => HX.okFn K ((He.ga K "parent")) "parent" .no
abbrev q21 : HX.Fr → Bool := fun K => HX.okFn K ((He.ga K "_parts")) "_parts" .no
abbrev q22 : HX.Fr → Bool := fun K => HX.okFn K ((He.ma K ((He.ga K "Program")) "__init__")) "Program.__init__" .no
abbrev q23 : HX.Fr → Bool := fun K => HX.okFn K ((HX.recP K ((He.ma K ((He.ga K "Program")) "modules")) "property")) "Program.modules" .no
abbrev q24 : HX.Fr → Bool := fun K => HX.okFn K ((HX.recP K ((He.ma K ((He.ga K "Program")) "uses")) "property")) "Program.uses" .no
abbrev q25 : HX.Fr → Bool := fun K => HX.okFn K ((He.ma K ((He.ga K "Program")) "__eq__")) "Program.__eq__" .no
abbrev q26 : HX.Fr → Bool := fun K => HX.okFn K ((He.ma K ((He.ga K "Program")) "__contains__")) "Program.__contains__" .no
abbrev q27 : HX.Fr → Bool := fun K => HX.okFn K ((He.ga K "law")) "law" .no
abbrev q28 : HX.Fr → Bool := fun K => decide (PySem.W.nsIn K mainGlobals "_law_deck" = some (some (.ref (He.ga K "_law_deck"))))
abbrev q29 : HX.Fr → Bool := fun K => decide (PySem.W.nsIn K mainGlobals "_law_next" = some (some (.ref (He.ga K "_law_next"))))
abbrev q30 : HX.Fr → Bool := fun K => decide (PySem.W.nsIn K mainGlobals "_law_name" = some (some (.ref (He.ga K "_law_name"))))
abbrev q31 : HX.Fr → Bool := fun K => decide (PySem.W.nsIn K mainGlobals "_law_pool" = some (some (.ref (He.ga K "_law_pool"))))
abbrev q32 : HX.Fr → Bool := fun K => decide (PySem.W.nsIn K mainGlobals "_law_path" = some (some (.ref (He.ga K "_law_path"))))
abbrev q33 : HX.Fr → Bool := fun K => decide (PySem.W.nsIn K mainGlobals "_law_covers" = some (some (.ref (He.ga K "_law_covers"))))
abbrev q34 : HX.Fr → Bool := fun K => decide (PySem.W.nsIn K mainGlobals "_law_overlap" = some (some (.ref (He.ga K "_law_overlap"))))
abbrev q35 : HX.Fr → Bool := fun K => decide (PySem.W.nsIn K mainGlobals "_law_modules" = some (some (.ref (He.ga K "_law_modules"))))
abbrev q36 : HX.Fr → Bool := fun K => decide (PySem.W.nsIn K mainGlobals "_law_uses" = some (some (.ref (He.ga K "_law_uses"))))
abbrev q37 : HX.Fr → Bool := fun K => decide (PySem.W.nsIn K mainGlobals "_law_odd" = some (some (.ref (He.ga K "_law_odd"))))
abbrev q38 : HX.Fr → Bool := fun K => decide (PySem.W.nsIn K mainGlobals "_law_says" = some (some (.ref (He.ga K "_law_says"))))
abbrev q39 : HX.Fr → Bool := fun K => decide (PySem.W.nsIn K mainGlobals "_law_inside" = some (some (.ref (He.ga K "_law_inside"))))
abbrev q40 : HX.Fr → Bool := fun K => decide (PySem.W.nsIn K mainGlobals "_is_name" = some (some (.ref (He.ga K "_is_name"))))
abbrev q41 : HX.Fr → Bool := fun K => decide (PySem.W.nsIn K mainGlobals "is_path" = some (some (.ref (He.ga K "is_path"))))
abbrev q42 : HX.Fr → Bool := fun K => decide (PySem.W.nsIn K mainGlobals "covers" = some (some (.ref (He.ga K "covers"))))
abbrev q43 : HX.Fr → Bool := fun K => decide (PySem.W.nsIn K mainGlobals "overlap" = some (some (.ref (He.ga K "overlap"))))
abbrev q44 : HX.Fr → Bool := fun K => decide (PySem.W.nsIn K mainGlobals "_modules_error" = some (some (.ref (He.ga K "_modules_error"))))
abbrev q45 : HX.Fr → Bool := fun K => decide (PySem.W.nsIn K mainGlobals "_is_pair_of" = some (some (.ref (He.ga K "_is_pair_of"))))
abbrev q46 : HX.Fr → Bool := fun K => decide (PySem.W.nsIn K mainGlobals "_uses_error" = some (some (.ref (He.ga K "_uses_error"))))
abbrev q47 : HX.Fr → Bool := fun K => decide (PySem.W.nsIn K mainGlobals "program_error" = some (some (.ref (He.ga K "program_error"))))
abbrev q48 : HX.Fr → Bool := fun K => decide (PySem.W.nsIn K mainGlobals "parent" = some (some (.ref (He.ga K "parent"))))
abbrev q49 : HX.Fr → Bool := fun K => decide (PySem.W.nsIn K mainGlobals "_parts" = some (some (.ref (He.ga K "_parts"))))
abbrev q50 : HX.Fr → Bool := fun K => decide (PySem.W.nsIn K mainGlobals "law" = some (some (.ref (He.ga K "law"))))
abbrev q51 : HX.Fr → Bool := fun K => decide (PySem.W.nsIn K mainGlobals "Program" = some (some (.ref (He.ga K "Program"))))
abbrev q52 : HX.Fr → Bool := fun K => ownB K (He.ga K "Program")
abbrev q53 : HX.Fr → Bool := fun K => PySem.W.makesIn K (He.ga K "Program")
abbrev q54 : HX.Fr → Bool := fun K => decide (PySem.W.findIn K (.ref (He.ga K "Program")) "__init__" = some (some (.ref (He.ma K ((He.ga K "Program")) "__init__"))))
abbrev q55 : HX.Fr → Bool := fun K => PySem.W.isFn K (.ref (He.ma K ((He.ga K "Program")) "__init__"))
abbrev q56 : HX.Fr → Bool := fun K => PySem.W.keepIn K (.ref (He.ga K "Program"))
abbrev q57 : HX.Fr → Bool := fun K => PySem.W.plainGet K (He.ga K "Program") Str.empty
abbrev q58 : HX.Fr → Bool := fun K => PySem.W.hasDictIn K (He.ga K "Program")
abbrev q59 : HX.Fr → Bool := fun K => PySem.W.plainOver K (He.ga K "Program")
abbrev q60 : HX.Fr → Bool := fun K => decide (PySem.W.findIn K (.ref (He.ga K "Program")) "__setattr__" = some (some (.builtin "object.__setattr__")))
abbrev q61 : HX.Fr → Bool := fun K => decide (PySem.W.findIn K (.ref (He.ga K "Program")) "__class__" = some (some (.builtin "object.__class__")))
abbrev q62 : HX.Fr → Bool := fun K => decide (PySem.W.specialIn K (.builtin "object.__class__") "__get__" = some (some (.builtin "getset_descriptor.__get__")))
abbrev q63 : HX.Fr → Bool := fun K => decide (PySem.W.takesIn K (.builtin "object.__class__") = some true)
abbrev q64 : HX.Fr → Bool := fun K => decide (PySem.W.mroIn K (He.ga K "Program") (.type "object") = some true)
abbrev q65 : HX.Fr → Bool := fun K => decide (PySem.W.kitOne K (.ref (He.ga K "Program")) (.type "tuple") = some false)
abbrev q66 : HX.Fr → Bool := fun K => decide (PySem.W.subIn K (.ref (He.ga K "Program")) (.type "str") = some false)
abbrev q67 : HX.Fr → Bool := fun K => decide (PySem.W.subIn K (.ref (He.ga K "Program")) (.type "tuple") = some false)
abbrev q68 : HX.Fr → Bool := fun K => decide (PySem.W.kitOne K (.ref (He.ga K "Program")) (.type "str") = some false)
abbrev q69 : HX.Fr → Bool := fun K => decide (PySem.W.findIn K (.ref (He.ga K "Program")) "modules" = some (some (.ref (He.ma K ((He.ga K "Program")) "modules"))))
abbrev q70 : HX.Fr → Bool := fun K => decide (PySem.W.specialIn K (.ref (He.ma K ((He.ga K "Program")) "modules")) "__get__" = some (some (.builtin "property.__get__")))
abbrev q71 : HX.Fr → Bool := fun K => decide (PySem.W.takesIn K (.ref (He.ma K ((He.ga K "Program")) "modules")) = some true)
abbrev q72 : HX.Fr → Bool := fun K => HX.recB K ((He.ma K ((He.ga K "Program")) "modules")) "property"
abbrev q73 : HX.Fr → Bool := fun K => decide (PySem.W.findIn K (.ref (He.ga K "Program")) "uses" = some (some (.ref (He.ma K ((He.ga K "Program")) "uses"))))
abbrev q74 : HX.Fr → Bool := fun K => decide (PySem.W.specialIn K (.ref (He.ma K ((He.ga K "Program")) "uses")) "__get__" = some (some (.builtin "property.__get__")))
abbrev q75 : HX.Fr → Bool := fun K => decide (PySem.W.takesIn K (.ref (He.ma K ((He.ga K "Program")) "uses")) = some true)
abbrev q76 : HX.Fr → Bool := fun K => HX.recB K ((He.ma K ((He.ga K "Program")) "uses")) "property"
abbrev q77 : HX.Fr → Bool := fun K => decide (PySem.W.findIn K (.ref (He.ga K "Program")) "__eq__" = some (some (.ref (He.ma K ((He.ga K "Program")) "__eq__"))))
abbrev q78 : HX.Fr → Bool := fun K => PySem.W.isFn K (.ref (He.ma K ((He.ga K "Program")) "__eq__"))
abbrev q79 : HX.Fr → Bool := fun K => decide (PySem.W.findIn K (.ref (He.ga K "Program")) "__contains__" = some (some (.ref (He.ma K ((He.ga K "Program")) "__contains__"))))
abbrev q80 : HX.Fr → Bool := fun K => PySem.W.isFn K (.ref (He.ma K ((He.ga K "Program")) "__contains__"))
abbrev q81 : HX.Fr → Bool := fun K => decide (PySem.W.findIn K (.ref (He.ga K "Program")) "_modules" = some none)
abbrev q82 : HX.Fr → Bool := fun K => decide (PySem.W.findIn K (.ref (He.ga K "Program")) "_parts" = some none)
abbrev q83 : HX.Fr → Bool := fun K => decide (PySem.W.findIn K (.ref (He.ga K "Program")) "_uses" = some none)
abbrev q84 : HX.Fr → Bool := fun K => decide (PySem.W.nsIn K mainGlobals "abs" = some none)
abbrev q85 : HX.Fr → Bool := fun K => decide (PySem.W.nsIn K mainGlobals "all" = some none)
abbrev q86 : HX.Fr → Bool := fun K => decide (PySem.W.nsIn K mainGlobals "any" = some none)
abbrev q87 : HX.Fr → Bool := fun K => decide (PySem.W.nsIn K mainGlobals "bool" = some none)
abbrev q88 : HX.Fr → Bool := fun K => decide (PySem.W.nsIn K mainGlobals "enumerate" = some none)
abbrev q89 : HX.Fr → Bool := fun K => decide (PySem.W.nsIn K mainGlobals "int" = some none)
abbrev q90 : HX.Fr → Bool := fun K => decide (PySem.W.nsIn K mainGlobals "isinstance" = some none)
abbrev q91 : HX.Fr → Bool := fun K => decide (PySem.W.nsIn K mainGlobals "len" = some none)
abbrev q92 : HX.Fr → Bool := fun K => decide (PySem.W.nsIn K mainGlobals "list" = some none)
abbrev q93 : HX.Fr → Bool := fun K => decide (PySem.W.nsIn K mainGlobals "min" = some none)
abbrev q94 : HX.Fr → Bool := fun K => decide (PySem.W.nsIn K mainGlobals "range" = some none)
abbrev q95 : HX.Fr → Bool := fun K => decide (PySem.W.nsIn K mainGlobals "set" = some none)
abbrev q96 : HX.Fr → Bool := fun K => decide (PySem.W.nsIn K mainGlobals "sorted" = some none)
abbrev q97 : HX.Fr → Bool := fun K => decide (PySem.W.nsIn K mainGlobals "str" = some none)
abbrev q98 : HX.Fr → Bool := fun K => decide (PySem.W.nsIn K mainGlobals "tuple" = some none)
abbrev q99 : HX.Fr → Bool := fun K => HX.intB K "MAX_MODULES" 24
abbrev q100 : HX.Fr → Bool := fun K => HX.intB K "MAX_NAMES" 6
abbrev q101 : HX.Fr → Bool := fun K => HX.intB K "MAX_USES" 200
abbrev q102 : HX.Fr → Bool := fun K => HX.intB K "_MAX_LETTERS" 8
abbrev t0 : (HX.Fr → Addr) × He.FnW := (fun K => ((He.ga K "_law_deck")), HX.the "_law_deck" "_law_deck" s__law_deck)
abbrev t1 : (HX.Fr → Addr) × He.FnW := (fun K => ((He.ga K "_law_next")), HX.the "_law_next" "_law_next" s__law_next)
abbrev t2 : (HX.Fr → Addr) × He.FnW := (fun K => ((He.ga K "_law_name")), HX.the "_law_name" "_law_name" s__law_name)
abbrev t3 : (HX.Fr → Addr) × He.FnW := (fun K => ((He.ga K "_law_pool")), HX.the "_law_pool" "_law_pool" s__law_pool)
abbrev t4 : (HX.Fr → Addr) × He.FnW := (fun K => ((He.ga K "_law_path")), HX.the "_law_path" "_law_path" s__law_path)
abbrev t5 : (HX.Fr → Addr) × He.FnW := (fun K => ((He.ga K "_law_covers")), HX.the "_law_covers" "_law_covers" s__law_covers)
abbrev t6 : (HX.Fr → Addr) × He.FnW := (fun K => ((He.ga K "_law_overlap")), HX.the "_law_overlap" "_law_overlap" s__law_overlap)
abbrev t7 : (HX.Fr → Addr) × He.FnW := (fun K => ((He.ga K "_law_modules")), HX.the "_law_modules" "_law_modules" s__law_modules)
abbrev t8 : (HX.Fr → Addr) × He.FnW := (fun K => ((He.ga K "_law_uses")), HX.the "_law_uses" "_law_uses" s__law_uses)
abbrev t9 : (HX.Fr → Addr) × He.FnW := (fun K => ((He.ga K "_law_odd")), HX.the "_law_odd" "_law_odd" s__law_odd)
abbrev t10 : (HX.Fr → Addr) × He.FnW := (fun K => ((He.ga K "_law_says")), HX.the "_law_says" "_law_says" s__law_says)
abbrev t11 : (HX.Fr → Addr) × He.FnW := (fun K => ((He.ga K "_law_inside")), HX.the "_law_inside" "_law_inside" s__law_inside)
abbrev t12 : (HX.Fr → Addr) × He.FnW := (fun K => ((He.ga K "_is_name")), HX.the "_is_name" "_is_name" s__is_name)
abbrev t13 : (HX.Fr → Addr) × He.FnW := (fun K => ((He.ga K "is_path")), HX.the "is_path" "is_path" s_is_path)
abbrev t14 : (HX.Fr → Addr) × He.FnW := (fun K => ((He.ga K "covers")), HX.the "covers" "covers" s_covers)
abbrev t15 : (HX.Fr → Addr) × He.FnW := (fun K => ((He.ga K "overlap")), HX.the "overlap" "overlap" s_overlap)
abbrev t16 : (HX.Fr → Addr) × He.FnW := (fun K => ((He.ga K "_modules_error")), HX.the "_modules_error" "_modules_error" s__modules_error)
abbrev t17 : (HX.Fr → Addr) × He.FnW := (fun K => ((He.ga K "_is_pair_of")), HX.the "_is_pair_of" "_is_pair_of" s__is_pair_of)
abbrev t18 : (HX.Fr → Addr) × He.FnW := (fun K => ((He.ga K "_uses_error")), HX.the "_uses_error" "_uses_error" s__uses_error)
abbrev t19 : (HX.Fr → Addr) × He.FnW := (fun K => ((He.ga K "program_error")), HX.the "program_error" "program_error" s_program_error)
abbrev t20 : (HX.Fr → Addr) × He.FnW := (fun K => ((He.ga K "parent")), HX.the "parent" "parent" s_parent)
abbrev t21 : (HX.Fr → Addr) × He.FnW := (fun K => ((He.ga K "_parts")), HX.the "_parts" "_parts" s__parts)
abbrev t22 : (HX.Fr → Addr) × He.FnW := (fun K => ((He.ma K ((He.ga K "Program")) "__init__")), HX.the "__init__" "Program.__init__" s_Program___init__)
abbrev t23 : (HX.Fr → Addr) × He.FnW := (fun K => ((HX.recP K ((He.ma K ((He.ga K "Program")) "modules")) "property")), HX.the "modules" "Program.modules" s_Program_modules)
abbrev t24 : (HX.Fr → Addr) × He.FnW := (fun K => ((HX.recP K ((He.ma K ((He.ga K "Program")) "uses")) "property")), HX.the "uses" "Program.uses" s_Program_uses)
abbrev t25 : (HX.Fr → Addr) × He.FnW := (fun K => ((He.ma K ((He.ga K "Program")) "__eq__")), HX.the "__eq__" "Program.__eq__" s_Program___eq__)
abbrev t26 : (HX.Fr → Addr) × He.FnW := (fun K => ((He.ma K ((He.ga K "Program")) "__contains__")), HX.the "__contains__" "Program.__contains__" s_Program___contains__)
abbrev t27 : (HX.Fr → Addr) × He.FnW := (fun K => ((He.ga K "law")), HX.the "law" "law" s_law)
def fl_0 : List (HX.Fr → Bool) := [q0, q1, q2, q3, q4, q5, q6, q7, q8, q9, q10, q11, q12, q13, q14, q15, q16, q17, q18, q19, q20, q21, q22, q23, q24, q25, q26, q27, q28, q29]
def fl_1 : List (HX.Fr → Bool) := [q30, q31, q32, q33, q34, q35, q36, q37, q38, q39, q40, q41, q42, q43, q44, q45, q46, q47, q48, q49, q50, q51, q52, q53, q54, q55, q56, q57, q58, q59]
def fl_2 : List (HX.Fr → Bool) := [q60, q61, q62, q63, q64, q65, q66, q67, q68, q69, q70, q71, q72, q73, q74, q75, q76, q77, q78, q79, q80, q81, q82, q83, q84, q85, q86, q87, q88, q89]
def fl_3 : List (HX.Fr → Bool) := [q90, q91, q92, q93, q94, q95, q96, q97, q98, q99, q100, q101, q102]
def fl : List (HX.Fr → Bool) := fl_0 ++ fl_1 ++ fl_2 ++ fl_3
def fnl_0 : List ((HX.Fr → Addr) × He.FnW) := [t0, t1, t2, t3, t4, t5, t6, t7, t8, t9, t10, t11, t12, t13, t14, t15, t16, t17, t18, t19, t20, t21, t22, t23, t24, t25, t26, t27]
def fnl : List ((HX.Fr → Addr) × He.FnW) := fnl_0
def tsl : List HX.Tb := []
def nml_0 : List PySem.Str := ["_wall", "MAX_MODULES", "MAX_NAMES", "MAX_USES", "RestError", "BadProgram", "BadUse", "Clash", "TooMany", "_MAX_LETTERS", "_is_name", "is_path", "covers", "overlap", "parent", "_is_pair_of", "_is_pair_of_paths", "_modules_error", "_uses_error", "program_error", "_parts", "Program", "_law_deck", "_law_next", "_law_name", "_law_pool", "_law_path", "_law_covers", "_law_overlap", "_law_modules"]
def nml_1 : List PySem.Str := ["_law_uses", "_law_odd", "_law_says", "_law_inside"]
def nml : List PySem.Str := nml_0 ++ nml_1
def adl_0 : List Addr := [3, 115, 120, 127, 134, 141, 148, 160, 167, 174, 181, 287, 296, 303, 308, 313, 318, 325, 332, 337, 344, 351, 358, 363, 368, 114, 119, 126, 133, 140, 147, 159, 166, 173, 180, 286, 295, 302, 307, 312]
def adl_1 : List Addr := [317, 324, 331, 336, 343, 350, 357, 362, 367, 195, 211, 219, 255, 262, 194, 210, 218, 254, 261, 209, 217]
def adl : List Addr := adl_0 ++ adl_1
theorem all_told {l : PySem.W.OpenLaw} {w : World} {K : PySem.W.Frag} {h : Heap} {mg : Str → Option Value} {fa : Addr} (X : K.In h) (G : h.Ns mainGlobals mg) (hfa : mg "law" = some (.ref fa)) (S : HX.Says fl fnl tsl w K) : ∃ fd : FuncData, (∀ (s : Shared) (v : Value), BindsTo s fd ⟨[v], []⟩ [("_law_script", v)]) ∧ ∀ base : Heap, K.In base → base.Ns mainGlobals mg → (∃ o, base.get? sysModules = some o) → FnG l.prog w K mg base CX0 10 fa fd ["_law_script"] (lift K Mem.deck 1 spLaw) := by
  obtain ⟨_, _, _, _, _, _, _, _, _, l26, c26, k26⟩ := HX.fn_no (st := s__law_deck) (S.txt (p := t0) 0 rfl) (S.yes (f := q0) 0 rfl)
  obtain ⟨_, _, _, _, _, _, _, _, _, l27, c27, k27⟩ := HX.fn_no (st := s__law_next) (S.txt (p := t1) 1 rfl) (S.yes (f := q1) 1 rfl)
  obtain ⟨_, _, _, _, _, _, _, _, _, l28, c28, k28⟩ := HX.fn_no (st := s__law_name) (S.txt (p := t2) 2 rfl) (S.yes (f := q2) 2 rfl)
  obtain ⟨_, _, _, _, _, _, _, _, _, l29, c29, k29⟩ := HX.fn_no (st := s__law_pool) (S.txt (p := t3) 3 rfl) (S.yes (f := q3) 3 rfl)
  obtain ⟨_, _, _, _, _, _, _, _, _, l30, c30, k30⟩ := HX.fn_no (st := s__law_path) (S.txt (p := t4) 4 rfl) (S.yes (f := q4) 4 rfl)
  obtain ⟨_, _, _, _, _, _, _, _, _, l31, c31, k31⟩ := HX.fn_no (st := s__law_covers) (S.txt (p := t5) 5 rfl) (S.yes (f := q5) 5 rfl)
  obtain ⟨_, _, _, _, _, _, _, _, _, l32, c32, k32⟩ := HX.fn_no (st := s__law_overlap) (S.txt (p := t6) 6 rfl) (S.yes (f := q6) 6 rfl)
  obtain ⟨_, _, _, _, _, _, _, _, _, l33, c33, k33⟩ := HX.fn_no (st := s__law_modules) (S.txt (p := t7) 7 rfl) (S.yes (f := q7) 7 rfl)
  obtain ⟨_, _, _, _, _, _, _, _, _, l34, c34, k34⟩ := HX.fn_no (st := s__law_uses) (S.txt (p := t8) 8 rfl) (S.yes (f := q8) 8 rfl)
  obtain ⟨_, _, _, _, _, _, _, _, _, l35, c35, k35⟩ := HX.fn_no (st := s__law_odd) (S.txt (p := t9) 9 rfl) (S.yes (f := q9) 9 rfl)
  obtain ⟨_, _, _, _, _, _, _, _, _, l36, c36, k36⟩ := HX.fn_no (st := s__law_says) (S.txt (p := t10) 10 rfl) (S.yes (f := q10) 10 rfl)
  obtain ⟨_, _, _, _, _, _, _, _, _, l37, c37, k37⟩ := HX.fn_no (st := s__law_inside) (S.txt (p := t11) 11 rfl) (S.yes (f := q11) 11 rfl)
  obtain ⟨_, _, _, _, _, _, _, _, _, l12, c12, k12⟩ := HX.fn_no (st := s__is_name) (S.txt (p := t12) 12 rfl) (S.yes (f := q12) 12 rfl)
  obtain ⟨_, _, _, _, _, _, _, _, _, l13, c13, k13⟩ := HX.fn_no (st := s_is_path) (S.txt (p := t13) 13 rfl) (S.yes (f := q13) 13 rfl)
  obtain ⟨_, _, _, _, _, _, _, _, _, l14, c14, k14⟩ := HX.fn_no (st := s_covers) (S.txt (p := t14) 14 rfl) (S.yes (f := q14) 14 rfl)
  obtain ⟨_, _, _, _, _, _, _, _, _, l15, c15, k15⟩ := HX.fn_no (st := s_overlap) (S.txt (p := t15) 15 rfl) (S.yes (f := q15) 15 rfl)
  obtain ⟨_, _, _, _, _, _, _, _, _, l20, c20, k20⟩ := HX.fn_no (st := s__modules_error) (S.txt (p := t16) 16 rfl) (S.yes (f := q16) 16 rfl)
  obtain ⟨_, _, _, _, _, _, _, _, _, l18, c18, k18⟩ := HX.fn_no (st := s__is_pair_of) (S.txt (p := t17) 17 rfl) (S.yes (f := q17) 17 rfl)
  obtain ⟨_, _, _, _, _, _, _, _, _, l21, c21, k21⟩ := HX.fn_no (st := s__uses_error) (S.txt (p := t18) 18 rfl) (S.yes (f := q18) 18 rfl)
  obtain ⟨_, _, _, _, _, _, _, _, _, l22, c22, k22⟩ := HX.fn_no (st := s_program_error) (S.txt (p := t19) 19 rfl) (S.yes (f := q19) 19 rfl)
  obtain ⟨_, _, _, _, _, _, _, _, _, l16, c16, k16⟩ := HX.fn_no (st := s_parent) (S.txt (p := t20) 20 rfl) (S.yes (f := q20) 20 rfl)
  obtain ⟨_, _, _, _, _, _, _, _, _, l23, c23, k23⟩ := HX.fn_no (st := s__parts) (S.txt (p := t21) 21 rfl) (S.yes (f := q21) 21 rfl)
  obtain ⟨_, _, _, _, _, _, _, _, _, l2200, c2200, k2200⟩ := HX.fn_no (st := s_Program___init__) (S.txt (p := t22) 22 rfl) (S.yes (f := q22) 22 rfl)
  obtain ⟨_, _, _, _, _, _, _, _, _, l2202, c2202, k2202⟩ := HX.fn_no (st := s_Program_modules) (S.txt (p := t23) 23 rfl) (S.yes (f := q23) 23 rfl)
  obtain ⟨_, _, _, _, _, _, _, _, _, l2203, c2203, k2203⟩ := HX.fn_no (st := s_Program_uses) (S.txt (p := t24) 24 rfl) (S.yes (f := q24) 24 rfl)
  obtain ⟨_, _, _, _, _, _, _, _, _, l2209, c2209, k2209⟩ := HX.fn_no (st := s_Program___eq__) (S.txt (p := t25) 25 rfl) (S.yes (f := q25) 25 rfl)
  obtain ⟨_, _, _, _, _, _, _, _, _, l2208, c2208, k2208⟩ := HX.fn_no (st := s_Program___contains__) (S.txt (p := t26) 26 rfl) (S.yes (f := q26) 26 rfl)
  obtain ⟨_, _, _, _, _, _, _, _, _, l38, c38, k38⟩ := HX.fn_no (st := s_law) (S.txt (p := t27) 27 rfl) (S.yes (f := q27) 27 rfl)
  have a26 : PySem.W.nsIn K mainGlobals "_law_deck" = some (some (.ref (He.ga K "_law_deck"))) := of_decide_eq_true (S.yes (f := q28) 28 rfl)
  have a27 : PySem.W.nsIn K mainGlobals "_law_next" = some (some (.ref (He.ga K "_law_next"))) := of_decide_eq_true (S.yes (f := q29) 29 rfl)
  have a28 : PySem.W.nsIn K mainGlobals "_law_name" = some (some (.ref (He.ga K "_law_name"))) := of_decide_eq_true (S.yes (f := q30) 30 rfl)
  have a29 : PySem.W.nsIn K mainGlobals "_law_pool" = some (some (.ref (He.ga K "_law_pool"))) := of_decide_eq_true (S.yes (f := q31) 31 rfl)
  have a30 : PySem.W.nsIn K mainGlobals "_law_path" = some (some (.ref (He.ga K "_law_path"))) := of_decide_eq_true (S.yes (f := q32) 32 rfl)
  have a31 : PySem.W.nsIn K mainGlobals "_law_covers" = some (some (.ref (He.ga K "_law_covers"))) := of_decide_eq_true (S.yes (f := q33) 33 rfl)
  have a32 : PySem.W.nsIn K mainGlobals "_law_overlap" = some (some (.ref (He.ga K "_law_overlap"))) := of_decide_eq_true (S.yes (f := q34) 34 rfl)
  have a33 : PySem.W.nsIn K mainGlobals "_law_modules" = some (some (.ref (He.ga K "_law_modules"))) := of_decide_eq_true (S.yes (f := q35) 35 rfl)
  have a34 : PySem.W.nsIn K mainGlobals "_law_uses" = some (some (.ref (He.ga K "_law_uses"))) := of_decide_eq_true (S.yes (f := q36) 36 rfl)
  have a35 : PySem.W.nsIn K mainGlobals "_law_odd" = some (some (.ref (He.ga K "_law_odd"))) := of_decide_eq_true (S.yes (f := q37) 37 rfl)
  have a36 : PySem.W.nsIn K mainGlobals "_law_says" = some (some (.ref (He.ga K "_law_says"))) := of_decide_eq_true (S.yes (f := q38) 38 rfl)
  have a37 : PySem.W.nsIn K mainGlobals "_law_inside" = some (some (.ref (He.ga K "_law_inside"))) := of_decide_eq_true (S.yes (f := q39) 39 rfl)
  have a12 : PySem.W.nsIn K mainGlobals "_is_name" = some (some (.ref (He.ga K "_is_name"))) := of_decide_eq_true (S.yes (f := q40) 40 rfl)
  have a13 : PySem.W.nsIn K mainGlobals "is_path" = some (some (.ref (He.ga K "is_path"))) := of_decide_eq_true (S.yes (f := q41) 41 rfl)
  have a14 : PySem.W.nsIn K mainGlobals "covers" = some (some (.ref (He.ga K "covers"))) := of_decide_eq_true (S.yes (f := q42) 42 rfl)
  have a15 : PySem.W.nsIn K mainGlobals "overlap" = some (some (.ref (He.ga K "overlap"))) := of_decide_eq_true (S.yes (f := q43) 43 rfl)
  have a20 : PySem.W.nsIn K mainGlobals "_modules_error" = some (some (.ref (He.ga K "_modules_error"))) := of_decide_eq_true (S.yes (f := q44) 44 rfl)
  have a18 : PySem.W.nsIn K mainGlobals "_is_pair_of" = some (some (.ref (He.ga K "_is_pair_of"))) := of_decide_eq_true (S.yes (f := q45) 45 rfl)
  have a21 : PySem.W.nsIn K mainGlobals "_uses_error" = some (some (.ref (He.ga K "_uses_error"))) := of_decide_eq_true (S.yes (f := q46) 46 rfl)
  have a22 : PySem.W.nsIn K mainGlobals "program_error" = some (some (.ref (He.ga K "program_error"))) := of_decide_eq_true (S.yes (f := q47) 47 rfl)
  have a16 : PySem.W.nsIn K mainGlobals "parent" = some (some (.ref (He.ga K "parent"))) := of_decide_eq_true (S.yes (f := q48) 48 rfl)
  have a23 : PySem.W.nsIn K mainGlobals "_parts" = some (some (.ref (He.ga K "_parts"))) := of_decide_eq_true (S.yes (f := q49) 49 rfl)
  have a38 : PySem.W.nsIn K mainGlobals "law" = some (some (.ref (He.ga K "law"))) := of_decide_eq_true (S.yes (f := q50) 50 rfl)
  have a24 : PySem.W.nsIn K mainGlobals "Program" = some (some (.ref (He.ga K "Program"))) := of_decide_eq_true (S.yes (f := q51) 51 rfl)
  have kow24 : ownB K (He.ga K "Program") = true := S.yes (f := q52) 52 rfl
  have kmk24 : PySem.W.makesIn K (He.ga K "Program") = true := S.yes (f := q53) 53 rfl
  have i24 : PySem.W.findIn K (.ref (He.ga K "Program")) "__init__" = some (some (.ref (He.ma K ((He.ga K "Program")) "__init__"))) := of_decide_eq_true (S.yes (f := q54) 54 rfl)
  have kfn24 : PySem.W.isFn K (.ref (He.ma K ((He.ga K "Program")) "__init__")) = true := S.yes (f := q55) 55 rfl
  have kkp24 : PySem.W.keepIn K (.ref (He.ga K "Program")) = true := S.yes (f := q56) 56 rfl
  have kpg24 : PySem.W.plainGet K (He.ga K "Program") Str.empty = true := S.yes (f := q57) 57 rfl
  have khd24 : PySem.W.hasDictIn K (He.ga K "Program") = true := S.yes (f := q58) 58 rfl
  have kpo24 : PySem.W.plainOver K (He.ga K "Program") = true := S.yes (f := q59) 59 rfl
  have ksa24 : PySem.W.findIn K (.ref (He.ga K "Program")) "__setattr__" = some (some (.builtin "object.__setattr__")) := of_decide_eq_true (S.yes (f := q60) 60 rfl)
  have kha24 : PySem.W.findIn K (.ref (He.ga K "Program")) "__class__" = some (some (.builtin "object.__class__")) := of_decide_eq_true (S.yes (f := q61) 61 rfl)
  have khn24 : PySem.W.specialIn K (.builtin "object.__class__") "__get__" = some (some (.builtin "getset_descriptor.__get__")) := of_decide_eq_true (S.yes (f := q62) 62 rfl)
  have kht24 : PySem.W.takesIn K (.builtin "object.__class__") = some true := of_decide_eq_true (S.yes (f := q63) 63 rfl)
  have khm24 : PySem.W.mroIn K (He.ga K "Program") (.type "object") = some true := of_decide_eq_true (S.yes (f := q64) 64 rfl)
  have kno24 : PySem.W.kitOne K (.ref (He.ga K "Program")) (.type "tuple") = some false := of_decide_eq_true (S.yes (f := q65) 65 rfl)
  have kns24 : PySem.W.subIn K (.ref (He.ga K "Program")) (.type "str") = some false := of_decide_eq_true (S.yes (f := q66) 66 rfl)
  have knt24 : PySem.W.subIn K (.ref (He.ga K "Program")) (.type "tuple") = some false := of_decide_eq_true (S.yes (f := q67) 67 rfl)
  have knu24 : PySem.W.kitOne K (.ref (He.ga K "Program")) (.type "str") = some false := of_decide_eq_true (S.yes (f := q68) 68 rfl)
  have kpa2202 : PySem.W.findIn K (.ref (He.ga K "Program")) "modules" = some (some (.ref (He.ma K ((He.ga K "Program")) "modules"))) := of_decide_eq_true (S.yes (f := q69) 69 rfl)
  have kpb2202 : PySem.W.specialIn K (.ref (He.ma K ((He.ga K "Program")) "modules")) "__get__" = some (some (.builtin "property.__get__")) := of_decide_eq_true (S.yes (f := q70) 70 rfl)
  have kpc2202 : PySem.W.takesIn K (.ref (He.ma K ((He.ga K "Program")) "modules")) = some true := of_decide_eq_true (S.yes (f := q71) 71 rfl)
  obtain ⟨_, kpd2202⟩ := HX.rec_ok (S.yes (f := q72) 72 rfl)
  have kpa2203 : PySem.W.findIn K (.ref (He.ga K "Program")) "uses" = some (some (.ref (He.ma K ((He.ga K "Program")) "uses"))) := of_decide_eq_true (S.yes (f := q73) 73 rfl)
  have kpb2203 : PySem.W.specialIn K (.ref (He.ma K ((He.ga K "Program")) "uses")) "__get__" = some (some (.builtin "property.__get__")) := of_decide_eq_true (S.yes (f := q74) 74 rfl)
  have kpc2203 : PySem.W.takesIn K (.ref (He.ma K ((He.ga K "Program")) "uses")) = some true := of_decide_eq_true (S.yes (f := q75) 75 rfl)
  obtain ⟨_, kpd2203⟩ := HX.rec_ok (S.yes (f := q76) 76 rfl)
  have km2209 : PySem.W.findIn K (.ref (He.ga K "Program")) "__eq__" = some (some (.ref (He.ma K ((He.ga K "Program")) "__eq__"))) := of_decide_eq_true (S.yes (f := q77) 77 rfl)
  have kn2209 : PySem.W.isFn K (.ref (He.ma K ((He.ga K "Program")) "__eq__")) = true := S.yes (f := q78) 78 rfl
  have km2208 : PySem.W.findIn K (.ref (He.ga K "Program")) "__contains__" = some (some (.ref (He.ma K ((He.ga K "Program")) "__contains__"))) := of_decide_eq_true (S.yes (f := q79) 79 rfl)
  have kn2208 : PySem.W.isFn K (.ref (He.ma K ((He.ga K "Program")) "__contains__")) = true := S.yes (f := q80) 80 rfl
  have kna24_modules : PySem.W.findIn K (.ref (He.ga K "Program")) "_modules" = some none := of_decide_eq_true (S.yes (f := q81) 81 rfl)
  have kna24_parts : PySem.W.findIn K (.ref (He.ga K "Program")) "_parts" = some none := of_decide_eq_true (S.yes (f := q82) 82 rfl)
  have kna24_uses : PySem.W.findIn K (.ref (He.ga K "Program")) "_uses" = some none := of_decide_eq_true (S.yes (f := q83) 83 rfl)
  have z_abs : PySem.W.nsIn K mainGlobals "abs" = some none := of_decide_eq_true (S.yes (f := q84) 84 rfl)
  have z_all : PySem.W.nsIn K mainGlobals "all" = some none := of_decide_eq_true (S.yes (f := q85) 85 rfl)
  have z_any : PySem.W.nsIn K mainGlobals "any" = some none := of_decide_eq_true (S.yes (f := q86) 86 rfl)
  have z_bool : PySem.W.nsIn K mainGlobals "bool" = some none := of_decide_eq_true (S.yes (f := q87) 87 rfl)
  have z_enumerate : PySem.W.nsIn K mainGlobals "enumerate" = some none := of_decide_eq_true (S.yes (f := q88) 88 rfl)
  have z_int : PySem.W.nsIn K mainGlobals "int" = some none := of_decide_eq_true (S.yes (f := q89) 89 rfl)
  have z_isinstance : PySem.W.nsIn K mainGlobals "isinstance" = some none := of_decide_eq_true (S.yes (f := q90) 90 rfl)
  have z_len : PySem.W.nsIn K mainGlobals "len" = some none := of_decide_eq_true (S.yes (f := q91) 91 rfl)
  have z_list : PySem.W.nsIn K mainGlobals "list" = some none := of_decide_eq_true (S.yes (f := q92) 92 rfl)
  have z_min : PySem.W.nsIn K mainGlobals "min" = some none := of_decide_eq_true (S.yes (f := q93) 93 rfl)
  have z_range : PySem.W.nsIn K mainGlobals "range" = some none := of_decide_eq_true (S.yes (f := q94) 94 rfl)
  have z_set : PySem.W.nsIn K mainGlobals "set" = some none := of_decide_eq_true (S.yes (f := q95) 95 rfl)
  have z_sorted : PySem.W.nsIn K mainGlobals "sorted" = some none := of_decide_eq_true (S.yes (f := q96) 96 rfl)
  have z_str : PySem.W.nsIn K mainGlobals "str" = some none := of_decide_eq_true (S.yes (f := q97) 97 rfl)
  have z_tuple : PySem.W.nsIn K mainGlobals "tuple" = some none := of_decide_eq_true (S.yes (f := q98) 98 rfl)
  obtain ⟨_, c_MAX_MODULES⟩ := HX.int_ok (S.yes (f := q99) 99 rfl)
  obtain ⟨_, c_MAX_NAMES⟩ := HX.int_ok (S.yes (f := q100) 100 rfl)
  obtain ⟨_, c_MAX_USES⟩ := HX.int_ok (S.yes (f := q101) 101 rfl)
  obtain ⟨_, c__MAX_LETTERS⟩ := HX.int_ok (S.yes (f := q102) 102 rfl)
  exact all_mk X G hfa a26 l26 c26 k26 a27 l27 c27 k27 a28 l28 c28 k28 a29 l29 c29 k29 a30 l30 c30 k30 a31 l31 c31 k31 a32 l32 c32 k32 a33 l33 c33 k33 a34 l34 c34 k34 a35 l35 c35 k35 a36 l36 c36 k36 a37 l37 c37 k37 a12 l12 c12 k12 a13 l13 c13 k13 a14 l14 c14 k14 a15 l15 c15 k15 a20 l20 c20 k20 a18 l18 c18 k18 a21 l21 c21 k21 a22 l22 c22 k22 a16 l16 c16 k16 a23 l23 c23 k23 l2200 c2200 k2200 l2202 c2202 k2202 l2203 c2203 k2203 l2209 c2209 k2209 l2208 c2208 k2208 a38 l38 c38 k38 a24 kow24 kmk24 i24 kfn24 kkp24 kpg24 khd24 kpo24 ksa24 kha24 khn24 kht24 khm24 kno24 kns24 knt24 knu24 kpa2202 kpb2202 kpc2202 kpd2202 kpa2203 kpb2203 kpc2203 kpd2203 km2209 kn2209 km2208 kn2208 kna24_modules kna24_parts kna24_uses z_abs z_all z_any z_bool z_enumerate z_int z_isinstance z_len z_list z_min z_range z_set z_sorted z_str z_tuple c_MAX_MODULES c_MAX_NAMES c_MAX_USES c__MAX_LETTERS
abbrev Rr : PySem.W.OpenRow := PySem.W.OpenLaw.row PySem.Challenge.rw_mayrest_k06_in_a_program
theorem run (w : World) : HandSHeadRun.RunEq Rr (PySem.W.view Rr.prog [38]) (HX.hk adl fl fnl tsl) (fun s => HX.askG adl fl fnl tsl (HandSHeadRun.getT s)) 100000 nml w := by
  intro os
  kernel_rfl
end K06
open PySem PySem.W PyProof.Rows
set_option maxRecDepth 100000 in
set_option maxHeartbeats 0 in
theorem PySem.Challenge.cw_mayrest_k06_in_a_program_holds : PySem.Challenge.rw_mayrest_k06_in_a_program.Holds := by
  w_on; o_law
  refine HandSHeadRun.head_any (r := PySem.W.OpenLaw.row PySem.Challenge.rw_mayrest_k06_in_a_program) (q := PySem.W.view (PySem.W.OpenLaw.row PySem.Challenge.rw_mayrest_k06_in_a_program).prog [38]) (H := HX.hk K06.adl K06.fl K06.fnl K06.tsl) (ob := fun s => HX.askG K06.adl K06.fl K06.fnl K06.tsl (HandSHeadRun.getT s)) (M := 100000) (loose := K06.nml) (d := HandSHeadRun.topDef (PySem.W.OpenLaw.row PySem.Challenge.rw_mayrest_k06_in_a_program).prog 38) (kwd := []) HX.ask_eq
    (by kernel_rfl) (fun s => by kernel_rfl) K06.run (by kernel_rfl) (by kernel_rfl) (by kernel_rfl) (by rfl) (by first | assumption | decide +kernel) (by decide +kernel) ⟨rfl, rfl, rfl, rfl, rfl, by decide +kernel⟩ ?hw ?hc
  case hw => w_witness2
  case hc =>
    refine HX.walkE (l := PySem.Challenge.rw_mayrest_k06_in_a_program) (n := 63) (k := 10) (x := "_law_script") (sp := fun K => DL.lift K DL.Mem.deck 1 DL.spLaw) rfl (by decide) (by kernel_rfl) ⟨rfl, by decide, by decide⟩ (by decide +kernel) ?F (fun K H a ns hl hO hS => DL.law_start hl hO hS)
    intro w mg fa h Y G hmg
    obtain ⟨K, KX, S⟩ := Y
    have hmg2 : mg ("law" : PySem.Str) = some (.ref fa) := by
      have e : (HandSHeadRun.topDef (PySem.W.OpenLaw.row PySem.Challenge.rw_mayrest_k06_in_a_program).prog 38).name = ("law" : PySem.Str) := by kernel_rfl
      rw [← e]
      exact hmg
    exact ⟨K, KX, K06.all_told KX G hmg2 S⟩


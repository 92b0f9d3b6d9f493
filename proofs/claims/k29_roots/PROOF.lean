import PyProof.Rows.All
import Wide.All
import OpenK.AllK
import Wide.FinOn
import HandS.ForMost
import HandS.TupAny
import HandS.Zip
import HandS.WideBits
import HandS.Star
import HandS.FStr
import HandS.IsInst
import HandS.Deep
import HandS.WordsExc
import HandS.ForExc
import HandS.TupSets
import HandS.SortOrd
import HandS.Text
import HandS.Iter
import HandS.ExcOwn
import HandS.ExcIs
import HandS.Property
import HandS.SetBool
import HandS.SetKeys
import KE.GoesEnum
import KE.GoesMore
import KE.GoesZip
import HandS.ExcInit
import HandS.ExcField
import KE.KSuper
import KE.KExcSuper
import KE.KExcIs
import HandS.TryOnly
import HandS.Defaults
import HandS.MakeKwOnly
import HandS.TupMul
import HandS.Conv
import HandS.More
import KE.KDictZip
import PySem.Challenge.RW_raisedwreck_k29_roots
set_option Elab.async false
set_option linter.all false
set_option maxRecDepth 100000
section
/-! data over the abstract heap; what an expression evaluates to, what a block leads to -/
namespace RW
open PySem PySem.Spec PyProof.Rows L2

/-- data that a value stands for -/
inductive D where
  | non | bl (b : Bool) | int (i : Int) | str (s : Str)
  | tup (ds : List D) | lst (ds : List D)
  | scr (ns : List Int)
  | obj (C : Addr) (fs : List (Str × D))
  | me (p : Addr) (C : Addr) (fs : List (Str × D))
  | adr (a : Addr) | ty (n : String)
  | dk (kvs : List (Key × D)) | dt (kvs : List (List Key × D))
  | xc (a d : Addr) (fs : List (Str × D))
  | tag (a : Addr) (d : D)

abbrev H00 : Hp := fun _ => none
abbrev MS := Addr → Prop
def Ex (H H' : Hp) : Prop := ∀ a o, H a = some o → H' a = some o
theorem Ex.refl (H : Hp) : Ex H H := fun _ _ h => h
theorem Ex.trans {H H1 H2 : Hp} (a : Ex H H1) (b : Ex H1 H2) : Ex H H2 := fun x o h => b x o (a x o h)
theorem Ex.new {H : Hp} {p : Addr} {o : HO} (h : H p = none) : Ex H (upd H p o) := fun a u e => by
  rw [upd_ne (ne_of_none e h)]; exact e
theorem Ex.back {H H' : Hp} {p : Addr} (e : Ex H H') (h : H' p = none) : H p = none := by
  cases h1 : H p with
  | none => rfl
  | some o => rw [e p o h1] at h; cases h
def TupA (K : PySem.W.Frag) (H : Hp) (M : MS) (a : Addr) (xs : List V) : Prop := ¬ M a ∧ H a = some (.tup xs)
theorem TupA.sq {K : PySem.W.Frag} {H : Hp} {M : MS} {a : Addr} {xs : List V} (h : TupA K H M a xs) : SqT K H a xs := .inl (.inl h.2)

def ScrA (K : PySem.W.Frag) (H : Hp) (M : MS) (a : Addr) (xs : List V) : Prop := (∃ o, ¬ M a ∧ H a = some (.frz o (.lst xs))) ∨ SqL K H00 a xs
theorem ScrA.sq {K : PySem.W.Frag} {H : Hp} {M : MS} {a : Addr} {xs : List V} (h : ScrA K H M a xs) : SqL K H a xs := by
  rcases h with ⟨o, _, h⟩ | h
  · exact .inl (.inr ⟨o, h⟩)
  · rcases h with h | h
    · rcases h with h | ⟨_, h⟩ <;> cases h
    · exact .inr h

mutual
def Rp (K : PySem.W.Frag) (H : Hp) (M : MS) : D → V → Prop
  | .non, v => v = .non
  | .bl b, v => v = .bl b
  | .int i, v => v = .int i
  | .str s, v => v = .str s
  | .tup ds, v => ∃ a xs, v = .ref a ∧ TupA K H M a xs ∧ Rps K H M ds xs
  | .lst ds, v => ∃ a xs, v = .ref a ∧ ¬ M a ∧ H a = some (.lst xs) ∧ Rps K H M ds xs
  | .scr ns, v => ∃ a, v = .ref a ∧ ScrA K H M a (ns.map V.int)
  | .obj C fs, v => ∃ a dx vs, v = .ref a ∧ ¬ M a ∧ H a = some (.ins C dx vs) ∧ RpF K H M fs vs
  | .me p C fs, v => ∃ dx vs, v = .ref p ∧ ¬ M p ∧ H p = some (.ins C dx vs) ∧ RpF K H M fs vs
  | .adr a, v => v = .ref a
  | .ty n, v => v = .ty n
  | .dk kvs, v => ∃ a vs, v = .ref a ∧ ¬ M a ∧ H a = some (.dK vs) ∧ RpK K H M kvs vs
  | .dt kvs, v => ∃ a vs, v = .ref a ∧ ¬ M a ∧ H a = some (.dT vs) ∧ RpT K H M kvs vs
  | .xc a d fs, v => v = .ref a ∧ ∃ vs, ¬ M d ∧ H d = some (.xd vs) ∧ RpF K H M fs vs
  | .tag a d, v => v = .ref a ∧ Rp K H M d v
def Rps (K : PySem.W.Frag) (H : Hp) (M : MS) : List D → List V → Prop
  | [], xs => xs = []
  | d :: ds, xs => ∃ x r, xs = x :: r ∧ Rp K H M d x ∧ Rps K H M ds r
def RpF (K : PySem.W.Frag) (H : Hp) (M : MS) : List (Str × D) → List (Str × V) → Prop
  | [], xs => xs = []
  | (f, d) :: ds, xs => ∃ x r, xs = (f, x) :: r ∧ Rp K H M d x ∧ RpF K H M ds r
def RpK (K : PySem.W.Frag) (H : Hp) (M : MS) : List (Key × D) → List (Key × V) → Prop
  | [], xs => xs = []
  | (f, d) :: ds, xs => ∃ x r, xs = (f, x) :: r ∧ Rp K H M d x ∧ RpK K H M ds r
def RpT (K : PySem.W.Frag) (H : Hp) (M : MS) : List (List Key × D) → List (List Key × V) → Prop
  | [], xs => xs = []
  | (f, d) :: ds, xs => ∃ x r, xs = (f, x) :: r ∧ Rp K H M d x ∧ RpT K H M ds r
end
def Le (H : Hp) (M : MS) (H' : Hp) (M' : MS) : Prop := ∀ a o, H a = some o → ¬ M a → H' a = some o ∧ ¬ M' a
section
variable {K : PySem.W.Frag} {H H' : Hp} {M M' : MS}
theorem TupA.le (l : Le H M H' M') {a : Addr} {xs : List V} (h : TupA K H M a xs) : TupA K H' M' a xs := ⟨(l _ _ h.2 h.1).2, (l _ _ h.2 h.1).1⟩
mutual
theorem Rp.le (l : Le H M H' M') : ∀ (d : D) (v : V), Rp K H M d v → Rp K H' M' d v
  | .non, _, h => h
  | .bl _, _, h => h
  | .int _, _, h => h
  | .str _, _, h => h
  | .tup ds, _, ⟨a, xs, e, t, r⟩ => ⟨a, xs, e, t.le l, Rps.le l ds xs r⟩
  | .lst ds, _, ⟨a, xs, e, m, t, r⟩ => ⟨a, xs, e, (l _ _ t m).2, (l _ _ t m).1, Rps.le l ds xs r⟩
  | .scr _, _, ⟨a, e, t⟩ => ⟨a, e, t.imp (fun ⟨o, m, t⟩ => ⟨o, (l _ _ t m).2, (l _ _ t m).1⟩) id⟩
  | .obj _ fs, _, ⟨a, dx, vs, e, m, t, r⟩ => ⟨a, dx, vs, e, (l _ _ t m).2, (l _ _ t m).1, RpF.le l fs vs r⟩
  | .me _ _ fs, _, ⟨dx, vs, e, m, t, r⟩ => ⟨dx, vs, e, (l _ _ t m).2, (l _ _ t m).1, RpF.le l fs vs r⟩
  | .adr _, _, h => h
  | .ty _, _, h => h
  | .dk kvs, _, ⟨a, vs, e, m, t, r⟩ => ⟨a, vs, e, (l _ _ t m).2, (l _ _ t m).1, RpK.le l kvs vs r⟩
  | .dt kvs, _, ⟨a, vs, e, m, t, r⟩ => ⟨a, vs, e, (l _ _ t m).2, (l _ _ t m).1, RpT.le l kvs vs r⟩
  | .xc _ _ fs, _, ⟨e, vs, m, t, r⟩ => ⟨e, vs, (l _ _ t m).2, (l _ _ t m).1, RpF.le l fs vs r⟩
  | .tag _ d, v, ⟨e, r⟩ => ⟨e, Rp.le l d v r⟩
theorem Rps.le (l : Le H M H' M') : ∀ (ds : List D) (vs : List V), Rps K H M ds vs → Rps K H' M' ds vs
  | [], _, h => h
  | d :: ds, _, ⟨x, r, e, h1, h2⟩ => ⟨x, r, e, Rp.le l d x h1, Rps.le l ds r h2⟩
theorem RpF.le (l : Le H M H' M') : ∀ (ds : List (Str × D)) (vs : List (Str × V)), RpF K H M ds vs → RpF K H' M' ds vs
  | [], _, h => h
  | (_, d) :: ds, _, ⟨x, r, e, h1, h2⟩ => ⟨x, r, e, Rp.le l d x h1, RpF.le l ds r h2⟩
theorem RpK.le (l : Le H M H' M') : ∀ (ds : List (Key × D)) (vs : List (Key × V)), RpK K H M ds vs → RpK K H' M' ds vs
  | [], _, h => h
  | (_, d) :: ds, _, ⟨x, r, e, h1, h2⟩ => ⟨x, r, e, Rp.le l d x h1, RpK.le l ds r h2⟩
theorem RpT.le (l : Le H M H' M') : ∀ (ds : List (List Key × D)) (vs : List (List Key × V)), RpT K H M ds vs → RpT K H' M' ds vs
  | [], _, h => h
  | (_, d) :: ds, _, ⟨x, r, e, h1, h2⟩ => ⟨x, r, e, Rp.le l d x h1, RpT.le l ds r h2⟩
end
theorem Le.ex (e : Ex H H') : Le H M H' M := fun _ _ h m => ⟨e _ _ h, m⟩
theorem Le.sub (s : ∀ a, M' a → M a) : Le H M H M' := fun _ _ h m => ⟨h, fun q => m (s _ q)⟩
theorem Le.trans {H2 : Hp} {M2 : MS} (a : Le H M H' M') (b : Le H' M' H2 M2) : Le H M H2 M2 := fun x o h m => let ⟨h1, m1⟩ := a x o h m; b x o h1 m1
theorem Rps.length : ∀ {ds : List D} {vs : List V}, Rps K H M ds vs → vs.length = ds.length
  | [], _, h => by rw [show _ = _ from h]; rfl
  | _ :: ds, _, ⟨x, r, e, _, h2⟩ => by rw [e, List.length_cons, List.length_cons, Rps.length h2]
theorem Rps.get : ∀ {ds : List D} {vs : List V} {i : Nat} {d : D}, Rps K H M ds vs → ds[i]? = some d → ∃ v, vs[i]? = some v ∧ Rp K H M d v
  | [], _, _, _, _, h => by simp at h
  | d :: ds, _, 0, d', ⟨x, r, e, h1, _⟩, h => by
    rw [List.getElem?_cons_zero] at h; cases h
    exact ⟨x, by rw [e]; rfl, h1⟩
  | d :: ds, _, i + 1, d', ⟨x, r, e, _, h2⟩, h => by
    rw [List.getElem?_cons_succ] at h
    obtain ⟨v, q1, q2⟩ := Rps.get h2 h
    exact ⟨v, by rw [e]; exact q1, q2⟩
theorem Rps.append : ∀ {ds es : List D} {vs ws : List V}, Rps K H M ds vs → Rps K H M es ws → Rps K H M (ds ++ es) (vs ++ ws)
  | [], _, _, _, h, k => by rw [show _ = _ from h]; exact k
  | d :: ds, _, _, _, ⟨x, r, e, h1, h2⟩, k => ⟨x, r ++ _, by rw [e]; rfl, h1, Rps.append h2 k⟩
theorem Rps.one {d : D} {v : V} (h : Rp K H M d v) : Rps K H M [d] [v] := ⟨v, [], rfl, h, rfl⟩
theorem Rps.take : ∀ {ds : List D} {vs : List V} (n : Nat), Rps K H M ds vs → Rps K H M (ds.take n) (vs.take n)
  | _, _, 0, _ => rfl
  | [], _, _ + 1, h => by rw [show _ = _ from h]; rfl
  | d :: ds, _, n + 1, ⟨x, r, e, h1, h2⟩ => ⟨x, r.take n, by rw [e]; rfl, h1, Rps.take n h2⟩
theorem Rps.drop : ∀ {ds : List D} {vs : List V} (n : Nat), Rps K H M ds vs → Rps K H M (ds.drop n) (vs.drop n)
  | _, _, 0, h => h
  | [], _, _ + 1, h => by rw [show _ = _ from h]; rfl
  | d :: ds, _, n + 1, ⟨x, r, e, _, h2⟩ => by rw [e]; exact Rps.drop n h2
theorem Rps.set : ∀ {ds : List D} {vs : List V} {d : D} {v : V} (i : Nat), Rps K H M ds vs → Rp K H M d v → Rps K H M (ds.set i d) (vs.set i v)
  | [], _, _, _, _, h, _ => by rw [show _ = _ from h]; rfl
  | _ :: ds, _, _, v, 0, ⟨x, r, e, _, h2⟩, h => ⟨v, r, by rw [e]; rfl, h, h2⟩
  | d :: ds, _, _, v, i + 1, ⟨x, r, e, h1, h2⟩, h => ⟨x, r.set i v, by rw [e]; rfl, h1, Rps.set i h2 h⟩
theorem Rps.ints : ∀ {ns : List Int} {vs : List V}, Rps K H M (ns.map D.int) vs → vs = ns.map V.int
  | [], _, h => h
  | n :: ns, _, ⟨x, r, e, h1, h2⟩ => by
    rw [e, Rps.ints h2, show x = .int n from h1]; rfl
theorem Rps.of_ints : ∀ (ns : List Int), Rps K H M (ns.map D.int) (ns.map V.int)
  | [] => rfl
  | n :: ns => ⟨_, _, rfl, rfl, Rps.of_ints ns⟩
theorem Rps.strs : ∀ {ns : List Str} {vs : List V}, Rps K H M (ns.map D.str) vs → vs = ns.map V.str
  | [], _, h => h
  | n :: ns, _, ⟨x, r, e, h1, h2⟩ => by
    rw [e, Rps.strs h2, show x = .str n from h1]; rfl
theorem Rps.of_strs : ∀ (ns : List Str), Rps K H M (ns.map D.str) (ns.map V.str)
  | [] => rfl
  | n :: ns => ⟨_, _, rfl, rfl, Rps.of_strs ns⟩
theorem Rps.bls : ∀ {ns : List Bool} {vs : List V}, Rps K H M (ns.map D.bl) vs → vs = ns.map V.bl
  | [], _, h => h
  | n :: ns, _, ⟨x, r, e, h1, h2⟩ => by
    rw [e, Rps.bls h2, show x = .bl n from h1]; rfl
end

/-! ### slots -/
inductive SD where
  | no | val (d : D) | own (d : D)
  | st (μ : Addr → Option D)
abbrev HotD := D ⊕ (Addr → Option D)
/-- slots that own something -/
abbrev SD.hot : HotD → SD
  | .inl d => .own d
  | .inr μ => .st μ
/-- an owned list (an instance) at a -/
def OwnAt (K : PySem.W.Frag) (H : Hp) (M : MS) (a : Addr) : D → Prop
  | .lst ds => ∃ xs, H a = some (.lst xs) ∧ Rps K H M ds xs
  | .obj C fs => ∃ dx vs, H a = some (.ins C dx vs) ∧ RpF K H M fs vs
  | .me p C fs => a = p ∧ ∃ dx vs, H a = some (.ins C dx vs) ∧ RpF K H M fs vs
  | .dk kvs => ∃ vs, H a = some (.dK vs) ∧ RpK K H M kvs vs
  | .dt kvs => ∃ vs, H a = some (.dT vs) ∧ RpT K H M kvs vs
  | _ => False
def Ow (ρ : List SD) (σ : L2.St) (i : Nat) (a : Addr) : Prop := (∃ d, ρ[i]? = some (.own d)) ∧ σ[i]? = some (some (.ref a))
/-- what a store in a slot of no name holds -/
def Stt (ρ : List SD) (a : Addr) : Prop := ∃ (i : Nat) (μ : Addr → Option D) (d : D), ρ[i]? = some (SD.st μ) ∧ μ a = some d
def Mo (M0 : MS) (ρ : List SD) (σ : L2.St) : MS := fun a => (M0 a ∨ Stt ρ a) ∨ ∃ i, Ow ρ σ i a
/-- something stands there, and no tuple -/
def NT (o : Option HO) : Prop := ∃ u, o = some u ∧ ∀ xs, u ≠ .tup xs
theorem NT.ne {o : Option HO} (h : NT o) : o ≠ none := fun z => by obtain ⟨u, e, _⟩ := h; rw [e] at z; cases z
structure EnvOk (K : PySem.W.Frag) (H0 : Hp) (M0 : MS) (ρ : List SD) (σ : L2.St) (H : Hp) : Prop where
  len : ρ.length = σ.length
  ex : Ex H0 H
  m0 : ∀ a, M0 a → NT (H0 a)
  fresh : ∀ i a, Ow ρ σ i a → H0 a = none
  inj : ∀ i j a, Ow ρ σ i a → Ow ρ σ j a → i = j
  val : ∀ (i : Nat) d, ρ[i]? = some (.val d) → ∃ v, σ[i]? = some (some v) ∧ Rp K H (Mo M0 ρ σ) d v
  own : ∀ (i : Nat) d, ρ[i]? = some (.own d) → ∃ a, σ[i]? = some (some (.ref a)) ∧ OwnAt K H (Mo M0 ρ σ) a d
  stf : ∀ a, Stt ρ a → H0 a = none
  sto : ∀ i a, Ow ρ σ i a → ¬ Stt ρ a
  st : ∀ (i : Nat) μ, ρ[i]? = some (.st μ) → ∀ a d, μ a = some d → OwnAt K H (Mo M0 ρ σ) a d
  one : ∀ (i j : Nat) μ μ', ρ[i]? = some (.st μ) → ρ[j]? = some (.st μ') → i = j
theorem OwnAt.le {K : PySem.W.Frag} {H H' : Hp} {M M' : MS} {a : Addr} (l : Le H M H' M') (e : ∀ o, H a = some o → H' a = some o) : ∀ {d : D}, OwnAt K H M a d → OwnAt K H' M' a d
  | .lst ds, ⟨xs, h, r⟩ => ⟨xs, e _ h, Rps.le l ds xs r⟩
  | .obj _ fs, ⟨dx, vs, h, r⟩ => ⟨dx, vs, e _ h, RpF.le l fs vs r⟩
  | .me _ _ fs, ⟨z, dx, vs, h, r⟩ => ⟨z, dx, vs, e _ h, RpF.le l fs vs r⟩
  | .dk kvs, ⟨vs, h, r⟩ => ⟨vs, e _ h, RpK.le l kvs vs r⟩
  | .dt kvs, ⟨vs, h, r⟩ => ⟨vs, e _ h, RpT.le l kvs vs r⟩
theorem OwnAt.there {K : PySem.W.Frag} {H : Hp} {M : MS} {a : Addr} : ∀ {d : D}, OwnAt K H M a d → H a ≠ none
  | .lst ds, ⟨xs, h, r⟩ => by rw [h]; exact fun z => by cases z
  | .obj _ fs, ⟨dx, vs, h, r⟩ => by rw [h]; exact fun z => by cases z
  | .me _ _ fs, ⟨_, dx, vs, h, r⟩ => by rw [h]; exact fun z => by cases z
  | .dk _, ⟨vs, h, r⟩ => by rw [h]; exact fun z => by cases z
  | .dt _, ⟨vs, h, r⟩ => by rw [h]; exact fun z => by cases z
section
variable {K : PySem.W.Frag} {H H' H0 : Hp} {M M' M0 : MS} {ρ ρ' : List SD} {σ σ' : L2.St}
theorem EnvOk.dom (E : EnvOk K H0 M0 ρ σ H) : ∀ a, Mo M0 ρ σ a → H a ≠ none := fun a h => by
  rcases h with (h | ⟨i, μ, d, h1, h2⟩) | ⟨i, ⟨d, h1⟩, h2⟩
  · intro z
    exact (E.m0 a h).ne (E.ex.back z)
  · exact (E.st i μ h1 a d h2).there
  · obtain ⟨b, q1, q2⟩ := E.own i d h1
    rw [h2] at q1; cases q1
    exact q2.there
theorem OwnAt.nt {a : Addr} {d : D} (h : OwnAt K H M a d) : NT (H a) := by
  cases d with
  | lst _ => obtain ⟨x, q, _⟩ := h; exact ⟨_, q, fun _ z => nomatch z⟩
  | obj _ _ => obtain ⟨y, x, q, _⟩ := h; exact ⟨_, q, fun _ z => nomatch z⟩
  | me _ _ _ => obtain ⟨_, y, x, q, _⟩ := h; exact ⟨_, q, fun _ z => nomatch z⟩
  | dk _ => obtain ⟨x, q, _⟩ := h; exact ⟨_, q, fun _ z => nomatch z⟩
  | dt _ => obtain ⟨x, q, _⟩ := h; exact ⟨_, q, fun _ z => nomatch z⟩
  | _ => exact h.elim
theorem EnvOk.domN (E : EnvOk K H0 M0 ρ σ H) : ∀ a, Mo M0 ρ σ a → NT (H a) := fun a h => by
  rcases h with (h | ⟨i, μ, d, h1, h2⟩) | ⟨i, ⟨d, h1⟩, h2⟩
  · obtain ⟨u, e, n⟩ := E.m0 a h
    exact ⟨u, E.ex a u e, n⟩
  · exact (E.st i μ h1 a d h2).nt
  · obtain ⟨b, q1, q2⟩ := E.own i d h1
    rw [h2] at q1; cases q1
    exact q2.nt
theorem EnvOk.ext (E : EnvOk K H0 M0 ρ σ H) (e : Ex H H') : EnvOk K H0 M0 ρ σ H' where
  len := E.len
  ex := E.ex.trans e
  m0 := E.m0
  fresh := E.fresh
  inj := E.inj
  val := fun i d h => let ⟨v, h1, h2⟩ := E.val i d h; ⟨v, h1, Rp.le (Le.ex e) d v h2⟩
  own := fun i d h => let ⟨a, h1, h2⟩ := E.own i d h; ⟨a, h1, h2.le (Le.ex e) (fun o q => e _ o q)⟩
  stf := E.stf
  sto := E.sto
  st := fun i μ h a d q => (E.st i μ h a d q).le (Le.ex e) (fun o q => e _ o q)
  one := E.one
/-- slots forgotten, owned ones handed over -/
inductive Wk : List SD → List SD → Prop
  | nil : Wk [] []
  | eq {s r r'} : Wk r r' → Wk (s :: r) (s :: r')
  | no {s r r'} : Wk r r' → Wk (s :: r) (.no :: r')
  | frz {d r r'} : Wk r r' → Wk (.own d :: r) (.val d :: r')
theorem Wk.refl : ∀ ρ, Wk ρ ρ
  | [] => .nil
  | _ :: r => .eq (Wk.refl r)
theorem Wk.get : ∀ {ρ ρ' : List SD}, Wk ρ ρ' → ∀ (i : Nat) s, ρ'[i]? = some s → s = .no ∨ ρ[i]? = some s ∨ ∃ d, s = .val d ∧ ρ[i]? = some (.own d)
  | _, _, .nil, i, s, h => by simp at h
  | _, _, .eq w, 0, s, h => .inr (.inl h)
  | _, _, .no w, 0, s, h => .inl (by rw [List.getElem?_cons_zero] at h; cases h; rfl)
  | _, _, .frz w, 0, s, h => .inr (.inr ⟨_, by rw [List.getElem?_cons_zero] at h; cases h; rfl, rfl⟩)
  | _, _, .eq w, i + 1, s, h => Wk.get w i s h
  | _, _, .no w, i + 1, s, h => Wk.get w i s h
  | _, _, .frz w, i + 1, s, h => Wk.get w i s h
theorem Wk.length : ∀ {ρ ρ' : List SD}, Wk ρ ρ' → ρ.length = ρ'.length
  | _, _, .nil => rfl
  | _, _, .eq w => congrArg (· + 1) (Wk.length w)
  | _, _, .no w => congrArg (· + 1) (Wk.length w)
  | _, _, .frz w => congrArg (· + 1) (Wk.length w)
theorem Wk.own {ρ ρ' : List SD} (w : Wk ρ ρ') {i : Nat} {d : D} (h : ρ'[i]? = some (.own d)) : ρ[i]? = some (.own d) := by
  rcases w.get i _ h with z | z | ⟨_, z, _⟩
  · cases z
  · exact z
  · cases z
theorem Wk.ow {ρ ρ' : List SD} (w : Wk ρ ρ') {σ : L2.St} {i : Nat} {a : Addr} (h : Ow ρ' σ i a) : Ow ρ σ i a := ⟨let ⟨d, q⟩ := h.1; ⟨d, w.own q⟩, h.2⟩
theorem Wk.sts {ρ ρ' : List SD} (w : Wk ρ ρ') {i : Nat} {μ : Addr → Option D} (h : ρ'[i]? = some (.st μ)) : ρ[i]? = some (.st μ) := by
  rcases w.get i _ h with z | z | ⟨_, z, _⟩
  · cases z
  · exact z
  · cases z
theorem Wk.stt {ρ ρ' : List SD} (w : Wk ρ ρ') {a : Addr} (h : Stt ρ' a) : Stt ρ a := let ⟨i, μ, d, h1, h2⟩ := h; ⟨i, μ, d, w.sts h1, h2⟩
theorem Wk.mo {ρ ρ' : List SD} (w : Wk ρ ρ') {σ : L2.St} {a : Addr} (h : Mo M0 ρ' σ a) : Mo M0 ρ σ a := by
  rcases h with (h | h) | ⟨i, h⟩
  · exact .inl (.inl h)
  · exact .inl (.inr (w.stt h))
  · exact .inr ⟨i, w.ow h⟩
theorem OwnAt.rp {a : Addr} (m : ¬ M a) : ∀ {d : D}, OwnAt K H M a d → Rp K H M d (.ref a)
  | .lst ds, ⟨xs, h, r⟩ => ⟨a, xs, rfl, m, h, r⟩
  | .obj _ fs, ⟨dx, vs, h, r⟩ => ⟨a, dx, vs, rfl, m, h, r⟩
  | .me _ _ fs, ⟨z, dx, vs, h, r⟩ => by subst z; exact ⟨dx, vs, rfl, m, h, r⟩
  | .dk _, ⟨vs, h, r⟩ => ⟨a, vs, rfl, m, h, r⟩
  | .dt _, ⟨vs, h, r⟩ => ⟨a, vs, rfl, m, h, r⟩
theorem EnvOk.wk (E : EnvOk K H0 M0 ρ σ H) (w : Wk ρ ρ') : EnvOk K H0 M0 ρ' σ H where
  len := w.length.symm.trans E.len
  ex := E.ex
  m0 := E.m0
  fresh := fun i a h => E.fresh i a (w.ow h)
  inj := fun i j a h k => E.inj i j a (w.ow h) (w.ow k)
  val := fun i d h => by
    have l : Le H (Mo M0 ρ σ) H (Mo M0 ρ' σ) := Le.sub fun a => w.mo
    rcases w.get i _ h with z | z | ⟨d', z, q⟩
    · cases z
    · obtain ⟨v, h1, h2⟩ := E.val i d z
      exact ⟨v, h1, Rp.le l d v h2⟩
    · cases z
      obtain ⟨a, h1, h2⟩ := E.own i d q
      refine ⟨.ref a, h1, ?_⟩
      have oi : Ow ρ σ i a := ⟨⟨d, q⟩, h1⟩
      have nm : ¬ Mo M0 ρ' σ a := fun m => by
        rcases m with (m | m) | ⟨j, m⟩
        · exact (E.m0 a m).ne (E.fresh i a oi)
        · exact E.sto i a oi (w.stt m)
        · have e := E.inj i j a oi (w.ow m)
          subst e
          obtain ⟨d', q'⟩ := m.1
          rw [h] at q'; cases q'
      exact OwnAt.rp nm (h2.le l fun _ q => q)
  own := fun i d h => by
    obtain ⟨a, h1, h2⟩ := E.own i d (w.own h)
    exact ⟨a, h1, h2.le (Le.sub fun a => w.mo) fun _ q => q⟩
  stf := fun a h => E.stf a (w.stt h)
  sto := fun i a h k => E.sto i a (w.ow h) (w.stt k)
  st := fun i μ h a d q => (E.st i μ (w.sts h) a d q).le (Le.sub fun a => w.mo) fun _ q => q
  one := fun i j μ μ' h k => E.one i j μ μ' (w.sts h) (w.sts k)
theorem set_some {α : Type} {l : List α} {i j : Nat} {x y : α} (h : (l.set i x)[j]? = some y) : (j = i ∧ y = x ∧ i < l.length) ∨ (j ≠ i ∧ l[j]? = some y) := by
  by_cases e : i = j
  · subst e
    by_cases hl : i < l.length
    · rw [List.getElem?_set_self hl] at h; cases h
      exact .inl ⟨rfl, rfl, hl⟩
    · rw [List.getElem?_eq_none (by rw [List.length_set]; omega)] at h; cases h
  · rw [List.getElem?_set_ne e] at h
    exact .inr ⟨Ne.symm e, h⟩
/-- a value stored -/
theorem EnvOk.set (E : EnvOk K H0 M0 ρ σ H) {i : Nat} {d : D} {v : V} (hi : i < σ.length) (r : Rp K H (Mo M0 ρ σ) d v) : EnvOk K H0 M0 (ρ.set i (.val d)) (σ.set i (some v)) H := by
  have ow : ∀ j a, Ow (ρ.set i (.val d)) (σ.set i (some v)) j a → j ≠ i ∧ Ow ρ σ j a := fun j a h => by
    obtain ⟨⟨d', h1⟩, h2⟩ := h
    rcases set_some h1 with ⟨_, z, _⟩ | ⟨ne, z⟩
    · cases z
    · rw [List.getElem?_set_ne (Ne.symm ne)] at h2
      exact ⟨ne, ⟨d', z⟩, h2⟩
  have sts : ∀ {j : Nat} {μ : Addr → Option D}, (ρ.set i (.val d))[j]? = some (.st μ) → ρ[j]? = some (.st μ) := fun h => by
    rcases set_some h with ⟨_, z, _⟩ | ⟨_, z⟩
    · cases z
    · exact z
  have stt : ∀ {a : Addr}, Stt (ρ.set i (.val d)) a → Stt ρ a := fun ⟨j, μ, d', h1, h2⟩ => ⟨j, μ, d', sts h1, h2⟩
  have l : Le H (Mo M0 ρ σ) H (Mo M0 (ρ.set i (.val d)) (σ.set i (some v))) := Le.sub fun a m => by
    rcases m with (m | m) | ⟨j, m⟩
    · exact .inl (.inl m)
    · exact .inl (.inr (stt m))
    · exact .inr ⟨j, (ow j a m).2⟩
  refine ⟨by rw [List.length_set, List.length_set]; exact E.len, E.ex, E.m0, fun j a h => E.fresh j a (ow j a h).2, fun j k a h h' => E.inj j k a (ow j a h).2 (ow k a h').2, fun j d' h => ?_, fun j d' h => ?_, fun a h => E.stf a (stt h), fun j a h k => E.sto j a (ow j a h).2 (stt k), fun j μ h a d' q => (E.st j μ (sts h) a d' q).le l fun _ q => q, fun j k μ μ' h h' => E.one j k μ μ' (sts h) (sts h')⟩
  · rcases set_some h with ⟨e, z, _⟩ | ⟨ne, z⟩
    · cases z; subst e
      exact ⟨v, List.getElem?_set_self hi, Rp.le l _ _ r⟩
    · obtain ⟨u, h1, h2⟩ := E.val j d' z
      exact ⟨u, by rw [List.getElem?_set_ne (Ne.symm ne)]; exact h1, Rp.le l _ _ h2⟩
  · rcases set_some h with ⟨_, z, _⟩ | ⟨ne, z⟩
    · cases z
    · obtain ⟨a, h1, h2⟩ := E.own j d' z
      exact ⟨a, by rw [List.getElem?_set_ne (Ne.symm ne)]; exact h1, h2.le l fun _ q => q⟩
/-- a new object stored that none else knows: it was laid behind H1 -/
theorem EnvOk.setOwn {H1 : Hp} (E : EnvOk K H0 M0 ρ σ H1) {i : Nat} {d : D} {p : Addr} (hi : i < σ.length) (np : H1 p = none) (e : Ex H1 H) (r : OwnAt K H (fun a => Mo M0 ρ σ a ∨ a = p) p d) :
    EnvOk K H0 M0 (ρ.set i (.own d)) (σ.set i (some (.ref p))) H := by
  have ow : ∀ j a, Ow (ρ.set i (.own d)) (σ.set i (some (.ref p))) j a → (j = i ∧ a = p) ∨ (j ≠ i ∧ Ow ρ σ j a) := fun j a h => by
    obtain ⟨⟨d', h1⟩, h2⟩ := h
    rcases set_some h1 with ⟨z, _, _⟩ | ⟨ne, z⟩
    · subst z
      rw [List.getElem?_set_self hi] at h2; cases h2
      exact .inl ⟨rfl, rfl⟩
    · rw [List.getElem?_set_ne (Ne.symm ne)] at h2
      exact .inr ⟨ne, ⟨d', z⟩, h2⟩
  have onp : ∀ j a, Ow ρ σ j a → a ≠ p := fun j a h z => by
    subst z
    exact E.dom a (.inr ⟨j, h⟩) np
  have sts : ∀ {j : Nat} {μ : Addr → Option D}, (ρ.set i (.own d))[j]? = some (.st μ) → ρ[j]? = some (.st μ) := fun h => by
    rcases set_some h with ⟨_, z, _⟩ | ⟨_, z⟩
    · cases z
    · exact z
  have stt : ∀ {a : Addr}, Stt (ρ.set i (.own d)) a → Stt ρ a := fun ⟨j, μ, d', h1, h2⟩ => ⟨j, μ, d', sts h1, h2⟩
  have mo : ∀ a, Mo M0 (ρ.set i (.own d)) (σ.set i (some (.ref p))) a → Mo M0 ρ σ a ∨ a = p := fun a m => by
    rcases m with (m | m) | ⟨j, m⟩
    · exact .inl (.inl (.inl m))
    · exact .inl (.inl (.inr (stt m)))
    · rcases ow j a m with ⟨_, z⟩ | ⟨_, z⟩
      · exact .inr z
      · exact .inl (.inr ⟨j, z⟩)
  have l : Le H1 (Mo M0 ρ σ) H (Mo M0 (ρ.set i (.own d)) (σ.set i (some (.ref p)))) := fun a o h m => ⟨e _ _ h, fun q => by
    rcases mo a q with q | q
    · exact m q
    · subst q; rw [np] at h; cases h⟩
  refine ⟨by rw [List.length_set, List.length_set]; exact E.len, E.ex.trans e, E.m0, fun j a h => ?_, fun j k a h h' => ?_, fun j d' h => ?_, fun j d' h => ?_, fun a h => E.stf a (stt h), fun j a h k => ?_, fun j μ h a d' q => (E.st j μ (sts h) a d' q).le l fun o q => e _ _ q, fun j k μ μ' h h' => E.one j k μ μ' (sts h) (sts h')⟩
  · rcases ow j a h with ⟨_, z⟩ | ⟨_, z⟩
    · rw [z]; exact E.ex.back np
    · exact E.fresh j a z
  · rcases ow j a h with ⟨z1, z2⟩ | ⟨n1, z1⟩ <;> rcases ow k a h' with ⟨y1, y2⟩ | ⟨n2, y1⟩
    · rw [z1, y1]
    · exact absurd z2 (onp k a y1)
    · exact absurd y2 (onp j a z1)
    · exact E.inj j k a z1 y1
  · rcases set_some h with ⟨_, z, _⟩ | ⟨ne, z⟩
    · cases z
    · obtain ⟨u, h1, h2⟩ := E.val j d' z
      exact ⟨u, by rw [List.getElem?_set_ne (Ne.symm ne)]; exact h1, Rp.le l _ _ h2⟩
  · rcases set_some h with ⟨z1, z, _⟩ | ⟨ne, z⟩
    · cases z; subst z1
      exact ⟨p, List.getElem?_set_self hi, r.le (Le.sub mo) fun _ q => q⟩
    · obtain ⟨a, h1, h2⟩ := E.own j d' z
      exact ⟨a, by rw [List.getElem?_set_ne (Ne.symm ne)]; exact h1, h2.le l fun o q => e _ _ q⟩
  · rcases ow j a h with ⟨_, z⟩ | ⟨_, z⟩
    · subst z
      exact E.dom a (.inl (.inr (stt k))) np
    · exact E.sto j a z (stt k)
/-- an owned object written -/
theorem EnvOk.write (E : EnvOk K H0 M0 ρ σ H) {i : Nat} {d d' : D} {p : Addr} {o : HO} (h : ρ[i]? = some (.own d)) (hp : σ[i]? = some (some (.ref p))) (r : OwnAt K (upd H p o) (Mo M0 ρ σ) p d') :
    EnvOk K H0 M0 (ρ.set i (.own d')) σ (upd H p o) := by
  have hl : i < ρ.length := (List.getElem?_eq_some_iff.mp h).1
  have ow : ∀ j a, Ow (ρ.set i (.own d')) σ j a → Ow ρ σ j a := fun j a q => by
    obtain ⟨⟨e, h1⟩, h2⟩ := q
    rcases set_some h1 with ⟨z, _, _⟩ | ⟨ne, z⟩
    · subst z; exact ⟨⟨d, h⟩, h2⟩
    · exact ⟨⟨e, z⟩, h2⟩
  have sts : ∀ {j : Nat} {μ : Addr → Option D}, (ρ.set i (.own d'))[j]? = some (.st μ) → ρ[j]? = some (.st μ) := fun h => by
    rcases set_some h with ⟨_, z, _⟩ | ⟨_, z⟩
    · cases z
    · exact z
  have stt : ∀ {a : Addr}, Stt (ρ.set i (.own d')) a → Stt ρ a := fun ⟨j, μ, d', h1, h2⟩ => ⟨j, μ, d', sts h1, h2⟩
  have wp : Ow ρ σ i p := ⟨⟨d, h⟩, hp⟩
  have mp : Mo M0 ρ σ p := .inr ⟨i, wp⟩
  have mo : ∀ a, Mo M0 (ρ.set i (.own d')) σ a → Mo M0 ρ σ a := fun a z => by
    rcases z with (z | z) | ⟨j, z⟩
    · exact .inl (.inl z)
    · exact .inl (.inr (stt z))
    · exact .inr ⟨j, ow j a z⟩
  have l : Le H (Mo M0 ρ σ) (upd H p o) (Mo M0 (ρ.set i (.own d')) σ) := fun a u q m => ⟨by
    rw [upd_ne (fun z => m (by rw [z]; exact mp))]; exact q, fun z => m (mo a z)⟩
  refine ⟨by rw [List.length_set]; exact E.len, fun a u q => ?_, E.m0, fun j a q => E.fresh j a (ow j a q), fun j k a q q' => E.inj j k a (ow j a q) (ow k a q'), fun j e q => ?_, fun j e q => ?_, fun a h => E.stf a (stt h), fun j a h k => E.sto j a (ow j a h) (stt k), fun j μ h a d' q => ?_, fun j k μ μ' h h' => E.one j k μ μ' (sts h) (sts h')⟩
  · rw [upd_ne (fun z => by rw [z, E.fresh i p wp] at q; cases q)]
    exact E.ex a u q
  · rcases set_some q with ⟨_, z, _⟩ | ⟨ne, z⟩
    · cases z
    · obtain ⟨u, h1, h2⟩ := E.val j e z
      exact ⟨u, h1, Rp.le l _ _ h2⟩
  · rcases set_some q with ⟨z1, z, _⟩ | ⟨ne, z⟩
    · cases z; subst z1
      exact ⟨p, hp, r.le (Le.sub mo) fun _ q => q⟩
    · obtain ⟨a, h1, h2⟩ := E.own j e z
      have na : a ≠ p := fun z' => ne (E.inj j i a ⟨⟨e, z⟩, h1⟩ (z' ▸ wp))
      exact ⟨a, h1, h2.le l fun u q => by rw [upd_ne na]; exact q⟩
  · have na : a ≠ p := fun z' => E.sto i p wp (z' ▸ ⟨j, μ, d', sts h, q⟩)
    exact (E.st j μ (sts h) a d' q).le l fun u q => by rw [upd_ne na]; exact q
/-- another entry: all that stands, but what this frame owns -/
theorem EnvOk.reenter (E : EnvOk K H0 M0 ρ σ H) : ∃ H1, Ex H0 H1 ∧ EnvOk K H1 M0 ρ σ H ∧ ∀ a o, H a = some o → ¬ Mo M0 ρ σ a → H1 a = some o := by
  classical
  have fr : ∀ a, (Stt ρ a ∨ ∃ i, Ow ρ σ i a) → H0 a = none := fun a h => by
    rcases h with h | ⟨i, h⟩
    · exact E.stf a h
    · exact E.fresh i a h
  refine ⟨fun a => if Stt ρ a ∨ ∃ i, Ow ρ σ i a then none else H a, fun a o h => ?_, ⟨E.len, fun a o h => ?_, fun a m => ?_, fun i a h => ?_, E.inj, E.val, E.own, fun a h => if_pos (.inl h), E.sto, E.st, E.one⟩, fun a o h m => ?_⟩
  · have q : ¬ (Stt ρ a ∨ ∃ i, Ow ρ σ i a) := fun q => by rw [fr a q] at h; cases h
    show (if Stt ρ a ∨ ∃ i, Ow ρ σ i a then none else H a) = some o
    rw [if_neg q]
    exact E.ex a o h
  · by_cases q : Stt ρ a ∨ ∃ i, Ow ρ σ i a
    · simp only [if_pos q] at h; cases h
    · simp only [if_neg q] at h; exact h
  · have q : ¬ (Stt ρ a ∨ ∃ i, Ow ρ σ i a) := fun q => (E.m0 a m).ne (fr a q)
    show NT (if Stt ρ a ∨ ∃ i, Ow ρ σ i a then none else H a)
    rw [if_neg q]
    exact E.domN a (.inl (.inl m))
  · exact if_pos (.inr ⟨i, h⟩)
  · have q : ¬ (Stt ρ a ∨ ∃ i, Ow ρ σ i a) := fun q => m (by
      rcases q with q | q
      · exact .inl (.inr q)
      · exact .inr q)
    simp only [if_neg q]
    exact h
theorem EnvOk.base_le (E : EnvOk K H0 M0 ρ σ H) : Le H0 M0 H (Mo M0 ρ σ) := fun a o h m => ⟨E.ex a o h, fun q => by
  rcases q with (q | q) | ⟨i, q⟩
  · exact m q
  · rw [E.stf a q] at h; cases h
  · rw [E.fresh i a q] at h; cases h⟩
/-- slots wiped -/
def wipeR (ρ : List SD) : List Nat → List SD
  | [] => ρ
  | v :: vs => (wipeR ρ vs).set v .no
theorem Wk.set_no : ∀ (ρ : List SD) (i : Nat), Wk ρ (ρ.set i .no)
  | [], _ => .nil
  | _ :: r, 0 => .no (Wk.refl r)
  | _ :: r, i + 1 => .eq (Wk.set_no r i)
theorem EnvOk.clear (E : EnvOk K H0 M0 ρ σ H) {i : Nat} : EnvOk K H0 M0 (ρ.set i .no) (σ.set i none) H := by
  have E1 := E.wk (Wk.set_no ρ i)
  have ne : ∀ {j : Nat} {s : SD}, (ρ.set i .no)[j]? = some s → s ≠ .no → j ≠ i := fun {j s} h n z => by
    subst z
    rcases set_some h with ⟨_, z, _⟩ | ⟨z, _⟩
    · exact n z
    · exact z rfl
  have ow : ∀ j a, Ow (ρ.set i .no) (σ.set i none) j a → Ow (ρ.set i .no) σ j a := fun j a ⟨⟨d, h1⟩, h2⟩ => ⟨⟨d, h1⟩, by
    rw [List.getElem?_set_ne (Ne.symm (ne h1 (fun z => nomatch z)))] at h2; exact h2⟩
  have l : Le H (Mo M0 (ρ.set i .no) σ) H (Mo M0 (ρ.set i .no) (σ.set i none)) := Le.sub fun a m => by
    rcases m with m | ⟨j, m⟩
    · exact .inl m
    · exact .inr ⟨j, ow j a m⟩
  refine ⟨by rw [List.length_set, List.length_set]; exact E.len, E1.ex, E1.m0, fun j a h => E1.fresh j a (ow j a h), fun j k a h h' => E1.inj j k a (ow j a h) (ow k a h'), fun j d h => ?_, fun j d h => ?_, E1.stf, fun j a h k => E1.sto j a (ow j a h) k, fun j μ h a d q => (E1.st j μ h a d q).le l fun _ q => q, E1.one⟩
  · obtain ⟨v, h1, h2⟩ := E1.val j d h
    exact ⟨v, by rw [List.getElem?_set_ne (Ne.symm (ne h (fun z => nomatch z)))]; exact h1, Rp.le l _ _ h2⟩
  · obtain ⟨a, h1, h2⟩ := E1.own j d h
    exact ⟨a, by rw [List.getElem?_set_ne (Ne.symm (ne h (fun z => nomatch z)))]; exact h1, h2.le l fun _ q => q⟩
theorem EnvOk.wipe (E : EnvOk K H0 M0 ρ σ H) : ∀ vs : List Nat, EnvOk K H0 M0 (wipeR ρ vs) (wipe σ vs) H
  | [] => E
  | _ :: vs => (EnvOk.wipe E vs).clear
end
end RW

end
section
/-! expressions and tests over data -/
namespace RW
open PySem PySem.Spec PyProof.Rows L2
section
variable {X : Cx} {e : Expr}
theorem pe_w {t t' : TE} (h : PE X e t) (w : ∀ σ H Q, t' σ H Q → t σ H Q) : PE X e t' := ⟨fun pins s σ H Q I q => h.run pins s σ H Q I (w _ _ _ q)⟩
theorem pt_w {t t' : TT} (h : PT X e t) (w : ∀ σ H Q, t' σ H Q → t σ H Q) : PT X e t' := ⟨fun pins s σ H Q I q => h.run pins s σ H Q I (w _ _ _ q)⟩
theorem pw_w {t t' : TT} (h : PW X e t) (w : ∀ σ H Q, t' σ H Q → t σ H Q) : PW X e t' := ⟨fun wh pins s σ H Q I q => h.run wh pins s σ H Q I (w _ _ _ q)⟩
theorem pa_w {es : List Expr} {t t' : TA} (h : PA X es t) (w : ∀ σ H Q, t' σ H Q → t σ H Q) : PA X es t' := ⟨fun pos pins s σ H Q I q => h.run pos pins s σ H Q I (w _ _ _ q)⟩
theorem pss_w {st : List Stmt} {t t' : TS} (h : PSs X st t) (w : ∀ D σ H, t' D σ H → t D σ H) : PSs X st t' := ⟨fun pins s σ H D I q => h.run pins s σ H D I (w _ _ _ q)⟩
theorem ps_w {st : Stmt} {t t' : TS} (h : PS X st t) (w : ∀ D σ H, t' D σ H → t D σ H) : PS X st t' := ⟨fun pins s σ H D I q => h.run pins s σ H D I (w _ _ _ q)⟩
theorem pe_fam {ι : Type} {t : ι → TE} {p : ι → Prop} (h : ∀ i, p i → PE X e (t i)) : PE X e (fun σ H Q => ∃ i, p i ∧ t i σ H Q) := ⟨fun pins s σ H Q I ⟨i, hp, q⟩ => (h i hp).run pins s σ H Q I q⟩
theorem pt_fam {ι : Type} {t : ι → TT} {p : ι → Prop} (h : ∀ i, p i → PT X e (t i)) : PT X e (fun σ H Q => ∃ i, p i ∧ t i σ H Q) := ⟨fun pins s σ H Q I ⟨i, hp, q⟩ => (h i hp).run pins s σ H Q I q⟩
theorem pw_fam {ι : Type} {t : ι → TT} {p : ι → Prop} (h : ∀ i, p i → PW X e (t i)) : PW X e (fun σ H Q => ∃ i, p i ∧ t i σ H Q) := ⟨fun wh pins s σ H Q I ⟨i, hp, q⟩ => (h i hp).run wh pins s σ H Q I q⟩
theorem pss_fam {ι : Type} {st : List Stmt} {t : ι → TS} {p : ι → Prop} (h : ∀ i, p i → PSs X st (t i)) : PSs X st (fun D σ H => ∃ i, p i ∧ t i D σ H) := ⟨fun pins s σ H D I ⟨i, hp, q⟩ => (h i hp).run pins s σ H D I q⟩
theorem ps_fam {ι : Type} {st : Stmt} {t : ι → TS} {p : ι → Prop} (h : ∀ i, p i → PS X st (t i)) : PS X st (fun D σ H => ∃ i, p i ∧ t i D σ H) := ⟨fun pins s σ H D I ⟨i, hp, q⟩ => (h i hp).run pins s σ H D I q⟩
end

/-! ### what is said of an expression, a test, arguments -/
def tE (K : PySem.W.Frag) (ρ : List SD) (d : D) : TE := fun σ H Q => ∃ H0 M0, EnvOk K H0 M0 ρ σ H ∧ ∀ v H', Ex H H' → Rp K H' (Mo M0 ρ σ) d v → Q v H'
/-- a new object that none else knows -/
def tEO (K : PySem.W.Frag) (ρ : List SD) (d : D) : TE := fun σ H Q => ∃ H0 M0, EnvOk K H0 M0 ρ σ H ∧ ∀ p H', H p = none → Ex H H' → OwnAt K H' (fun a => Mo M0 ρ σ a ∨ a = p) p d → Q (.ref p) H'
def tT (K : PySem.W.Frag) (ρ : List SD) (b : Bool) : TT := fun σ H Q => ∃ H0 M0, EnvOk K H0 M0 ρ σ H ∧ ∀ H', Ex H H' → Q b H'
def tAs (K : PySem.W.Frag) (ρ : List SD) (ds : List D) : TA := fun σ H Q => ∃ H0 M0, EnvOk K H0 M0 ρ σ H ∧ ∀ vs H', Ex H H' → Rps K H' (Mo M0 ρ σ) ds vs → Q vs H'
abbrev ED (X : Cx) (ρ : List SD) (e : Expr) (d : D) : Prop := PE X e (tE X.K ρ d)
abbrev EO (X : Cx) (ρ : List SD) (e : Expr) (d : D) : Prop := PE X e (tEO X.K ρ d)
abbrev ET (X : Cx) (ρ : List SD) (e : Expr) (b : Bool) : Prop := PT X e (tT X.K ρ b)
abbrev EW (X : Cx) (ρ : List SD) (e : Expr) (b : Bool) : Prop := PW X e (tT X.K ρ b)
abbrev EA (X : Cx) (ρ : List SD) (es : List Expr) (ds : List D) : Prop := PA X es (tAs X.K ρ ds)
/-- operations by data: r takes what stands for dx, dy to what stands for dz -/
def R2D (K : PySem.W.Frag) (r : R2) (dx dy dz : D) : Prop := ∀ (H : Hp) (M : MS) (x y : V), (∀ a, M a → H a ≠ none) → Rp K H M dx x → Rp K H M dy y → ∀ Q : VK, (∀ z H', Ex H H' → Rp K H' M dz z → Q z H') → r x y H Q
def R1D (K : PySem.W.Frag) (r : V → Hp → VK → Prop) (dx dz : D) : Prop := ∀ (H : Hp) (M : MS) (x : V), (∀ a, M a → H a ≠ none) → Rp K H M dx x → ∀ Q : VK, (∀ z H', Ex H H' → Rp K H' M dz z → Q z H') → r x H Q
def RsD (K : PySem.W.Frag) (r : List V → Hp → VK → Prop) (ds : List D) (dz : D) : Prop := ∀ (H : Hp) (M : MS) (vs : List V), (∀ a, M a → H a ≠ none) → Rps K H M ds vs → ∀ Q : VK, (∀ z H', Ex H H' → Rp K H' M dz z → Q z H') → r vs H Q
/-- .. a new object -/
def RsO (K : PySem.W.Frag) (r : List V → Hp → VK → Prop) (ds : List D) (dz : D) : Prop := ∀ (H : Hp) (M : MS) (vs : List V), (∀ a, M a → H a ≠ none) → Rps K H M ds vs → ∀ Q : VK, (∀ p H', H p = none → Ex H H' → OwnAt K H' (fun a => M a ∨ a = p) p dz → Q (.ref p) H') → r vs H Q
def OpD (X : Cx) (f : Value → Value → Sem Value) (dx dy dz : D) : Prop := ∃ r, OpR X f r ∧ R2D X.K r dx dy dz
def UnD (X : Cx) (f : Value → Sem Value) (dx dz : D) : Prop := ∃ r, UnR X f r ∧ R1D X.K r dx dz
def CallD (X : Cx) (f : Value) (ds : List D) (dz : D) : Prop := ∃ r, CallR X f r ∧ RsD X.K r ds dz
def CallO (X : Cx) (f : Value) (ds : List D) (dz : D) : Prop := ∃ r, CallR X f r ∧ RsO X.K r ds dz
def IxD (X : Cx) (dx dy dz : D) : Prop := ∃ r, IxR X r ∧ R2D X.K r dx dy dz

section
variable {X : Cx} {ρ : List SD} {e a b c : Expr} {dx dy dz d : D} {pos : Pos}
theorem ed_eq {d' : D} (h : ED X ρ e d) (q : d = d') : ED X ρ e d' := q ▸ h
theorem et_eq {p q : Bool} (h : ET X ρ e p) (r : p = q) : ET X ρ e q := r ▸ h
theorem eo_eq {d' : D} (h : EO X ρ e d) (q : d = d') : EO X ρ e d' := q ▸ h
theorem ed_var (i : Nat) {x : Str} (hρ : ρ[i]? = some (.val d)) (hN : X.N[i]? = some x) (hv : Vis X.env.scope x) (hd : (x == ("__debug__" : Str)) = false := by decide) (hcd : (x == ("__classdict__" : Str)) = false := by decide) : ED X ρ (.Name x pos) d :=
  pe_w (pe_var hN hv hd hcd) fun σ H Q ⟨H0, M0, E, q⟩ => let ⟨v, h1, h2⟩ := E.val i d hρ; ⟨v, h1, q v H (Ex.refl H) h2⟩
theorem ed_int {i j} : ED X ρ (.Constant (.int i) j pos) (.int i) := pe_w pe_int fun σ H Q ⟨H0, M0, E, q⟩ => q _ H (Ex.refl H) rfl
theorem ed_bl {b j} : ED X ρ (.Constant (.bool b) j pos) (.bl b) := pe_w pe_bl fun σ H Q ⟨H0, M0, E, q⟩ => q _ H (Ex.refl H) rfl
theorem ed_non {j} : ED X ρ (.Constant .none j pos) .non := pe_w pe_non fun σ H Q ⟨H0, M0, E, q⟩ => q _ H (Ex.refl H) rfl
theorem ed_str {x j} : ED X ρ (.Constant (.str x) j pos) (.str x) := pe_w pe_str fun σ H Q ⟨H0, M0, E, q⟩ => q _ H (Ex.refl H) rfl
/-- a value of the module -/
theorem ed_glob {x : Str} {v : V} {u : Value} (hg : Gl X x) (hm : X.mg x = some u) (r : RelV v u) (hr : ∀ H M, Rp X.K H M d v) (hd : (x == ("__debug__" : Str)) = false := by decide) : ED X ρ (.Name x pos) d :=
  pe_w (pe_glob hg hm r hd) fun σ H Q ⟨H0, M0, E, q⟩ => q _ H (Ex.refl H) (hr _ _)
theorem eo_ed (h : EO X ρ e d) : ED X ρ e d := pe_w h fun σ H Q ⟨H0, M0, E, q⟩ => ⟨H0, M0, E, fun p H' np ex r => q _ H' ex (by
  have nm : ¬ Mo M0 ρ σ p := fun m => E.dom p m np
  exact OwnAt.rp nm (r.le (Le.sub fun a m => .inl m) fun _ q => q))⟩
theorem t2 {ra rb : TE} {σ : L2.St} {H : Hp} {H0 : Hp} {M0 : MS} (E : EnvOk X.K H0 M0 ρ σ H) {R : V → V → Hp → Prop} (k : ∀ x y H', Ex H H' → Rp X.K H' (Mo M0 ρ σ) dx x → Rp X.K H' (Mo M0 ρ σ) dy y → R x y H') :
    tE X.K ρ dx σ H fun x H1 => tE X.K ρ dy σ H1 fun y H2 => R x y H2 :=
  ⟨H0, M0, E, fun x H1 e1 r1 => ⟨H0, M0, E.ext e1, fun y H2 e2 r2 => k x y H2 (e1.trans e2) (Rp.le (Le.ex e2) _ _ r1) r2⟩⟩
/-- the general step of a two-place operation -/
theorem tOp_ed {r : R2} (hr : R2D X.K r dx dy dz) {σ : L2.St} {H : Hp} {Q : VK} (h : tE X.K ρ dz σ H Q) : tOp r (tE X.K ρ dx) (tE X.K ρ dy) σ H Q := by
  obtain ⟨H0, M0, E, q⟩ := h
  exact t2 (ra := fun _ _ _ => True) (rb := fun _ _ _ => True) E fun x y H' e rx ry => hr H' _ x y (E.ext e).dom rx ry Q fun z H2 e2 rz => q z H2 (e.trans e2) rz
theorem ed_bin {op : Operator} (ha : ED X ρ a dx) (hb : ED X ρ b dy) (ho : OpD X (binaryOp op) dx dy dz) : ED X ρ (.BinOp a op b pos) dz := by
  obtain ⟨r, h1, h2⟩ := ho
  exact pe_w (pe_op h1 ha hb) fun σ H Q h => tOp_ed h2 h
theorem ed_cmp {op : CmpOp} (ha : ED X ρ a dx) (hb : ED X ρ b dy) (ho : OpD X (compareOp op) dx dy dz) (hm : behindInMarks op b = false := by first | exact nomark _ | rfl) : ED X ρ (.Compare a [op] [b] pos) dz := by
  obtain ⟨r, h1, h2⟩ := ho
  exact pe_w (pe_cmpR h1 ha hb hm) fun σ H Q h => tOp_ed h2 h
theorem tTest_ed {t : TE} {k : Bool} (w : ∀ σ H Q, tE X.K ρ (.bl k) σ H Q → t σ H Q) {σ : L2.St} {H : Hp} {Q : Bool → Hp → Prop} (h : tT X.K ρ k σ H Q) : tTest t σ H Q := by
  obtain ⟨H0, M0, E, q⟩ := h
  exact w σ H _ ⟨H0, M0, E, fun v H' e r => ⟨k, r, q H' e⟩⟩
theorem et_cmp {op : CmpOp} {k : Bool} (ha : ED X ρ a dx) (hb : ED X ρ b dy) (ho : OpD X (compareOp op) dx dy (.bl k)) (hm : behindInMarks op b = false := by first | exact nomark _ | rfl) : ET X ρ (.Compare a [op] [b] pos) k := by
  obtain ⟨r, h1, h2⟩ := ho
  exact pt_w (pt_cmpR h1 ha hb hm) fun σ H Q h => tTest_ed (fun σ H Q h => tOp_ed h2 h) h
/-- a op b op' c -/
theorem tChain_ed {r r' : R2} {dc : D} {k k' : Bool} (h1 : R2D X.K r dx dy (.bl k)) (h2 : k = true → R2D X.K r' dy dc (.bl k')) {σ : L2.St} {H : Hp} {Q : VK} (h : tE X.K ρ (.bl (k && k')) σ H Q) : tChain r r' (tE X.K ρ dx) (tE X.K ρ dy) (tE X.K ρ dc) σ H Q := by
  obtain ⟨H0, M0, E, q⟩ := h
  refine t2 (ra := fun _ _ _ => True) (rb := fun _ _ _ => True) E fun x y H' e rx ry => h1 H' _ x y (E.ext e).dom rx ry _ fun z H2 e2 rz => ⟨k, rz, ?_⟩
  cases hk : k with
  | true =>
    subst hk
    refine ⟨H0, M0, E.ext (e.trans e2), fun w H3 e3 rw => h2 rfl H3 _ y w (E.ext ((e.trans e2).trans e3)).dom (Rp.le (Le.ex (e2.trans e3)) _ _ ry) rw Q fun z' H4 e4 rz' => q z' H4 (((e.trans e2).trans e3).trans e4) rz'⟩
  | false =>
    subst hk
    exact q _ H2 (e.trans e2) rfl
theorem ed_chain {op op' : CmpOp} {dc : D} {k k' : Bool} (ha : ED X ρ a dx) (hb : ED X ρ b dy) (hc : ED X ρ c dc) (ho : OpD X (compareOp op) dx dy (.bl k)) (ho' : OpD X (compareOp op') dy dc (.bl k'))
    (hm : lastMarks [op, op'] [b, c] = false := by with_unfolding_all rfl) : ED X ρ (.Compare a [op, op'] [b, c] pos) (.bl (k && k')) := by
  obtain ⟨r, h1, h2⟩ := ho
  obtain ⟨r', h1', h2'⟩ := ho'
  exact pe_w (pe_chain h1 h1' ha hb hc hm) fun σ H Q h => tChain_ed h2 (fun _ => h2') h
theorem et_chain {op op' : CmpOp} {dc : D} {k k' : Bool} (ha : ED X ρ a dx) (hb : ED X ρ b dy) (hc : ED X ρ c dc) (ho : OpD X (compareOp op) dx dy (.bl k)) (ho' : OpD X (compareOp op') dy dc (.bl k'))
    (hm : lastMarks [op, op'] [b, c] = false := by with_unfolding_all rfl) : ET X ρ (.Compare a [op, op'] [b, c] pos) (k && k') := by
  obtain ⟨r, h1, h2⟩ := ho
  obtain ⟨r', h1', h2'⟩ := ho'
  exact pt_w (pt_chain h1 h1' ha hb hc hm) fun σ H Q h => tTest_ed (fun σ H Q h => tChain_ed h2 (fun _ => h2') h) h
theorem tUn_ed {r : V → Hp → VK → Prop} (hr : R1D X.K r dx dz) {σ : L2.St} {H : Hp} {Q : VK} (h : tE X.K ρ dz σ H Q) : tUn r (tE X.K ρ dx) σ H Q := by
  obtain ⟨H0, M0, E, q⟩ := h
  exact ⟨H0, M0, E, fun x H1 e1 r1 => hr H1 _ x (E.ext e1).dom r1 Q fun z H2 e2 rz => q z H2 (e1.trans e2) rz⟩
theorem ed_un {op : UnaryOp} (ha : ED X ρ a dx) (ho : UnD X (unaryOp op) dx dz) : ED X ρ (.UnaryOp op a pos) dz := by
  obtain ⟨r, h1, h2⟩ := ho
  exact pe_w (pe_un h1 ha) fun σ H Q h => tUn_ed h2 h
/-! tests -/
theorem et_val {k : Bool} (h : ED X ρ e (.bl k)) (he : ∀ whole, isTrue e X.env whole = (do let v ← whole; standAt e.pos; holding [v] (truthy v)) := by intro _; rfl) : ET X ρ e k :=
  pt_w (pt_val h he) fun σ H Q ⟨H0, M0, E, q⟩ => ⟨H0, M0, E, fun v H' e r => ⟨k, r, q H' e⟩⟩
theorem et_not {k : Bool} (h : ET X ρ a k) : ET X ρ (.UnaryOp .Not a pos) (!k) := pt_w (pt_not h) fun σ H Q ⟨H0, M0, E, q⟩ => ⟨H0, M0, E, q⟩
theorem ew_and1 {k : Bool} (h : ET X ρ a k) : EW X ρ (.BoolOp .And [a] pos) k := pw_and1 h
theorem ew_or1 {k : Bool} (h : ET X ρ a k) : EW X ρ (.BoolOp .Or [a] pos) k := pw_or1 h
theorem ew_and {k k' : Bool} {rest : List Expr} (h : ET X ρ a k) (h' : k = true → EW X ρ (.BoolOp .And (b :: rest) pos) k') : EW X ρ (.BoolOp .And (a :: b :: rest) pos) (k && k') :=
  pw_w (pw_and h (pw_fam (ι := Unit) (p := fun _ => k = true) (t := fun _ => tT X.K ρ k') fun _ hk => h' hk)) fun σ H Q ⟨H0, M0, E, q⟩ => ⟨H0, M0, E, fun H1 e1 => by
    cases hk : k with
    | true => subst hk; exact iteT ⟨(), rfl, H0, M0, E.ext e1, fun H2 e2 => q H2 (e1.trans e2)⟩
    | false => subst hk; exact iteF (q H1 e1)⟩
theorem ew_or {k k' : Bool} {rest : List Expr} (h : ET X ρ a k) (h' : k = false → EW X ρ (.BoolOp .Or (b :: rest) pos) k') : EW X ρ (.BoolOp .Or (a :: b :: rest) pos) (k || k') :=
  pw_w (pw_or h (pw_fam (ι := Unit) (p := fun _ => k = false) (t := fun _ => tT X.K ρ k') fun _ hk => h' hk)) fun σ H Q ⟨H0, M0, E, q⟩ => ⟨H0, M0, E, fun H1 e1 => by
    cases hk : k with
    | true => subst hk; exact iteT (q H1 e1)
    | false => subst hk; exact iteF ⟨(), rfl, H0, M0, E.ext e1, fun H2 e2 => q H2 (e1.trans e2)⟩⟩
theorem et_w {k : Bool} (h : EW X ρ e k) : ET X ρ e k := h.pt
/-! .. as values -/
theorem ed_one {op} (h : ED X ρ a d) : ED X ρ (.BoolOp op [a] pos) d := pe_one h
theorem ed_and {k k' : Bool} {rest : List Expr} (h : ED X ρ a (.bl k)) (h' : k = true → ED X ρ (.BoolOp .And (b :: rest) pos) (.bl k')) : ED X ρ (.BoolOp .And (a :: b :: rest) pos) (.bl (k && k')) :=
  pe_w (pe_and h (pe_fam (ι := Unit) (p := fun _ => k = true) (t := fun _ => tE X.K ρ (.bl k')) fun _ hk => h' hk)) fun σ H Q ⟨H0, M0, E, q⟩ => ⟨H0, M0, E, fun v H1 e1 r => ⟨k, r, by
    cases hk : k with
    | true => subst hk; exact iteT ⟨(), rfl, H0, M0, E.ext e1, fun v H2 e2 r2 => q v H2 (e1.trans e2) r2⟩
    | false => subst hk; exact iteF (q _ H1 e1 rfl)⟩⟩
theorem ed_or {k k' : Bool} {rest : List Expr} (h : ED X ρ a (.bl k)) (h' : k = false → ED X ρ (.BoolOp .Or (b :: rest) pos) (.bl k')) : ED X ρ (.BoolOp .Or (a :: b :: rest) pos) (.bl (k || k')) :=
  pe_w (pe_or h (pe_fam (ι := Unit) (p := fun _ => k = false) (t := fun _ => tE X.K ρ (.bl k')) fun _ hk => h' hk)) fun σ H Q ⟨H0, M0, E, q⟩ => ⟨H0, M0, E, fun v H1 e1 r => ⟨k, r, by
    cases hk : k with
    | true => subst hk; exact iteT (q _ H1 e1 rfl)
    | false => subst hk; exact iteF ⟨(), rfl, H0, M0, E.ext e1, fun v H2 e2 r2 => q v H2 (e1.trans e2) r2⟩⟩⟩
theorem ed_not {k : Bool} (h : ED X ρ a (.bl k)) : ED X ρ (.UnaryOp .Not a pos) (.bl (!k)) := pe_w (pe_not h) fun σ H Q ⟨H0, M0, E, q⟩ => ⟨H0, M0, E, fun v H1 e1 r => ⟨k, r, q _ H1 e1 rfl⟩⟩
theorem ed_if {k : Bool} {d1 d2 : D} (h : ET X ρ c k) (h1 : k = true → ED X ρ a d1) (h2 : k = false → ED X ρ b d2) : ED X ρ (.IfExp c a b pos) (if k = true then d1 else d2) :=
  pe_w (pe_ifExp h (pe_fam (ι := Unit) (p := fun _ => k = true) (t := fun _ => tE X.K ρ d1) fun _ hk => h1 hk) (pe_fam (ι := Unit) (p := fun _ => k = false) (t := fun _ => tE X.K ρ d2) fun _ hk => h2 hk)) fun σ H Q ⟨H0, M0, E, q⟩ => ⟨H0, M0, E, fun H1 e1 => by
    cases hk : k with
    | true => subst hk; exact iteT ⟨(), rfl, H0, M0, E.ext e1, fun v H2 e2 r2 => q v H2 (e1.trans e2) r2⟩
    | false => subst hk; exact iteF ⟨(), rfl, H0, M0, E.ext e1, fun v H2 e2 r2 => q v H2 (e1.trans e2) r2⟩⟩
/-! arguments, displays -/
theorem ea_nil : EA X ρ [] [] := pa_w pa_nil fun σ H Q ⟨H0, M0, E, q⟩ => q [] H (Ex.refl H) rfl
theorem ea_cons {es : List Expr} {ds : List D} (h : ED X ρ e d) (h' : EA X ρ es ds) (hs : starEach (e :: es) X.env = (false, eval e X.env) :: starEach es X.env := by rfl) : EA X ρ (e :: es) (d :: ds) :=
  pa_w (pa_cons h h' hs) fun σ H Q ⟨H0, M0, E, q⟩ => ⟨H0, M0, E, fun x H1 e1 r1 => ⟨H0, M0, E.ext e1, fun vs H2 e2 r2 => q (x :: vs) H2 (e1.trans e2) ⟨x, vs, rfl, Rp.le (Le.ex e2) _ _ r1, r2⟩⟩⟩
theorem small {n : Nat} (h : n ≤ 100000) : n ≤ sizeLine := Nat.le_trans h (by decide)
theorem small' {n : Nat} (h : n < 100000) : n < sizeLine := Nat.lt_of_lt_of_le h (by decide)
theorem Rp.new_tup {K : PySem.W.Frag} {H : Hp} {M : MS} {p : Addr} {ds : List D} {vs : List V} (dm : ∀ a, M a → H a ≠ none) (np : H p = none) (r : Rps K H M ds vs) : Rp K (upd H p (.tup vs)) M (.tup ds) (.ref p) :=
  ⟨p, vs, rfl, ⟨fun m => dm p m np, upd_same⟩, Rps.le (Le.ex (Ex.new np)) ds vs r⟩
theorem OwnAt.new_lst {K : PySem.W.Frag} {H : Hp} {M : MS} {p : Addr} {ds : List D} {vs : List V} (np : H p = none) (r : Rps K H M ds vs) : OwnAt K (upd H p (.lst vs)) (fun a => M a ∨ a = p) p (.lst ds) :=
  ⟨vs, upd_same, Rps.le (fun a o h m => ⟨by rw [upd_ne (ne_of_none h np)]; exact h, fun q => q.elim m (fun z => by rw [z, np] at h; cases h)⟩) ds vs r⟩
theorem ed_tup {es : List Expr} {ds : List D} {k : Nat} (h : EA X ρ es ds) (hz : ds.length ≤ 100000 := by decide) : ED X ρ (.Tuple es k pos) (.tup ds) :=
  pe_w (pe_tup h) fun σ H Q ⟨H0, M0, E, q⟩ => ⟨H0, M0, E, fun vs H1 e1 r1 => ⟨small (by rw [r1.length]; exact hz), fun p np => q _ _ (e1.trans (Ex.new np)) (Rp.new_tup (E.ext e1).dom np r1)⟩⟩
theorem eo_lst {es : List Expr} {ds : List D} (h : EA X ρ es ds) (hz : ds.length ≤ 100000 := by decide) : EO X ρ (.List es pos) (.lst ds) :=
  pe_w (pe_lst h) fun σ H Q ⟨H0, M0, E, q⟩ => ⟨H0, M0, E, fun vs H1 e1 r1 => ⟨small (by rw [r1.length]; exact hz), fun p np => q p _ (e1.back np) (e1.trans (Ex.new np)) (OwnAt.new_lst np r1)⟩⟩
theorem ed_ix (ha : ED X ρ a dx) (hb : ED X ρ b dy) (ho : IxD X dx dy dz) (hs : PlainIx b := by intro _ _; rfl) : ED X ρ (.Subscript a b pos) dz := by
  obtain ⟨r, h1, h2⟩ := ho
  exact pe_w (pe_ix h1 ha hb hs) fun σ H Q h => tOp_ed h2 h
theorem tCB_ed {r : List V → Hp → VK → Prop} {ds : List D} (hr : RsD X.K r ds dz) {σ : L2.St} {H : Hp} {Q : VK} (h : tE X.K ρ dz σ H Q) : tAs X.K ρ ds σ H fun vs H1 => r vs H1 Q := by
  obtain ⟨H0, M0, E, q⟩ := h
  exact ⟨H0, M0, E, fun vs H1 e1 r1 => hr H1 _ vs (E.ext e1).dom r1 Q fun z H2 e2 rz => q z H2 (e1.trans e2) rz⟩
theorem tCB_eo {r : List V → Hp → VK → Prop} {ds : List D} (hr : RsO X.K r ds dz) {σ : L2.St} {H : Hp} {Q : VK} (h : tEO X.K ρ dz σ H Q) : tAs X.K ρ ds σ H fun vs H1 => r vs H1 Q := by
  obtain ⟨H0, M0, E, q⟩ := h
  exact ⟨H0, M0, E, fun vs H1 e1 r1 => hr H1 _ vs (E.ext e1).dom r1 Q fun p H2 np e2 rz => q p H2 (e1.back np) (e1.trans e2) rz⟩
end
end RW

end
section
/-! statements, defs and calls over data -/
namespace RW
open PySem PySem.Spec PyProof.Rows L2

/-! ### what a def promises -/
inductive Res where
  | ok (d : D)
  | er (c : Value) (fs : Option (List (Str × D)))
/-- an exception as it lies: its class, its own dict -/
def RpX (K : PySem.W.Frag) (H : Hp) (M : MS) (c : Value) (fs : Option (List (Str × D))) (cls : Value) (dd : Option Addr) : Prop :=
  cls = c ∧ match fs with
    | none => dd = none
    | some fs => ∃ a vs, dd = some a ∧ ¬ M a ∧ H a = some (.xd vs) ∧ RpF K H M fs vs
theorem RpX.le {K : PySem.W.Frag} {H H' : Hp} {M M' : MS} {c : Value} {fs : Option (List (Str × D))} {cls : Value} {dd : Option Addr} (l : Le H M H' M') (h : RpX K H M c fs cls dd) : RpX K H' M' c fs cls dd := by
  obtain ⟨h1, h2⟩ := h
  refine ⟨h1, ?_⟩
  cases fs with
  | none => exact h2
  | some fs =>
    obtain ⟨a, vs, e, m, t, r⟩ := h2
    exact ⟨a, vs, e, (l _ _ t m).2, (l _ _ t m).1, RpF.le l fs vs r⟩
def RetOk (K : PySem.W.Frag) (H : Hp) (M : MS) (Q : VK) (E : XK) : Res → Prop
  | .ok d => ∀ v H', Ex H H' → Rp K H' M d v → Q v H'
  | .er c fs => ∀ cls dd H', Ex H H' → RpX K H' M c fs cls dd → E cls dd H'
def spP (K : PySem.W.Frag) (n : Nat) (S : List D → Res → Prop) : Sp := fun vs H Q E => ∃ M ds r, (∀ a, M a → NT (H a)) ∧ Rps K H M ds vs ∧ ds.length = n ∧ S ds r ∧ RetOk K H M Q E r
/-- a def of the module -/
structure FD (P : Program) (w : World) (K : PySem.W.Frag) (mg : Str → Option Value) (base : Heap) (k : Nat) (x : Str) (n : Nat) (S : List D → Res → Prop) : Prop where
  ex : ∃ (f : Addr) (fd : FuncData) (ps : List Str), mg x = some (.ref f) ∧ PySem.W.keepIn K (.ref f) = true ∧ Binds K fd ps [] ∧ FnOk P w K mg base (L2.CX P w) k f fd ps (spP K n S)
theorem FD.mono {P : Program} {w : World} {K : PySem.W.Frag} {mg : Str → Option Value} {base : Heap} {k k' : Nat} {x : Str} {n : Nat} {S : List D → Res → Prop} (F : FD P w K mg base k x n S) (h : k ≤ k') : FD P w K mg base k' x n S :=
  let ⟨f, fd, ps, h1, h2, h3, h4⟩ := F.ex
  ⟨f, fd, ps, h1, h2, h3, h4.mono h⟩
abbrev FX (X : Cx) (k : Nat) (x : Str) (n : Nat) (S : List D → Res → Prop) : Prop := FD X.prog X.w X.K X.mg X.base k x n S
section
variable {X : Cx} {ρ : List SD} {e a b c : Expr} {dx dy dz d : D} {pos p : Pos} {es : List Expr} {ds : List D} {x : Str}
theorem ed_call {k n : Nat} {S : List D → Res → Prop} (F : FX X k x n S) (hr : Room k X.A) (hg : Gl X x) (ha : EA X ρ (e :: es) ds) (hS : S ds (.ok d)) (hn : ds.length = n := by rfl)
    (hdb : (x == ("__debug__" : Str)) = false := by decide) (he : starEach (e :: es) X.env = (false, eval e X.env) :: starEach es X.env := by rfl) (hpl : (backTo pos (starEach es X.env)).any (·.1) = false := by rfl) :
    ED X ρ (.Call (.Name x p) (e :: es) [] pos) d := by
  obtain ⟨f, fd, ps, h1, h2, h3, h4⟩ := F.ex
  refine pe_w (pe_call (E := E0) h4 hr hg h1 h2 h3 .nil passL ha hdb he hpl) fun σ H Q ⟨H0, M0, E, q⟩ => ?_
  refine ⟨H0, M0, E, fun vs H1 e1 r1 => ?_⟩
  show spP X.K n S (vs ++ []) H1 Q E0
  rw [List.append_nil]
  exact ⟨Mo M0 ρ σ, ds, .ok d, (E.ext e1).domN, r1, hn, hS, fun v H2 e2 r2 => q v H2 (e1.trans e2) r2⟩
theorem ed_call0 {k : Nat} {S : List D → Res → Prop} (F : FX X k x 0 S) (hr : Room k X.A) (hg : Gl X x) (hS : S [] (.ok d)) (hdb : (x == ("__debug__" : Str)) = false := by decide) : ED X ρ (.Call (.Name x p) [] [] pos) d := by
  obtain ⟨f, fd, ps, h1, h2, h3, h4⟩ := F.ex
  refine pe_w (pe_call0 (E := E0) h4 hr hg h1 h2 h3 .nil passL hdb) fun σ H Q ⟨H0, M0, E, q⟩ => ?_
  exact ⟨Mo M0 ρ σ, [], .ok d, E.domN, rfl, rfl, hS, fun v H2 e2 r2 => q v H2 e2 r2⟩
theorem ed_callB {id : String} (hg : Gl X x) (hm : X.mg x = none) (hv : bootBuiltins x = some (.builtin id)) (ha : EA X ρ (e :: es) ds) (ho : CallD X (.builtin id) ds dz) (hn : x ≠ "__name__" := by decide) (hdb : (x == ("__debug__" : Str)) = false := by decide)
    (he : starEach (e :: es) X.env = (false, eval e X.env) :: starEach es X.env := by rfl) (hpl : (backTo pos (starEach es X.env)).any (·.1) = false := by rfl) : ED X ρ (.Call (.Name x p) (e :: es) [] pos) dz := by
  obtain ⟨r, h1, h2⟩ := ho
  exact pe_w (pe_callB h1 hg hm hv ha hn hdb he hpl) fun σ H Q h => tCB_ed h2 h
theorem ed_callTy {T : String} (hg : Gl X x) (hm : X.mg x = none) (hv : bootBuiltins x = some (.type T)) (ha : EA X ρ (e :: es) ds) (ho : CallD X (.type T) ds dz) (hn : x ≠ "__name__" := by decide) (hdb : (x == ("__debug__" : Str)) = false := by decide)
    (he : starEach (e :: es) X.env = (false, eval e X.env) :: starEach es X.env := by rfl) (hpl : (backTo pos (starEach es X.env)).any (·.1) = false := by rfl) : ED X ρ (.Call (.Name x p) (e :: es) [] pos) dz := by
  obtain ⟨r, h1, h2⟩ := ho
  exact pe_w (pe_callTy h1 hg hm hv ha hn hdb he hpl) fun σ H Q h => tCB_ed h2 h
theorem eo_callTy {T : String} (hg : Gl X x) (hm : X.mg x = none) (hv : bootBuiltins x = some (.type T)) (ha : EA X ρ (e :: es) ds) (ho : CallO X (.type T) ds dz) (hn : x ≠ "__name__" := by decide) (hdb : (x == ("__debug__" : Str)) = false := by decide)
    (he : starEach (e :: es) X.env = (false, eval e X.env) :: starEach es X.env := by rfl) (hpl : (backTo pos (starEach es X.env)).any (·.1) = false := by rfl) : EO X ρ (.Call (.Name x p) (e :: es) [] pos) dz := by
  obtain ⟨r, h1, h2⟩ := ho
  exact pe_w (pe_callTy h1 hg hm hv ha hn hdb he hpl) fun σ H Q h => tCB_eo h2 h
end

/-! ### statements -/
structure Po where
  nx : List SD → Prop
  rt : List SD → D → Prop
  bk : List SD → Prop := fun _ => False
  ct : List SD → Prop := fun _ => False
  ex : List SD → Value → Option (List (Str × D)) → Prop := fun _ _ _ => False
def tS (K : PySem.W.Frag) (W : WX) (ρ : List SD) (R : Po) : TS := fun Dn σ H => ∃ H0 M0, EnvOk K H0 M0 ρ σ H ∧
  (∀ ρ' σ' H', R.nx ρ' → EnvOk K H0 M0 ρ' σ' H' → Dn.nx σ' H') ∧ (∀ ρ' d v σ' H', R.rt ρ' d → EnvOk K H0 M0 ρ' σ' H' → Rp K H' (Mo M0 ρ' σ') d v → Dn.rt v H') ∧
  (∀ ρ' σ' H', R.bk ρ' → EnvOk K H0 M0 ρ' σ' H' → Dn.bk σ' H') ∧ (∀ ρ' σ' H', R.ct ρ' → EnvOk K H0 M0 ρ' σ' H' → Dn.ct σ' H') ∧
  (∀ ρ' c fs cls dd σ' H', R.ex ρ' c fs → EnvOk K H0 M0 ρ' σ' H' → RpX K H' M0 c fs cls dd → W cls dd σ' H')
abbrev SD1 (X : Cx) (W : WX) (ρ : List SD) (st : Stmt) (R : Po) : Prop := PS X st (tS X.K W ρ R)
abbrev SDs (X : Cx) (W : WX) (ρ : List SD) (st : List Stmt) (R : Po) : Prop := PSs X st (tS X.K W ρ R)
section
variable {X : Cx} {W : WX} {ρ ρ' : List SD} {e a b c : Expr} {dx dy dz d : D} {pos p : Pos} {es : List Expr} {ds : List D} {x : Str} {st : Stmt} {rest s1 s2 : List Stmt} {R : Po}
theorem sds_nil (h : R.nx ρ') (w : Wk ρ ρ') : SDs X W ρ [] R := pss_w pss_nil fun Dn σ H ⟨H0, M0, E, h1, _⟩ => h1 ρ' σ H h (E.wk w)
theorem sds_wk (w : Wk ρ ρ') (h : SDs X W ρ' rest R) : SDs X W ρ rest R := pss_w h fun Dn σ H ⟨H0, M0, E, q⟩ => ⟨H0, M0, E.wk w, q⟩
theorem sd1_wk (w : Wk ρ ρ') (h : SD1 X W ρ' st R) : SD1 X W ρ st R := ps_w h fun Dn σ H ⟨H0, M0, E, q⟩ => ⟨H0, M0, E.wk w, q⟩
/-- a statement, then the rest -/
theorem sds_cons {R1 : List SD → Prop} (h1 : SD1 X W ρ st { R with nx := R1 }) (h2 : ∀ ρ1, R1 ρ1 → SDs X W ρ1 rest R) : SDs X W ρ (st :: rest) R :=
  pss_w (pss_cons h1 (pss_fam (p := R1) (t := fun ρ1 => tS X.K W ρ1 R) h2)) fun Dn σ H ⟨H0, M0, E, q1, q2, q3, q4, q5⟩ =>
    ⟨H0, M0, E, fun ρ1 σ1 H1 r1 E1 => ⟨ρ1, r1, H0, M0, E1, q1, q2, q3, q4, q5⟩, q2, q3, q4, q5⟩
/-- .. whatever it leads to -/
theorem sds_k (h1 : SD1 X W ρ st { R with nx := fun ρ1 => SDs X W ρ1 rest R }) : SDs X W ρ (st :: rest) R := sds_cons h1 fun _ h => h
theorem sd1_if {k : Bool} (hc : ET X ρ c k) (h1 : k = true → SDs X W ρ s1 R) (h2 : k = false → SDs X W ρ s2 R) : SD1 X W ρ (.If c s1 s2 pos) R :=
  ps_w (ps_if hc (pss_fam (ι := Unit) (p := fun _ => k = true) (t := fun _ => tS X.K W ρ R) fun _ hk => h1 hk) (pss_fam (ι := Unit) (p := fun _ => k = false) (t := fun _ => tS X.K W ρ R) fun _ hk => h2 hk)) fun Dn σ H ⟨H0, M0, E, q⟩ => ⟨H0, M0, E, fun H1 e1 => by
    cases hk : k with
    | true => subst hk; exact iteT ⟨(), rfl, H0, M0, E.ext e1, q⟩
    | false => subst hk; exact iteF ⟨(), rfl, H0, M0, E.ext e1, q⟩⟩
/-- if, the rest behind both ways -/
theorem sds_if {k : Bool} (hc : ET X ρ c k) (h1 : k = true → SDs X W ρ s1 { R with nx := fun ρ1 => SDs X W ρ1 rest R }) (h2 : k = false → SDs X W ρ s2 { R with nx := fun ρ1 => SDs X W ρ1 rest R }) : SDs X W ρ (.If c s1 s2 pos :: rest) R := sds_k (sd1_if hc h1 h2)
/-- an empty branch -/
theorem sds_go (h : SDs X W ρ rest R) : SDs X W ρ [] { R with nx := fun ρ1 => SDs X W ρ1 rest R } := sds_nil h (Wk.refl _)
theorem sd1_set (i : Nat) {pos' : Pos} (he : ED X ρ e d) (hN : X.N.Nodup) (hi : X.N[i]? = some x) (hx : Loc X.env.scope x) (hl : i < ρ.length) (h : R.nx (ρ.set i (.val d))) (hs : swapsWith e (some (.Name x pos')) pos.line X.env = pure false := by rfl)
    (hf : X.fn x = true ∨ X.env.scope.names.lookup x = some .local := by first | exact .inl rfl | exact .inr rfl | assumption) : SD1 X W ρ (.Assign [.Name x pos'] e pos) R :=
  ps_w (ps_set hN hi hx he hs hf) fun Dn σ H ⟨H0, M0, E, q1, q2⟩ => ⟨H0, M0, E, fun v H1 e1 r1 => q1 _ _ _ h ((E.ext e1).set (by rw [← E.len]; exact hl) r1)⟩
theorem sds_set (i : Nat) {pos' : Pos} (he : ED X ρ e d) (hN : X.N.Nodup) (hi : X.N[i]? = some x) (hx : Loc X.env.scope x) (h : SDs X W (ρ.set i (.val d)) rest R) (hl : i < ρ.length := by decide) (hs : swapsWith e (some (.Name x pos')) pos.line X.env = pure false := by rfl)
    (hf : X.fn x = true ∨ X.env.scope.names.lookup x = some .local := by first | exact .inl rfl | exact .inr rfl | assumption) : SDs X W ρ (.Assign [.Name x pos'] e pos :: rest) R :=
  sds_cons (R1 := fun ρ1 => ρ1 = ρ.set i (.val d)) (sd1_set i he hN hi hx hl rfl hs hf) fun _ z => by rw [z]; exact h
theorem tEO_set {t : TE} (w : ∀ σ H Q, tEO X.K ρ d σ H Q → t σ H Q) {i : Nat} (hl : i < ρ.length) {Dn : Ends} {σ : L2.St} {H : Hp} (h : tS X.K W ρ { R with nx := fun ρ1 => ρ1 = ρ.set i (.own d) } Dn σ H) : tAsg t (gName i) Dn σ H := by
  obtain ⟨H0, M0, E, q1, q2⟩ := h
  exact w σ H _ ⟨H0, M0, E, fun p H1 np e1 r1 => q1 _ _ _ rfl (E.setOwn (by rw [← E.len]; exact hl) np e1 r1)⟩
theorem sds_setO (i : Nat) {pos' : Pos} (he : EO X ρ e d) (hN : X.N.Nodup) (hi : X.N[i]? = some x) (hx : Loc X.env.scope x) (h : SDs X W (ρ.set i (.own d)) rest R) (hl : i < ρ.length := by decide) (hs : swapsWith e (some (.Name x pos')) pos.line X.env = pure false := by rfl)
    (hf : X.fn x = true ∨ X.env.scope.names.lookup x = some .local := by first | exact .inl rfl | exact .inr rfl | assumption) : SDs X W ρ (.Assign [.Name x pos'] e pos :: rest) R :=
  sds_cons (R1 := fun ρ1 => ρ1 = ρ.set i (.own d)) (ps_w (ps_set hN hi hx he hs hf) fun Dn σ H h => tEO_set (fun _ _ _ h => h) hl h) fun _ z => by rw [z]; exact h
theorem sds_ret (he : ED X ρ e d) (h : R.rt ρ d) : SDs X W ρ (.Return (some e) pos :: rest) R :=
  pss_w (pss_cons (ps_ret he) pss_never) fun Dn σ H ⟨H0, M0, E, q1, q2, _⟩ => ⟨H0, M0, E, fun v H1 e1 r1 => q2 ρ d v σ H1 h (E.ext e1) r1⟩
theorem sds_retN (h : R.rt ρ .non) : SDs X W ρ (.Return none pos :: rest) R :=
  pss_w (pss_cons ps_retN pss_never) fun Dn σ H ⟨H0, M0, E, q1, q2, _⟩ => q2 ρ .non _ σ H h E rfl
theorem sds_expr (he : ED X ρ e d) (h : SDs X W ρ rest R) (hs : swapsWith e none pos.line X.env = pure false := by rfl) : SDs X W ρ (.Expr e pos :: rest) R :=
  sds_cons (R1 := fun ρ1 => ρ1 = ρ) (ps_w (ps_expr he hs) fun Dn σ H ⟨H0, M0, E, q1, _⟩ => ⟨H0, M0, E, fun v H1 e1 r1 => q1 ρ σ H1 rfl (E.ext e1)⟩) fun _ z => by rw [z]; exact h
theorem sds_doc {y j} {pos' : Pos} (h : SDs X W ρ rest R) : SDs X W ρ (.Expr (.Constant (.str y) j pos) pos' :: rest) R :=
  sds_cons (R1 := fun ρ1 => ρ1 = ρ) (ps_w ps_doc fun Dn σ H ⟨H0, M0, E, q1, _⟩ => q1 ρ σ H rfl E) fun _ z => by rw [z]; exact h
theorem sds_cont (h : R.ct ρ') (w : Wk ρ ρ') : SDs X W ρ (.Continue pos :: rest) R := pss_w (pss_cons ps_continue pss_never) fun Dn σ H ⟨H0, M0, E, _, _, _, q4, _⟩ => q4 ρ' σ H h (E.wk w)
theorem sds_brk (h : R.bk ρ') (w : Wk ρ ρ') : SDs X W ρ (.Break pos :: rest) R := pss_w (pss_cons ps_break pss_never) fun Dn σ H ⟨H0, M0, E, _, _, q3, _⟩ => q3 ρ' σ H h (E.wk w)
/-- the name of an owned object, as a value that is not kept -/
def tOwn (K : PySem.W.Frag) (ρ : List SD) (i : Nat) (d : D) : TE := fun σ H Q => ∃ H0 M0, EnvOk K H0 M0 ρ σ H ∧ ∀ a, σ[i]? = some (some (.ref a)) → OwnAt K H (Mo M0 ρ σ) a d → Q (.ref a) H
theorem ed_own (i : Nat) (hρ : ρ[i]? = some (.own d)) (hN : X.N[i]? = some x) (hv : Vis X.env.scope x) (hd : (x == ("__debug__" : Str)) = false := by decide) (hcd : (x == ("__classdict__" : Str)) = false := by decide) : PE X (.Name x pos) (tOwn X.K ρ i d) :=
  pe_w (pe_var hN hv hd hcd) fun σ H Q ⟨H0, M0, E, q⟩ => let ⟨a, h1, h2⟩ := E.own i d hρ; ⟨.ref a, h1, q a h1 h2⟩
/-- xs.append(e), xs owned -/
theorem sd1_app (i : Nat) {apos cpos p2 : Pos} (hρ : ρ[i]? = some (.own (.lst ds))) (he : ED X ρ e d) (hN : X.N[i]? = some x) (hv : Vis X.env.scope x) (hz : ds.length < 100000) (h : R.nx (ρ.set i (.own (.lst (ds ++ [d])))))
    (hd : (x == ("__debug__" : Str)) = false := by decide) (hcd : (x == ("__classdict__" : Str)) = false := by decide)
    (hbase : attributeBase (.Name x p) ("append" : Str) X.env (eval (.Name x p) X.env) = eval (.Name x p) X.env := by rfl)
    (hfew : ((backTo cpos (starEach (e :: []) X.env)).all (fun x => !x.1) && (backToKw cpos (keywordEach [] X.env)).all (fun x => x.1.isSome)
      && decide ((e :: []).length + ([] : List Keyword).length + (if ([] : List Keyword).isEmpty then 0 else 1) < 30)) = true := by rfl)
    (hline : (apos.endLine == cpos.line) = true := by rfl) (hs0 : starEach (e :: []) X.env = (false, eval e X.env) :: starEach [] X.env := by rfl) (hplain : (backTo cpos (starEach [] X.env)).any (·.1) = false := by rfl)
    (hs : swapsWith (.Call (.Attribute (.Name x p) ("append" : Str) apos) [e] [] cpos) none p2.line X.env = pure false := by rfl) :
    SD1 X W ρ (.Expr (.Call (.Attribute (.Name x p) ("append" : Str) apos) [e] [] cpos) p2) R :=
  ps_w (ps_expr (pe_bm PySem.F.plainAttrs_list PySem.F.slot_list_append PySem.F.type_list_append mt_append (ed_own i hρ hN hv hd hcd) (pa_cons he pa_nil hs0) hbase hfew hline hs0 hplain) hs) fun Dn σ H ⟨H0, M0, E, q1, _⟩ => by
    refine ⟨H0, M0, E, fun l hl ⟨xs, hx, rx⟩ => ⟨.inl ⟨rfl, _, SqL.of hx⟩, H0, M0, E, fun v H1 e1 r1 => ?_⟩⟩
    refine ⟨l, xs, v, rfl, rfl, e1 _ _ hx, small' (by rw [rx.length]; exact hz), q1 _ _ _ h ((E.ext e1).write hρ hl ⟨xs ++ [v], upd_same, ?_⟩)⟩
    have l1 : Le H1 (Mo M0 ρ σ) (upd H1 l (.lst (xs ++ [v]))) (Mo M0 ρ σ) := fun a o q m => ⟨by
      rw [upd_ne (fun z => m (.inr ⟨i, ⟨_, hρ⟩, by rw [z]; exact hl⟩))]; exact q, m⟩
    exact Rps.append (Rps.le ((Le.ex e1).trans l1) _ _ rx) (Rps.one (Rp.le l1 _ _ r1))
theorem sds_app (i : Nat) {apos cpos p2 : Pos} (hρ : ρ[i]? = some (.own (.lst ds))) (he : ED X ρ e d) (hN : X.N[i]? = some x) (hv : Vis X.env.scope x) (hz : ds.length < 100000) (h : SDs X W (ρ.set i (.own (.lst (ds ++ [d])))) rest R)
    (hd : (x == ("__debug__" : Str)) = false := by decide) (hcd : (x == ("__classdict__" : Str)) = false := by decide)
    (hbase : attributeBase (.Name x p) ("append" : Str) X.env (eval (.Name x p) X.env) = eval (.Name x p) X.env := by rfl)
    (hfew : ((backTo cpos (starEach (e :: []) X.env)).all (fun x => !x.1) && (backToKw cpos (keywordEach [] X.env)).all (fun x => x.1.isSome)
      && decide ((e :: []).length + ([] : List Keyword).length + (if ([] : List Keyword).isEmpty then 0 else 1) < 30)) = true := by rfl)
    (hline : (apos.endLine == cpos.line) = true := by rfl) (hs0 : starEach (e :: []) X.env = (false, eval e X.env) :: starEach [] X.env := by rfl) (hplain : (backTo cpos (starEach [] X.env)).any (·.1) = false := by rfl)
    (hs : swapsWith (.Call (.Attribute (.Name x p) ("append" : Str) apos) [e] [] cpos) none p2.line X.env = pure false := by rfl) :
    SDs X W ρ (.Expr (.Call (.Attribute (.Name x p) ("append" : Str) apos) [e] [] cpos) p2 :: rest) R :=
  sds_cons (R1 := fun ρ1 => ρ1 = ρ.set i (.own (.lst (ds ++ [d])))) (sd1_app i hρ he hN hv hz rfl hd hcd hbase hfew hline hs0 hplain hs) fun _ z => by rw [z]; exact h
end

/-! ### a def's body -/
section
variable {P : Program} {w : World} {K : PySem.W.Frag} {mg : Str → Option Value} {base : Heap}
def args (N : List Str) (ds : List D) : List SD := ds.map SD.val ++ List.replicate (N.length - ds.length) .no
theorem EnvOk.start {H : Hp} {M : MS} {N : List Str} {ds : List D} {vs : List V} (dm : ∀ a, M a → NT (H a)) (r : Rps K H M ds vs) (hl : ds.length ≤ N.length) : EnvOk K H M (args N ds) (L2.start N vs) H := by
  have nown : ∀ (i : Nat) d, (args N ds)[i]? ≠ some (.own d) := fun i d h => by
    unfold args at h
    rcases Nat.lt_or_ge i ds.length with hi | hi
    · rw [List.getElem?_append_left (by rw [List.length_map]; exact hi), List.getElem?_map] at h
      cases hd : ds[i]? with
      | none => rw [hd] at h; cases h
      | some z => rw [hd] at h; cases h
    · rw [List.getElem?_append_right (by rw [List.length_map]; exact hi), List.getElem?_replicate] at h
      split at h <;> cases h
  have noOw : ∀ i a, ¬ Ow (args N ds) (L2.start N vs) i a := fun i a ⟨⟨d, h⟩, _⟩ => nown i d h
  have nst : ∀ (i : Nat) μ, (args N ds)[i]? ≠ some (.st μ) := fun i d h => by
    unfold args at h
    rcases Nat.lt_or_ge i ds.length with hi | hi
    · rw [List.getElem?_append_left (by rw [List.length_map]; exact hi), List.getElem?_map] at h
      cases hd : ds[i]? with
      | none => rw [hd] at h; cases h
      | some z => rw [hd] at h; cases h
    · rw [List.getElem?_append_right (by rw [List.length_map]; exact hi), List.getElem?_replicate] at h
      split at h <;> cases h
  have noSt : ∀ a, ¬ Stt (args N ds) a := fun a ⟨i, μ, _, h, _⟩ => nst i μ h
  refine ⟨by unfold args L2.start; rw [List.length_append, List.length_append, List.length_map, List.length_map, List.length_replicate, List.length_replicate, r.length], Ex.refl H, dm, fun i a h => absurd h (noOw i a), fun i j a h => absurd h (noOw i a), fun i d h => ?_, fun i d h => absurd h (nown i d), fun a h => absurd h (noSt a), fun i a h => absurd h (noOw i a), fun i μ h => absurd h (nst i μ), fun i j μ μ' h => absurd h (nst i μ)⟩
  unfold args at h
  rcases Nat.lt_or_ge i ds.length with hi | hi
  · rw [List.getElem?_append_left (by rw [List.length_map]; exact hi), List.getElem?_map] at h
    cases hd : ds[i]? with
    | none => rw [hd] at h; cases h
    | some z =>
      rw [hd] at h; cases h
      obtain ⟨v, h1, h2⟩ := r.get hd
      refine ⟨v, ?_, Rp.le (Le.sub fun a m => ?_) _ _ h2⟩
      · unfold L2.start
        rw [List.getElem?_append_left (by rw [List.length_map, r.length]; exact hi), List.getElem?_map, h1]; rfl
      · rcases m with (m | m) | ⟨j, m⟩
        · exact m
        · exact absurd m (noSt a)
        · exact absurd m (noOw j a)
  · rw [List.getElem?_append_right (by rw [List.length_map]; exact hi), List.getElem?_replicate] at h
    split at h <;> cases h
/-- a def keeps its promise, by its body -/
theorem fd_of {x qual : Str} {st : Stmt} {f : Addr} {fd : FuncData} {N ps : List Str} {k : Nat} {S : List D → Res → Prop} (F : Fun K x qual st f fd) (gx : mg x = some (.ref f)) (hb : Binds K fd ps []) (sc : FnScope N ps (defScope st))
    (hlen : ps.length ≤ N.length)
    (body : ∀ (cdv : Value) (A : Around) (outer : List Env) (s : Shared) (H : Hp) (E : XK) (ds : List D) (r : Res), Room k (A.deeper (envOfC qual (defScope st) s.heap.objs.size f cdv)) → ds.length = ps.length → S ds r →
      SDs (cxOf (L2.CX P w) P w K mg base N qual (defScope st) f cdv A outer s H E) (fun cls d _ H => E cls d H) (args N ds) (defBody st) { nx := fun _ => r = .ok .non, rt := fun _ d => r = .ok d, ex := fun _ c fs => r = .er c fs }) :
    FD P w K mg base (k + 1) x ps.length S := by
  refine ⟨f, fd, ps, gx, F.kp, hb, F.okX sc (fun vs H Q E h => ?_) (fun cdv A outer s H vs Q E hr h => ?_)⟩
  · obtain ⟨M, ds, r, _, h2, h3, _⟩ := h
    rw [h2.length]; exact h3
  · obtain ⟨M, ds, r, dm, h2, h3, h4, h5⟩ := h
    refine ⟨_, body cdv A outer s H E ds r hr h3 h4, H, M, EnvOk.start dm h2 (by rw [h3]; exact hlen), ?_, ?_, ?_, ?_, ?_⟩
    · intro ρ' σ' H' hr' E'
      rw [hr'] at h5
      exact h5 .non H' E'.ex rfl
    · intro ρ' d v σ' H' hr' E' r'
      rw [hr'] at h5
      exact h5 v H' E'.ex (Rp.le (Le.sub fun a m => .inl (.inl m)) _ _ r')
    · intro _ _ _ z; exact z.elim
    · intro _ _ _ z; exact z.elim
    · intro ρ' c fs cls dd σ' H' hr' e' r'
      rw [hr'] at h5
      exact h5 cls dd H' e'.ex r'
end
end RW

end
section
/-! what is walked, targets, loops, comprehensions -/
namespace RW
open PySem PySem.Spec PyProof.Rows L2

/-- it yields what stands for ds, one by one; H1: what stands throughout -/
def ExN (M0 : MS) (H1 H2 : Hp) : Prop := ∀ a o, H1 a = some o → ¬ M0 a → H2 a = some o
theorem Ex.n {M0 : MS} {H1 H2 : Hp} (e : Ex H1 H2) : ExN M0 H1 H2 := fun a o h _ => e a o h
def ItOk (K : PySem.W.Frag) (M0 : MS) (H1 : Hp) (J : It) (ds : List D) : Prop := ∀ (i : Nat) (H2 : Hp), ExN M0 H1 H2 →
  (i = ds.length → J.stop i H2) ∧ ∀ d, ds[i]? = some d → J.go i H2 ∧ ∀ x H3, J.yld i H2 x H3 → Ex H2 H3 ∧ ∀ M, Le H1 M0 H2 M → (∀ a, M a → H2 a ≠ none) → Rp K H3 M d x
def tW (K : PySem.W.Frag) (ρ : List SD) (ds : List D) : TI := fun σ H R => ∃ H0 M0, EnvOk K H0 M0 ρ σ H ∧ ∀ J H' H1, Ex H H' → Ex H0 H1 → EnvOk K H1 M0 ρ σ H' → ItOk K M0 H1 J ds → R J H'
abbrev WD (X : Cx) (ρ : List SD) (tg iter : Expr) (ds : List D) : Prop := PI X tg iter (tW X.K ρ ds)
theorem pi_w {X : Cx} {tg e : Expr} {t t' : TI} (h : PI X tg e t) (w : ∀ σ H R, t' σ H R → t σ H R) : PI X tg e t' := ⟨fun pins s σ H R I q => h.run pins s σ H R I (w _ _ _ q)⟩
/-- what of a state stands while a loop runs -/
theorem EnvOk.fixed {K : PySem.W.Frag} {H0 H : Hp} {M0 : MS} {ρ : List SD} {σ : L2.St} (E : EnvOk K H0 M0 ρ σ H) : ∃ H1, Ex H0 H1 ∧ EnvOk K H1 M0 ρ σ H ∧ Le H (Mo M0 ρ σ) H1 M0 := by
  obtain ⟨H1, a, b, c⟩ := E.reenter
  exact ⟨H1, a, b, fun x o h m => ⟨c x o h m, fun z => m (.inl (.inl z))⟩⟩
section
variable {X : Cx} {W : WX} {ρ ρ' : List SD} {tg e e2 a b : Expr} {dx dy dz d : D} {pos p tpos : Pos} {ds es : List D} {x : Str} {kk : Nat}
theorem wd_list (h : ED X ρ e (.lst ds)) : WD X ρ tg e ds := pi_w (pi_list h) fun σ H R ⟨H0, M0, E, q⟩ => ⟨H0, M0, E, fun v H' e1 r => by
  obtain ⟨a, xs, rfl, m, t, rx⟩ := r
  obtain ⟨H1, ex, E1, l⟩ := (E.ext e1).fixed
  refine ⟨a, rfl, ⟨xs, SqL.of t⟩, q _ _ H1 e1 ex E1 fun i H2 e2 => ⟨fun hi => ⟨xs, SqL.of (e2 _ _ (l _ _ t m).1 (l _ _ t m).2), by rw [hi, rx.length]; exact Nat.le_refl _⟩, fun d hd => ?_⟩⟩
  obtain ⟨y, h1, h2⟩ := rx.get hd
  have st : SqL X.K H2 a xs := SqL.of (e2 _ _ (l _ _ t m).1 (l _ _ t m).2)
  exact ⟨⟨xs, y, st, h1⟩, fun x H3 ⟨z1, z2⟩ => by
    subst z1
    have z := z2 xs st
    rw [h1] at z; cases z
    exact ⟨Ex.refl _, fun M lm _ => Rp.le (l.trans lm) _ _ h2⟩⟩⟩
theorem TupA.ex {K : PySem.W.Frag} {H H1 H2 : Hp} {M M0 : MS} {a : Addr} {xs : List V} (t : TupA K H M a xs) (l : Le H M H1 M0) (e : ExN M0 H1 H2) : SqT K H2 a xs := (TupA.le (M' := M0) (l.trans (fun a o h m => ⟨e a o h m, m⟩)) t).sq
theorem wd_tup (h : ED X ρ e (.tup ds)) : WD X ρ tg e ds := pi_w (pi_tup h) fun σ H R ⟨H0, M0, E, q⟩ => ⟨H0, M0, E, fun v H' e1 r => by
  obtain ⟨a, xs, rfl, t, rx⟩ := r
  obtain ⟨H1, ex, E1, l⟩ := (E.ext e1).fixed
  refine ⟨a, rfl, ⟨xs, t.sq⟩, q _ _ H1 e1 ex E1 fun i H2 e2 => ⟨fun hi => ⟨xs, t.ex l e2, by rw [hi, rx.length]; exact Nat.le_refl _⟩, fun d hd => ?_⟩⟩
  obtain ⟨y, h1, h2⟩ := rx.get hd
  have st : SqT X.K H2 a xs := t.ex l e2
  exact ⟨⟨xs, y, st, h1⟩, fun x H3 ⟨z1, z2⟩ => by
    subst z1
    have z := z2 xs st
    rw [h1] at z; cases z
    exact ⟨Ex.refl _, fun M lm _ => Rp.le (l.trans lm) _ _ h2⟩⟩⟩
/-- the rng from lo on, n of them -/
def rng (lo : Int) (n : Nat) : List Int := (List.range n).map fun (i : Nat) => lo + (i : Int)
@[simp] theorem rng_len (lo : Int) (n : Nat) : (rng lo n).length = n := by unfold rng; rw [List.length_map, List.length_range]
theorem rng_get {lo : Int} {n i : Nat} {k : Int} (h : (rng lo n)[i]? = some k) : i < n ∧ k = lo + (i : Int) := by
  unfold rng at h
  rw [List.getElem?_map] at h
  cases hi : (List.range n)[i]? with
  | none => rw [hi] at h; cases h
  | some j =>
    rw [hi] at h; cases h
    have := List.getElem?_eq_some_iff.mp hi
    obtain ⟨h1, h2⟩ := this
    rw [List.getElem_range] at h2
    rw [List.length_range] at h1
    exact ⟨h1, by rw [← h2]⟩
theorem itr_ok {K : PySem.W.Frag} {M0 : MS} {H1 : Hp} (lo : Int) (n : Nat) : ItOk K M0 H1 (Itr lo n) ((rng lo n).map D.int) := fun i H2 e2 => ⟨fun hi => by
    rw [List.length_map, rng_len] at hi; exact Nat.le_of_eq hi.symm, fun d hd => by
  rw [List.getElem?_map] at hd
  cases hk : (rng lo n)[i]? with
  | none => rw [hk] at hd; cases hd
  | some k =>
    rw [hk] at hd; cases hd
    obtain ⟨h1, h2⟩ := rng_get hk
    exact ⟨h1, fun x H3 ⟨z1, z2⟩ => ⟨by rw [z1]; exact Ex.refl _, fun M _ _ => by rw [h2]; exact z2⟩⟩⟩
theorem wd_range1 {n : Int} (h : ED X ρ e (.int n)) (hn : n ≤ 1000000000) (hn0 : -1000000000 ≤ n) (hg : Gl X "range") (hm : X.mg "range" = none) (hs : starEach [e] X.env = [(false, eval e X.env)] := by rfl) : WD X ρ tg (.Call (.Name "range" p) [e] [] pos) ((rng 0 n.toNat).map D.int) :=
  pi_w (pi_range1 hg hm (ea_cons h ea_nil hs) hs) fun σ H R ⟨H0, M0, E, q⟩ => ⟨H0, M0, E, fun vs H' e1 r => by
    obtain ⟨H1, ex, E1, l⟩ := (E.ext e1).fixed
    refine ⟨n, ?_, by omega, by omega, q _ _ H1 e1 ex E1 (itr_ok 0 _)⟩
    obtain ⟨x, r, rfl, h1, h2⟩ := r
    rw [show x = .int n from h1, show r = [] from h2]⟩
theorem wd_range2 {lo n : Int} (h : ED X ρ e (.int lo)) (h' : ED X ρ e2 (.int n)) (hl : lo ≤ 1000000000 ∧ -1000000000 ≤ lo) (hn : n ≤ 1000000000 ∧ -1000000000 ≤ n) (hg : Gl X "range") (hm : X.mg "range" = none)
    (hs : starEach [e, e2] X.env = [(false, eval e X.env), (false, eval e2 X.env)] := by rfl) (hs2 : starEach [e2] X.env = [(false, eval e2 X.env)] := by rfl) : WD X ρ tg (.Call (.Name "range" p) [e, e2] [] pos) ((rng lo (n - lo).toNat).map D.int) :=
  pi_w (pi_range2 hg hm (ea_cons h (ea_cons h' ea_nil hs2) (by rw [hs, hs2])) hs hs2) fun σ H R ⟨H0, M0, E, q⟩ => ⟨H0, M0, E, fun vs H' e1 r => by
    obtain ⟨H1, ex, E1, l⟩ := (E.ext e1).fixed
    refine ⟨lo, n, ?_, by omega, q _ _ H1 e1 ex E1 (itr_ok lo _)⟩
    obtain ⟨x, r, rfl, h1, x2, r2, rfl, h2, h3⟩ := r
    rw [show x = .int lo from h1, show x2 = .int n from h2, show r2 = [] from h3]⟩
theorem Rp.pair {K : PySem.W.Frag} {H : Hp} {M : MS} {p : Addr} {d1 d2 : D} {v1 v2 : V} (dm : ∀ a, M a → H a ≠ none) (np : H p = none) (r1 : Rp K H M d1 v1) (r2 : Rp K H M d2 v2) : Rp K (upd H p (.tup [v1, v2])) M (.tup [d1, d2]) (.ref p) :=
  Rp.new_tup dm np ⟨v1, [v2], rfl, r1, v2, [], rfl, r2, rfl⟩
def pairs : List D → List D → List D := List.zipWith fun a b => .tup [a, b]
theorem zipWith_get {as bs : List D} {i : Nat} {d : D} (h : (pairs as bs)[i]? = some d) : ∃ a b, as[i]? = some a ∧ bs[i]? = some b ∧ d = .tup [a, b] := by
  unfold pairs at h
  rw [List.getElem?_zipWith] at h
  cases ha : as[i]? with
  | none => rw [ha] at h; cases h
  | some a =>
    cases hb : bs[i]? with
    | none => rw [ha, hb] at h; cases h
    | some b => rw [ha, hb] at h; cases h; exact ⟨a, b, rfl, rfl, rfl⟩
/-- zip of two tuples -/
theorem wd_zipT {elts : List Expr} (h : ED X ρ e (.tup ds)) (h' : ED X ρ e2 (.tup es)) (hg : Gl X "zip") (hm : X.mg "zip" = none)
    (hs : starEach [e, e2] X.env = (false, eval e X.env) :: starEach [e2] X.env := by rfl) (hs2 : starEach [e2] X.env = (false, eval e2 X.env) :: starEach [] X.env := by rfl) (hpl : (backTo pos (starEach [e2] X.env)).any (·.1) = false := by rfl) :
    WD X ρ (.Tuple elts kk tpos) (.Call (.Name "zip" p) [e, e2] [] pos) (pairs ds es) :=
  pi_w (RZ.pi_zipA hg hm (ea_cons h (ea_cons h' ea_nil hs2) hs) hs hpl) fun σ H R ⟨H0, M0, E, q⟩ => ⟨H0, M0, E, fun vs H' e1 r => by
    obtain ⟨H1, ex, E1, l⟩ := (E.ext e1).fixed
    obtain ⟨x, r, rfl, ⟨a, xs, rfl, ta, rx⟩, x2, r2, rfl, ⟨b, ys, rfl, tb, ry⟩, h3⟩ := r
    cases h3
    refine ⟨a, b, xs, ys, rfl, .inr ⟨ta.sq, tb.sq, q _ _ H1 e1 ex E1 fun i H2 e2 => ⟨fun hi => ⟨xs, ys, ta.ex l e2, tb.ex l e2, ?_⟩, fun d hd => ?_⟩⟩⟩
    · have := hi
      unfold pairs at this
      rw [List.length_zipWith] at this
      rw [rx.length, ry.length]
      omega
    · obtain ⟨da, db, ha, hb, rfl⟩ := zipWith_get hd
      obtain ⟨y1, g1, k1⟩ := rx.get ha
      obtain ⟨y2, g2, k2⟩ := ry.get hb
      refine ⟨⟨xs, ys, y1, y2, ta.ex l e2, tb.ex l e2, g1, g2⟩, fun v H3 ⟨T, z1, z2, hv, nT, hH, f1, f2⟩ => ?_⟩
      have e1' := f1 _ (ta.ex l e2)
      have e2' := f2 _ (tb.ex l e2)
      rw [g1] at e1'; cases e1'
      rw [g2] at e2'; cases e2'
      subst hv; subst hH
      exact ⟨Ex.new nT, fun M lm dm => Rp.pair dm nT (Rp.le (l.trans lm) _ _ k1) (Rp.le (l.trans lm) _ _ k2)⟩⟩
/-- zip of two lists -/
theorem wd_zipL {elts : List Expr} (h : ED X ρ e (.lst ds)) (h' : ED X ρ e2 (.lst es)) (hg : Gl X "zip") (hm : X.mg "zip" = none)
    (hs : starEach [e, e2] X.env = (false, eval e X.env) :: starEach [e2] X.env := by rfl) (hs2 : starEach [e2] X.env = (false, eval e2 X.env) :: starEach [] X.env := by rfl) (hpl : (backTo pos (starEach [e2] X.env)).any (·.1) = false := by rfl) :
    WD X ρ (.Tuple elts kk tpos) (.Call (.Name "zip" p) [e, e2] [] pos) (pairs ds es) :=
  pi_w (RZ.pi_zipA hg hm (ea_cons h (ea_cons h' ea_nil hs2) hs) hs hpl) fun σ H R ⟨H0, M0, E, q⟩ => ⟨H0, M0, E, fun vs H' e1 r => by
    obtain ⟨H1, ex, E1, l⟩ := (E.ext e1).fixed
    obtain ⟨x, r, rfl, ⟨a, xs, rfl, ma, ta, rx⟩, x2, r2, rfl, ⟨b, ys, rfl, mb, tb, ry⟩, h3⟩ := r
    cases h3
    refine ⟨a, b, xs, ys, rfl, .inl ⟨SqL.of ta, SqL.of tb, q _ _ H1 e1 ex E1 fun i H2 e2 => ⟨fun hi => ⟨xs, ys, SqL.of (e2 _ _ (l _ _ ta ma).1 (l _ _ ta ma).2), SqL.of (e2 _ _ (l _ _ tb mb).1 (l _ _ tb mb).2), ?_⟩, fun d hd => ?_⟩⟩⟩
    · have := hi
      unfold pairs at this
      rw [List.length_zipWith] at this
      rw [rx.length, ry.length]
      omega
    · obtain ⟨da, db, ha, hb, rfl⟩ := zipWith_get hd
      obtain ⟨y1, g1, k1⟩ := rx.get ha
      obtain ⟨y2, g2, k2⟩ := ry.get hb
      have sa : SqL X.K H2 a xs := SqL.of (e2 _ _ (l _ _ ta ma).1 (l _ _ ta ma).2)
      have sb : SqL X.K H2 b ys := SqL.of (e2 _ _ (l _ _ tb mb).1 (l _ _ tb mb).2)
      refine ⟨⟨xs, ys, y1, y2, sa, sb, g1, g2⟩, fun v H3 ⟨T, z1, z2, hv, nT, hH, f1, f2⟩ => ?_⟩
      have e1' := f1 _ sa
      have e2' := f2 _ sb
      rw [g1] at e1'; cases e1'
      rw [g2] at e2'; cases e2'
      subst hv; subst hH
      exact ⟨Ex.new nT, fun M lm dm => Rp.pair dm nT (Rp.le (l.trans lm) _ _ k1) (Rp.le (l.trans lm) _ _ k2)⟩⟩

/-! ### targets -/
/-- f ρ d ρ': d stored from ρ leads to ρ'; only the slots js change -/
def tG (K : PySem.W.Frag) (f : List SD → D → List SD → Prop) (js : List Nat) : TG := fun v σ H Q => ∃ H0 M0 ρ d ρ', f ρ d ρ' ∧ EnvOk K H0 M0 ρ σ H ∧ Rp K H (Mo M0 ρ σ) d v ∧
  ∀ σ', EnvOk K H0 M0 ρ' σ' H → σ'.length = σ.length → (∀ i : Nat, i ∉ js → σ'[i]? = σ[i]?) → Q σ' H
abbrev TD (X : Cx) (tg : Expr) (f : List SD → D → List SD → Prop) (js : List Nat) : Prop := PG X tg (tG X.K f js)
theorem pg_w {t t' : TG} (h : PG X tg t) (w : ∀ v σ H Q, t' v σ H Q → t v σ H Q) : PG X tg t' := ⟨fun pins s σ H v u Q I r q => h.run pins s σ H v u Q I r (w _ _ _ _ q)⟩
theorem pgs_w {ts : List Expr} {t t' : TGs} (h : PGs X ts t) (w : ∀ v σ H Q, t' v σ H Q → t v σ H Q) : PGs X ts t' := ⟨fun pins s σ H v u Q I r q => h.run pins s σ H v u Q I r (w _ _ _ _ q)⟩
def setF (i : Nat) : List SD → D → List SD → Prop := fun ρ d ρ' => i < ρ.length ∧ ρ' = ρ.set i (.val d)
theorem td_name (i : Nat) (hN : X.N.Nodup) (hi : X.N[i]? = some x) (hx : Loc X.env.scope x) (hf : X.fn x = true ∨ X.env.scope.names.lookup x = some .local := by first | exact .inl rfl | exact .inr rfl | assumption) : TD X (.Name x pos) (setF i) [i] :=
  pg_w (pg_name hN hi hx hf) fun v σ H Q ⟨H0, M0, ρ, d, ρ', ⟨hl, hs⟩, E, r, q⟩ => q _ (by rw [hs]; exact E.set (by rw [← E.len]; exact hl) r) (List.length_set ..) fun j hj => List.getElem?_set_ne (by
    intro z; exact hj (by rw [z]; exact List.mem_singleton.mpr rfl))
/-- several targets, one after another -/
def tGs (K : PySem.W.Frag) (f : List SD → List D → List SD → Prop) (js : List Nat) : TGs := fun vs σ H Q => ∃ H0 M0 ρ ds ρ', f ρ ds ρ' ∧ EnvOk K H0 M0 ρ σ H ∧ Rps K H (Mo M0 ρ σ) ds vs ∧
  ∀ σ', EnvOk K H0 M0 ρ' σ' H → σ'.length = σ.length → (∀ i : Nat, i ∉ js → σ'[i]? = σ[i]?) → Q σ' H
abbrev TDs (X : Cx) (ts : List Expr) (f : List SD → List D → List SD → Prop) (js : List Nat) : Prop := PGs X ts (tGs X.K f js)
def nilF : List SD → List D → List SD → Prop := fun ρ ds ρ' => ds = [] ∧ ρ' = ρ
/-- the first target keeps what the rest will be given -/
def consF (f : List SD → D → List SD → Prop) (js : List Nat) (g : List SD → List D → List SD → Prop) : List SD → List D → List SD → Prop := fun ρ ds ρ' => ∃ d es ρ1, ds = d :: es ∧ f ρ d ρ1 ∧ g ρ1 es ρ' ∧ ∀ (i : Nat) (e : HotD), ρ1[i]? = some (SD.hot e) → ρ[i]? = some (SD.hot e) ∧ i ∉ js
theorem tds_nil : TDs X [] nilF [] := pgs_w pgs_nil fun vs σ H Q ⟨H0, M0, ρ, ds, ρ', ⟨h1, h2⟩, E, r, q⟩ => by
  subst h1; subst h2
  exact ⟨r, q σ E rfl fun _ _ => rfl⟩
theorem tds_cons {f : List SD → D → List SD → Prop} {g : List SD → List D → List SD → Prop} {js ks : List Nat} {es : List Expr} (h : TD X e f js) (h' : TDs X es g ks)
    (hs : (assignEach (e :: es) X.env).map (·.2) = assign e X.env :: (assignEach es X.env).map (·.2) := by rfl) : TDs X (e :: es) (consF f js g) (js ++ ks) :=
  pgs_w (pgs_cons h h' hs) fun vs σ H Q ⟨H0, M0, ρ, ds, ρ', ⟨d, es, ρ1, h1, h2, h3, h4⟩, E, r, q⟩ => by
    subst h1
    obtain ⟨x, rs, rfl, r1, r2⟩ := r
    refine ⟨x, rs, rfl, H0, M0, ρ, d, ρ1, h2, E, r1, fun σ1 E1 l1 k1 => ⟨H0, M0, ρ1, es, ρ', h3, E1, ?_, fun σ2 E2 l2 k2 => q σ2 E2 (l2.trans l1) fun i hi => ?_⟩⟩
    · refine Rps.le (fun a o hh m => ⟨hh, fun z => m ?_⟩) _ _ r2
      rcases z with (z | ⟨i, μ, d', z1, z2⟩) | ⟨i, ⟨e', z1⟩, z2⟩
      · exact .inl (.inl z)
      · exact .inl (.inr ⟨i, μ, d', (h4 i (.inr μ) z1).1, z2⟩)
      · obtain ⟨o1, nj⟩ := h4 i (.inl e') z1
        rw [k1 i nj] at z2
        exact .inr ⟨i, ⟨e', o1⟩, z2⟩
    · rw [k2 i (fun z => hi (List.mem_append_right _ z)), k1 i (fun z => hi (List.mem_append_left _ z))]
/-- (a, b, ..) -/
def tupF (n : Nat) (g : List SD → List D → List SD → Prop) : List SD → D → List SD → Prop := fun ρ d ρ' => ∃ ds, d = .tup ds ∧ ds.length = n ∧ g ρ ds ρ'
theorem td_tup {g : List SD → List D → List SD → Prop} {js : List Nat} {es : List Expr} {n : Nat} (hc : X.calm = true) (h : TDs X es g js) (hn : (assignEach es X.env).length = n := by rfl) (hst : (assignEach es X.env).findIdx? (·.1) = none := by rfl) :
    TD X (.Tuple es kk pos) (tupF n g) js :=
  pg_w (pg_tup hc h hn hst) fun v σ H Q ⟨H0, M0, ρ, d, ρ', ⟨ds, h1, h2, h3⟩, E, r, q⟩ => by
    subst h1
    obtain ⟨a, xs, rfl, t, rx⟩ := r
    exact ⟨a, xs, rfl, t.sq, by rw [rx.length, h2], H0, M0, ρ, ds, ρ', h3, E, rx, q⟩
/-- the stores of names, told by the slots -/
theorem consF_name {i : Nat} {ρ ρ' : List SD} {d : D} {es : List D} {g : List SD → List D → List SD → Prop} (hl : i < ρ.length) (h : g (ρ.set i (.val d)) es ρ') : consF (setF i) [i] g ρ (d :: es) ρ' :=
  ⟨d, es, _, rfl, ⟨hl, rfl⟩, h, fun j e z => by
    rcases set_some z with ⟨_, y, _⟩ | ⟨ne, y⟩
    · cases e <;> cases y
    · exact ⟨y, fun m => ne (List.mem_singleton.mp m)⟩⟩
theorem nilF_mk {ρ : List SD} : nilF ρ [] ρ := ⟨rfl, rfl⟩
/-- a, b = e | (a, b) -/
theorem sd1_tgt {f : List SD → D → List SD → Prop} {js : List Nat} {R : Po} (he : ED X ρ e d) (hg : TD X tg f js) (hf : f ρ d ρ') (h : R.nx ρ') (hs : swapsWithSole [tg] e pos.line X.env = pure false := by rfl) (hw : swappedStores [tg] e X.env = pure none := by rfl)
    (h1 : (assignEach [tg] X.env).map (·.2) = [assign tg X.env] := by rfl) : SD1 X W ρ (.Assign [tg] e pos) R :=
  ps_w (ps_asg he hg hs hw h1) fun Dn σ H ⟨H0, M0, E, q1, _⟩ => ⟨H0, M0, E, fun v H1 e1 r1 => ⟨H0, M0, ρ, d, ρ', hf, E.ext e1, r1, fun σ' E' _ _ => q1 ρ' σ' H1 h E'⟩⟩
theorem sds_tgt {f : List SD → D → List SD → Prop} {js : List Nat} {R : Po} {rest : List Stmt} (he : ED X ρ e d) (hg : TD X tg f js) (hf : f ρ d ρ') (h : SDs X W ρ' rest R) (hs : swapsWithSole [tg] e pos.line X.env = pure false := by rfl) (hw : swappedStores [tg] e X.env = pure none := by rfl)
    (h1 : (assignEach [tg] X.env).map (·.2) = [assign tg X.env] := by rfl) : SDs X W ρ (.Assign [tg] e pos :: rest) R :=
  sds_cons (R1 := fun ρ1 => ρ1 = ρ') (sd1_tgt he hg hf rfl hs hw h1) fun _ z => by rw [z]; exact h

/-! ### loops -/
theorem sd1_for {f : List SD → D → List SD → Prop} {js : List Nat} {R : Po} {body : List Stmt} {iter : Expr} (hp : PassesOwn (model X.prog X.w) X.A X.env X.xe) (hc : X.calm = true) (hi : WD X ρ tg iter ds) (hg : TD X tg f js) (I : Nat → List SD → Prop) (h0 : I 0 ρ)
    (hs : ∀ (i : Nat) d ρ1, ds[i]? = some d → I i ρ1 → ∃ ρ2, f ρ1 d ρ2 ∧ SDs X W ρ2 body { R with nx := I (i + 1), ct := I (i + 1), bk := R.nx }) (hd : ∀ ρ1, I ds.length ρ1 → R.nx ρ1)
    (hfs : ∀ x, foldedSetIterable iter X.env x = pure x := by intro _; rfl) : SD1 X W ρ (.For tg iter body [] pos) R := by
  refine ps_w (ps_for hp hc hi hg (pss_fam (ι := Nat × List SD) (p := fun q => SDs X W q.2 body { R with nx := I (q.1 + 1), ct := I (q.1 + 1), bk := R.nx }) (t := fun q => tS X.K W q.2 { R with nx := I (q.1 + 1), ct := I (q.1 + 1), bk := R.nx }) fun q h => h) hfs) fun Dn σ H ⟨H0, M0, E, q1, q2, q3, q4, q5⟩ => ?_
  refine ⟨H0, M0, E, fun J H' H1 e1 e0 E1 it => ?_⟩
  refine ⟨fun i m σ' H'' => i + m = ds.length ∧ ∃ ρ1, I i ρ1 ∧ EnvOk X.K H1 M0 ρ1 σ' H'', ⟨ds.length, by omega, ρ, h0, E1⟩, fun i m σ' H'' ⟨hm, ρ1, hI, E2⟩ => ?_⟩
  obtain ⟨i1, i2⟩ := it i H'' E2.ex.n
  by_cases hlt : i < ds.length
  · obtain ⟨g1, g2⟩ := i2 _ (List.getElem?_eq_getElem hlt)
    obtain ⟨ρ2, hf, hb⟩ := hs i _ ρ1 (List.getElem?_eq_getElem hlt) hI
    refine .inr ⟨g1, fun σ3 H3 => ∃ ρ3, I (i + 1) ρ3 ∧ EnvOk X.K H1 M0 ρ3 σ3 H3, fun σ3 H3 ⟨ρ3, a, b⟩ => ⟨m - 1, by omega, by omega, ρ3, a, b⟩, fun x H3 hy => ?_⟩
    obtain ⟨ex3, r3⟩ := g2 x H3 hy
    have E3 := E2.ext ex3
    refine ⟨H1, M0, ρ1, _, ρ2, hf, E3, r3 _ E2.base_le E2.dom, fun σ4 E4 _ _ => ⟨(i, ρ2), hb, H1, M0, E4, ?_, ?_, ?_, ?_, ?_⟩⟩
    · intro ρ5 σ5 H5 a b
      exact ⟨ρ5, a, b⟩
    · intro ρ5 d v σ5 H5 a b c
      exact q2 ρ5 d v σ5 H5 a ⟨b.len, e0.trans b.ex, E.m0, fun i a h => e0.back (b.fresh i a h), b.inj, b.val, b.own, fun a h => e0.back (b.stf a h), b.sto, b.st, b.one⟩ c
    · intro ρ5 σ5 H5 a b
      refine q1 ρ5 σ5 H5 a ⟨b.len, e0.trans b.ex, E.m0, fun i a h => e0.back (b.fresh i a h), b.inj, b.val, b.own, fun a h => e0.back (b.stf a h), b.sto, b.st, b.one⟩
    · intro ρ5 σ5 H5 a b
      exact ⟨ρ5, a, b⟩
    · intro ρ5 c fs cls dd σ5 H5 a b r
      exact q5 ρ5 c fs cls dd σ5 H5 a ⟨b.len, e0.trans b.ex, E.m0, fun i a h => e0.back (b.fresh i a h), b.inj, b.val, b.own, fun a h => e0.back (b.stf a h), b.sto, b.st, b.one⟩ r
  · have hie : i = ds.length := by omega
    subst hie
    refine .inl ⟨i1 rfl, q1 ρ1 σ' H'' (hd ρ1 hI) ⟨E2.len, e0.trans E2.ex, E.m0, fun i a h => e0.back (E2.fresh i a h), E2.inj, E2.val, E2.own, fun a h => e0.back (E2.stf a h), E2.sto, E2.st, E2.one⟩⟩
theorem sds_for {f : List SD → D → List SD → Prop} {js : List Nat} {R : Po} {body rest : List Stmt} {iter : Expr} (hp : PassesOwn (model X.prog X.w) X.A X.env X.xe) (hc : X.calm = true) (hi : WD X ρ tg iter ds) (hg : TD X tg f js) (I : Nat → List SD → Prop) (h0 : I 0 ρ)
    (hs : ∀ (i : Nat) d ρ1, ds[i]? = some d → I i ρ1 → ∃ ρ2, f ρ1 d ρ2 ∧ SDs X W ρ2 body { R with nx := I (i + 1), ct := I (i + 1), bk := fun ρ1 => SDs X W ρ1 rest R }) (hd : ∀ ρ1, I ds.length ρ1 → SDs X W ρ1 rest R)
    (hfs : ∀ x, foldedSetIterable iter X.env x = pure x := by intro _; rfl) : SDs X W ρ (.For tg iter body [] pos :: rest) R :=
  sds_k (sd1_for hp hc hi hg I h0 hs hd hfs)
/-- a loop as a fold that may leave: env s the slots between two turns -/
def loopF {α S : Type} (step : α → S → S ⊕ Res) : List α → S → S ⊕ Res
  | [], s => .inl s
  | x :: xs, s => match step x s with
    | .inl s' => loopF step xs s'
    | .inr r => .inr r
theorem drop_of_get {α : Type} {xs : List α} {i : Nat} {x : α} (h : xs[i]? = some x) : xs.drop i = x :: xs.drop (i + 1) := by
  obtain ⟨hi, he⟩ := List.getElem?_eq_some_iff.mp h
  rw [List.drop_eq_getElem_cons hi, he]
theorem wipe_get (σ : L2.St) : ∀ (vs : List Nat) (i : Nat), (wipe σ vs)[i]? = if i ∈ vs ∧ i < σ.length then some none else σ[i]?
  | [], i => by simp [wipe]
  | v :: vs, i => by
    unfold wipe
    by_cases h : v = i
    · subst h
      by_cases hl : v < σ.length
      · rw [List.getElem?_set_self (by rw [wipe_length]; exact hl), if_pos ⟨List.mem_cons_self, hl⟩]
      · rw [List.getElem?_eq_none (by rw [List.length_set, wipe_length]; omega), if_neg (fun z => hl z.2), List.getElem?_eq_none (by omega)]
    · rw [List.getElem?_set_ne h, wipe_get σ vs i]
      by_cases hm : i ∈ vs ∧ i < σ.length
      · rw [if_pos hm, if_pos ⟨List.mem_cons_of_mem _ hm.1, hm.2⟩]
      · rw [if_neg hm, if_neg (fun z => hm ⟨(List.mem_cons.mp z.1).resolve_left (Ne.symm h), z.2⟩)]
theorem wipe_same {σ σ' : L2.St} {vs js : List Nat} (hl : σ'.length = (wipe σ vs).length) (h : ∀ i : Nat, i ∉ js → σ'[i]? = (wipe σ vs)[i]?) (s : ∀ i ∈ js, i ∈ vs) : wipe σ' vs = wipe σ vs := by
  rw [wipe_length] at hl
  refine List.ext_getElem? fun i => ?_
  rw [wipe_get, wipe_get, hl]
  by_cases hm : i ∈ vs ∧ i < σ.length
  · rw [if_pos hm, if_pos hm]
  · rw [if_neg hm, if_neg hm]
    by_cases hj : i ∈ js
    · have : ¬ i < σ.length := fun z => hm ⟨s i hj, z⟩
      rw [List.getElem?_eq_none (by omega), List.getElem?_eq_none (by omega)]
    · rw [h i hj, wipe_get, if_neg hm]
theorem wipeR_get (ρ : List SD) : ∀ (vs : List Nat) (i : Nat), i ∉ vs → (wipeR ρ vs)[i]? = ρ[i]?
  | [], i, _ => rfl
  | v :: vs, i, h => by
    unfold wipeR
    rw [List.getElem?_set_ne (fun z => h (by rw [z]; exact List.mem_cons_self)), wipeR_get ρ vs i (fun z => h (List.mem_cons_of_mem _ z))]
theorem wipeR_hot {i : Nat} {e : HotD} {ρ : List SD} : ∀ {vs : List Nat}, i ∈ vs → (wipeR ρ vs)[i]? ≠ some (SD.hot e)
  | v :: vs, h, z => by
    unfold wipeR at z
    by_cases hv : v = i
    · subst hv
      rw [List.getElem?_set] at z
      rw [if_pos rfl] at z
      split at z <;> (cases e <;> cases z)
    · rw [List.getElem?_set_ne hv] at z
      exact wipeR_hot ((List.mem_cons.mp h).resolve_left (Ne.symm hv)) z
/-- one more address that none of it knows -/
theorem EnvOk.extM {K : PySem.W.Frag} {H0 H H2 : Hp} {M0 : MS} {σ : L2.St} (E : EnvOk K H0 M0 ρ σ H) {p : Addr} {o : HO} (np : H p = none) (e : Ex H H2) (ho : H2 p = some o) (hno : ∀ xs, o ≠ .tup xs := by exact fun _ z => nomatch z) : EnvOk K (upd H0 p o) (fun a => M0 a ∨ a = p) ρ σ H2 := by
  have l : Le H (Mo M0 ρ σ) H2 (Mo (fun a => M0 a ∨ a = p) ρ σ) := fun a u h m => ⟨e _ _ h, fun q => by
    rcases q with ((q | q) | q) | q
    · exact m (.inl (.inl q))
    · subst q; rw [np] at h; cases h
    · exact m (.inl (.inr q))
    · exact m (.inr q)⟩
  refine ⟨E.len, fun a u h => ?_, fun a m => ?_, fun i a h => ?_, E.inj, fun i d h => ?_, fun i d h => ?_, fun a h => by
    have ha : a ≠ p := fun z => by subst z; exact E.dom a (.inl (.inr h)) np
    rw [upd_ne ha]; exact E.stf a h, E.sto, fun i μ h a d q => (E.st i μ h a d q).le l fun u q => e _ _ q, E.one⟩
  · by_cases ha : a = p
    · subst ha; rw [upd_same] at h; cases h; exact ho
    · rw [upd_ne ha] at h; exact e _ _ (E.ex _ _ h)
  · by_cases ha : a = p
    · subst ha; rw [upd_same]; exact ⟨o, rfl, hno⟩
    · rw [upd_ne ha]
      exact E.m0 a (m.resolve_right ha)
  · have ha : a ≠ p := fun z => by subst z; exact E.dom a (.inr ⟨i, h⟩) np
    rw [upd_ne ha]; exact E.fresh i a h
  · obtain ⟨v, h1, h2⟩ := E.val i d h
    exact ⟨v, h1, Rp.le l _ _ h2⟩
  · obtain ⟨a, h1, h2⟩ := E.own i d h
    exact ⟨a, h1, h2.le l fun u q => e _ _ q⟩
/-- a comprehension's block: what stands, and the new list -/
theorem lc_ways {α : Type} {xs : List α} {enc : α → D} {f : List SD → D → List SD → Prop} {js : List Nat} {own : List (Str × Nat)} (hjs : ∀ i ∈ js, i ∈ own.map (·.2)) (hno : ∀ i ∈ own.map (·.2), ∀ d, ρ[i]? ≠ some (SD.hot d)) (r2 : α → List SD) (t : α → Bool) (g : α → D)
    (hf : ∀ x ∈ xs, f (wipeR ρ (own.map (·.2))) (enc x) (r2 x)) (hk : ∀ x ∈ xs, ∀ j : Nat, j ∉ own.map (·.2) → (r2 x)[j]? = ρ[j]?) (hz : xs.length < 100000) {σ : L2.St} {H : Hp} {Q : VK} (h : tEO X.K ρ (.lst ((xs.filter t).map g)) σ H Q) :
    tLc (tW X.K ρ (xs.map enc)) (tG X.K f js) (fun σ H Q => ∃ x : α, x ∈ xs ∧ tT X.K (r2 x) (t x) σ H Q) (fun σ H Q => ∃ x : α, (x ∈ xs ∧ t x = true) ∧ tE X.K (r2 x) (g x) σ H Q) (own.map (·.2)) σ H Q := by
  obtain ⟨H0, M0, E, q⟩ := h
  refine ⟨H0, M0, E, fun J H' H1 e1 e0 E1 it => fun Dl hD => ?_⟩
  have nD1 : H1 Dl = none := E1.ex.back hD
  have lm : (xs.map enc).length = xs.length := List.length_map ..
  refine ⟨fun i m H2 => i + m = xs.length ∧ EnvOk X.K H1 M0 ρ σ H2 ∧ Ex H' H2 ∧ OwnAt X.K H2 (fun a => Mo M0 ρ σ a ∨ a = Dl) Dl (.lst (((xs.take i).filter t).map g)),
    ⟨xs.length, by omega, E1.ext (Ex.new hD), Ex.new hD, [], upd_same, rfl⟩, fun i m H2 ⟨hm, E2, ex2, o2⟩ => ?_⟩
  obtain ⟨i1, i2⟩ := it i H2 E2.ex.n
  by_cases hlt : i < xs.length
  · have hg' : (xs.map enc)[i]? = some (enc xs[i]) := by rw [List.getElem?_map, List.getElem?_eq_getElem hlt]; rfl
    have hmem : xs[i] ∈ xs := List.getElem_mem hlt
    obtain ⟨g1, g2⟩ := i2 _ hg'
    have tk : xs.take (i + 1) = xs.take i ++ [xs[i]] := by
      rw [List.take_add_one, List.getElem?_eq_getElem hlt]; rfl
    refine .inr ⟨g1, fun H3 => EnvOk X.K H1 M0 ρ σ H3 ∧ Ex H' H3 ∧ OwnAt X.K H3 (fun a => Mo M0 ρ σ a ∨ a = Dl) Dl (.lst (((xs.take (i + 1)).filter t).map g)), fun H3 ⟨a, b, c⟩ => ⟨m - 1, by omega, by omega, a, b, c⟩, fun x H3 hy => ?_⟩
    obtain ⟨ex3, r3⟩ := g2 x H3 hy
    obtain ⟨ys, hx, rx⟩ := o2
    have hx3 : H3 Dl = some (.lst ys) := ex3 _ _ hx
    have E3 := E1.extM hD (ex2.trans ex3) hx3
    have E3w := E3.wipe (own.map (·.2))
    have lb : Le H1 M0 H2 (Mo (fun a => M0 a ∨ a = Dl) (wipeR ρ (own.map (·.2))) (wipe σ (own.map (·.2)))) := by
      have E2m := (E1.extM hD ex2 hx).wipe (own.map (·.2))
      refine Le.trans (fun a o h m => ⟨?_, ?_⟩) E2m.base_le
      · rw [upd_ne (ne_of_none h nD1)]; exact h
      · exact fun z => z.elim m (fun z => by subst z; rw [nD1] at h; cases h)
    have dm2 : ∀ a, Mo (fun a => M0 a ∨ a = Dl) (wipeR ρ (own.map (·.2))) (wipe σ (own.map (·.2))) a → H2 a ≠ none := ((E1.extM hD ex2 hx).wipe (own.map (·.2))).dom
    refine ⟨_, _, _, _, _, hf _ hmem, E3w, r3 _ lb dm2, fun σ4 E4 l4 k4 => ⟨wipe_same l4 k4 hjs, xs[i], hmem, _, _, E4, fun H5 e5 => ?_⟩⟩
    cases ht' : t xs[i] with
    | false =>
      refine iteF ⟨E1.ext ((ex2.trans ex3).trans e5), (ex2.trans ex3).trans e5, ys, e5 _ _ hx3, ?_⟩
      rw [tk, List.filter_append, List.map_append, List.filter_cons, if_neg (by rw [ht']; decide)]
      show Rps _ _ _ (_ ++ []) _
      rw [List.append_nil]
      exact Rps.le (Le.ex (ex3.trans e5)) _ _ rx
    | true =>
      refine iteT ⟨xs[i], ⟨hmem, ht'⟩, _, _, E4.ext e5, fun y H6 e6 ry => ⟨ys, e6 _ _ (e5 _ _ hx3), small' ?_, ?_⟩⟩
      · have := rx.length
        rw [List.length_map] at this
        have l1 := List.length_filter_le t (xs.take i)
        rw [List.length_take] at l1
        omega
      · have ex6 : Ex H' H6 := ((ex2.trans ex3).trans e5).trans e6
        have exu : Ex H' (upd H6 Dl (.lst (ys ++ [y]))) := fun a u h => by
          rw [upd_ne (ne_of_none h hD)]; exact ex6 _ _ h
        refine ⟨E1.ext exu, exu, ys ++ [y], upd_same, ?_⟩
        rw [tk, List.filter_append, List.map_append, List.filter_cons, if_pos ht']
        refine Rps.append (Rps.le (fun a o h m => ⟨?_, m⟩) _ _ rx) (Rps.one (Rp.le (fun a o h m => ⟨?_, ?_⟩) _ _ ry))
        · rw [upd_ne (fun z => m (.inr z))]; exact e6 _ _ (e5 _ _ (ex3 _ _ h))
        · rw [upd_ne (fun z => m (.inl (.inl (.inr z))))]; exact h
        · rintro (z | z)
          · rcases z with (z | ⟨j, μ, d', z1, z2⟩) | ⟨j, ⟨e', z1⟩, z2⟩
            · exact m (.inl (.inl (.inl z)))
            · have nj : j ∉ own.map (·.2) := fun q => hno j q (.inr μ) z1
              exact m (.inl (.inr ⟨j, μ, d', by rw [hk _ hmem j nj]; exact z1, z2⟩))
            · have nj : j ∉ own.map (·.2) := fun q => hno j q (.inl e') z1
              refine m (.inr ⟨j, ⟨e', ?_⟩, ?_⟩)
              · rw [hk _ hmem j nj]; exact z1
              · rw [k4 j (fun q => nj (hjs j q)), wipe_get, if_neg (fun q => nj q.1)]; exact z2
          · exact m (.inl (.inl (.inr z)))
  · have hie : i = xs.length := by omega
    subst hie
    refine .inl ⟨i1 lm.symm, q Dl H2 (e1.back hD) (e1.trans ex2) ?_⟩
    rw [List.take_length] at o2
    exact o2
theorem eo_lc {α : Type} {xs : List α} {enc : α → D} {f : List SD → D → List SD → Prop} {js : List Nat} {elt iter : Expr} {ifs : List Expr} {scope : Scope} {own : List (Str × Nat)} (hc : X.calm = true) (hN : X.N.Nodup) (hi : WD X ρ tg iter (xs.map enc)) (ok : BlkOk X.N X.env.scope scope own)
    (hg : ∀ (s : Shared) (H : Hp) (C : Addr) (cl : List (Str × Addr)) (fp : List Addr), TD (X.blk s H scope (compEnvC scope cl C X.env) fp) tg f js) (hjs : ∀ i ∈ js, i ∈ own.map (·.2)) (hno : ∀ i ∈ own.map (·.2), ∀ d, ρ[i]? ≠ some (SD.hot d)) (r2 : α → List SD) (t : α → Bool) (g : α → D)
    (hf : ∀ x ∈ xs, f (wipeR ρ (own.map (·.2))) (enc x) (r2 x)) (hk : ∀ x ∈ xs, ∀ j : Nat, j ∉ own.map (·.2) → (r2 x)[j]? = ρ[j]?)
    (ht : ∀ (s : Shared) (H : Hp) (C : Addr) (cl : List (Str × Addr)) (fp : List Addr) (x : α), x ∈ xs → PTs (X.blk s H scope (compEnvC scope cl C X.env) fp) ifs (tT X.K (r2 x) (t x)))
    (he : ∀ (s : Shared) (H : Hp) (C : Addr) (cl : List (Str × Addr)) (fp : List Addr) (x : α), x ∈ xs → t x = true → ED (X.blk s H scope (compEnvC scope cl C X.env) fp) (r2 x) elt (g x))
    (hz : xs.length < 100000) (hs : ∀ x, foldedSetIterable iter X.env x = pure x := by intro _; rfl) :
    EO X ρ (.ListComp elt [⟨tg, iter, ifs, 0⟩] scope pos) (.lst ((xs.filter t).map g)) :=
  pe_w (pe_lc hc hN hi ok (g := tG X.K f js) hg (tt := fun σ H Q => ∃ x : α, x ∈ xs ∧ tT X.K (r2 x) (t x) σ H Q) (te := fun σ H Q => ∃ x : α, (x ∈ xs ∧ t x = true) ∧ tE X.K (r2 x) (g x) σ H Q)
    (fun s H C cl fp => ⟨fun pins s1 σ H1 Q I ⟨x, hx, h⟩ => (ht s H C cl fp x hx).run pins s1 σ H1 Q I h⟩) (fun s H C cl fp => ⟨fun pins s1 σ H1 Q I ⟨x, hx, h⟩ => (he s H C cl fp x hx.1 hx.2).run pins s1 σ H1 Q I h⟩) hs)
    fun σ H Q h => lc_ways hjs hno r2 t g hf hk hz h
/-- y = [..] -/
theorem sds_setLc {α : Type} {xs : List α} {enc : α → D} {f : List SD → D → List SD → Prop} {js : List Nat} {elt iter : Expr} {ifs : List Expr} {scope : Scope} {own : List (Str × Nat)} {R : Po} {rest : List Stmt} (i : Nat) {y : Str} {py spos : Pos} (hc : X.calm = true) (hN : X.N.Nodup) (hy : X.N[i]? = some y) (hyl : X.env.scope.names.lookup y = some .local)
    (hsw : swapsWith (.ListComp elt [⟨tg, iter, ifs, 0⟩] scope pos) (some (.Name y py)) spos.line X.env = pure true) (hi : WD X ρ tg iter (xs.map enc)) (ok : BlkOk X.N X.env.scope scope own)
    (hg : ∀ (s : Shared) (H : Hp) (C : Addr) (cl : List (Str × Addr)) (fp : List Addr), TD (X.blk s H scope (compEnvC scope cl C X.env) fp) tg f js) (hjs : ∀ i ∈ js, i ∈ own.map (·.2)) (hno : ∀ i ∈ own.map (·.2), ∀ d, ρ[i]? ≠ some (SD.hot d)) (r2 : α → List SD) (t : α → Bool) (g : α → D)
    (hf : ∀ x ∈ xs, f (wipeR ρ (own.map (·.2))) (enc x) (r2 x)) (hk : ∀ x ∈ xs, ∀ j : Nat, j ∉ own.map (·.2) → (r2 x)[j]? = ρ[j]?)
    (ht : ∀ (s : Shared) (H : Hp) (C : Addr) (cl : List (Str × Addr)) (fp : List Addr) (x : α), x ∈ xs → PTs (X.blk s H scope (compEnvC scope cl C X.env) fp) ifs (tT X.K (r2 x) (t x)))
    (he : ∀ (s : Shared) (H : Hp) (C : Addr) (cl : List (Str × Addr)) (fp : List Addr) (x : α), x ∈ xs → t x = true → ED (X.blk s H scope (compEnvC scope cl C X.env) fp) (r2 x) elt (g x))
    (hz : xs.length < 100000) (hl : i < ρ.length) (h : SDs X W (ρ.set i (.own (.lst ((xs.filter t).map g)))) rest R) (hs : ∀ x, foldedSetIterable iter X.env x = pure x := by intro _; rfl) :
    SDs X W ρ (.Assign [.Name y py] (.ListComp elt [⟨tg, iter, ifs, 0⟩] scope pos) spos :: rest) R :=
  sds_cons (R1 := fun ρ1 => ρ1 = ρ.set i (.own (.lst ((xs.filter t).map g)))) (ps_w (ps_setLc hc hN hy hyl hsw hi ok (g := tG X.K f js) hg (tt := fun σ H Q => ∃ x : α, x ∈ xs ∧ tT X.K (r2 x) (t x) σ H Q) (te := fun σ H Q => ∃ x : α, (x ∈ xs ∧ t x = true) ∧ tE X.K (r2 x) (g x) σ H Q)
    (fun s H C cl fp => ⟨fun pins s1 σ H1 Q I ⟨x, hx, h⟩ => (ht s H C cl fp x hx).run pins s1 σ H1 Q I h⟩) (fun s H C cl fp => ⟨fun pins s1 σ H1 Q I ⟨x, hx, h⟩ => (he s H C cl fp x hx.1 hx.2).run pins s1 σ H1 Q I h⟩) hs)
    fun Dn σ H h => tEO_set (fun σ H Q h => lc_ways hjs hno r2 t g hf hk hz h) hl h) fun _ z => by rw [z]; exact h
/-- tests of a clause -/
theorem pts_no {ρ2 : List SD} : PTs X [] (tT X.K ρ2 true) := ⟨fun pins s σ H Q I ⟨H0, M0, E, q⟩ => pts_nil.run pins s σ H Q I (q H (Ex.refl H))⟩
theorem pts_if {ρ2 : List SD} {c : Expr} {k : Bool} (h : ET X ρ2 c k) : PTs X [c] (tT X.K ρ2 k) := pts_one h

/-! ### two clauses -/
theorem EnvOk.reM {K : PySem.W.Frag} {H0 H H' : Hp} {M : MS} {σ : L2.St} {p : Addr} {o o' : HO} (E : EnvOk K (upd H0 p o) M ρ σ H) (hM : M p) (k : ∀ a u, a ≠ p → H a = some u → H' a = some u) (ho : H' p = some o') (hno : ∀ xs, o' ≠ .tup xs := by exact fun _ z => nomatch z) : EnvOk K (upd H0 p o') M ρ σ H' := by
  have l : Le H (Mo M ρ σ) H' (Mo M ρ σ) := fun a u h m => ⟨k a u (fun z => m (.inl (.inl (by rw [z]; exact hM)))) h, m⟩
  have nost : ∀ a, Stt ρ a → a ≠ p ∧ H0 a = none := fun a h => by
    have h1 := E.stf a h
    by_cases ha : a = p
    · subst ha; rw [upd_same] at h1; cases h1
    · rw [upd_ne ha] at h1; exact ⟨ha, h1⟩
  refine ⟨E.len, fun a u h => ?_, fun a m => ?_, fun i a h => ?_, E.inj, fun i d h => ?_, fun i d h => ?_, fun a h => by rw [upd_ne (nost a h).1]; exact (nost a h).2, E.sto, fun i μ h a d q => (E.st i μ h a d q).le l fun u z => k a u (nost a ⟨i, μ, d, h, q⟩).1 z, E.one⟩
  · by_cases ha : a = p
    · subst ha; rw [upd_same] at h; cases h; exact ho
    · rw [upd_ne ha] at h; exact k a u ha (E.ex a u (by rw [upd_ne ha]; exact h))
  · by_cases ha : a = p
    · subst ha; rw [upd_same]; exact ⟨o', rfl, hno⟩
    · have := E.m0 a m
      rw [upd_ne ha] at this ⊢; exact this
  · have h1 := E.fresh i a h
    by_cases ha : a = p
    · subst ha; rw [upd_same] at h1; cases h1
    · rw [upd_ne ha] at h1 ⊢; exact h1
  · obtain ⟨v, h1, h2⟩ := E.val i d h
    exact ⟨v, h1, Rp.le l _ _ h2⟩
  · obtain ⟨a, h1, h2⟩ := E.own i d h
    have ha : a ≠ p := fun z => by
      have h1' := E.fresh i a ⟨⟨d, h⟩, h1⟩
      rw [z, upd_same] at h1'; cases h1'
    exact ⟨a, h1, h2.le l fun u q => k a u ha q⟩
theorem yes_go {σ : L2.St} {H : Hp} {A B : Hp → Prop} (h : A H) : tYes σ H (fun b H3 => if b = true then A H3 else B H3) := by
  show if true = true then A H else B H
  exact iteT h
theorem lc2_ways {α β : Type} {xs : List α} {enc : α → D} {ys : α → List β} {enc1 : β → D} {f f1 : List SD → D → List SD → Prop} {js js1 : List Nat} {own : List (Str × Nat)} {vs1 : List Nat} (hjs : ∀ i ∈ js, i ∈ own.map (·.2)) (hjs1 : ∀ i ∈ js1, i ∈ vs1) (hv : ∀ i ∈ vs1, i ∈ own.map (·.2)) (hno : ∀ i ∈ own.map (·.2), ∀ d, ρ[i]? ≠ some (SD.hot d))
    (r2 : α → List SD) (r3 : α → β → List SD) (g : α → β → D) (hf : ∀ x ∈ xs, f (wipeR ρ (own.map (·.2))) (enc x) (r2 x)) (hf1 : ∀ x ∈ xs, ∀ y ∈ ys x, f1 (wipeR (r2 x) vs1) (enc1 y) (r3 x y)) (hk : ∀ x ∈ xs, ∀ j : Nat, j ∉ own.map (·.2) → (r2 x)[j]? = ρ[j]?) (hk1 : ∀ x ∈ xs, ∀ y ∈ ys x, ∀ j : Nat, j ∉ own.map (·.2) → (r3 x y)[j]? = ρ[j]?)
    (hz : (xs.flatMap ys).length < 100000) {σ : L2.St} {H : Hp} {Q : VK} (h : tEO X.K ρ (.lst (xs.flatMap fun x => (ys x).map (g x))) σ H Q) :
    tLc2 (tW X.K ρ (xs.map enc)) (tG X.K f js) tYes (fun σ H R => ∃ x : α, x ∈ xs ∧ tW X.K (r2 x) ((ys x).map enc1) σ H R) (tG X.K f1 js1) tYes (fun σ H Q => ∃ q : α × β, (q.1 ∈ xs ∧ q.2 ∈ ys q.1) ∧ tE X.K (r3 q.1 q.2) (g q.1 q.2) σ H Q) (own.map (·.2)) vs1 σ H Q := by
  obtain ⟨H0, M0, E, q⟩ := h
  refine ⟨H0, M0, E, fun J H' H1 e1 e0 E1 it => fun Dl hD => ?_⟩
  have nD1 : H1 Dl = none := E1.ex.back hD
  have lm : (xs.map enc).length = xs.length := List.length_map ..
  refine ⟨fun i m H2 => i + m = xs.length ∧ EnvOk X.K H1 M0 ρ σ H2 ∧ Ex H' H2 ∧ OwnAt X.K H2 (fun a => Mo M0 ρ σ a ∨ a = Dl) Dl (.lst ((xs.take i).flatMap fun x => (ys x).map (g x))),
    ⟨xs.length, by omega, E1.ext (Ex.new hD), Ex.new hD, [], upd_same, rfl⟩, fun i m H2 ⟨hm, E2, ex2, o2⟩ => ?_⟩
  obtain ⟨i1, i2⟩ := it i H2 E2.ex.n
  by_cases hlt : i < xs.length
  · have hg' : (xs.map enc)[i]? = some (enc xs[i]) := by rw [List.getElem?_map, List.getElem?_eq_getElem hlt]; rfl
    have hmem : xs[i] ∈ xs := List.getElem_mem hlt
    obtain ⟨g1, g2⟩ := i2 _ hg'
    have tk : xs.take (i + 1) = xs.take i ++ [xs[i]] := by
      rw [List.take_add_one, List.getElem?_eq_getElem hlt]; rfl
    refine .inr ⟨g1, fun H3 => EnvOk X.K H1 M0 ρ σ H3 ∧ Ex H' H3 ∧ OwnAt X.K H3 (fun a => Mo M0 ρ σ a ∨ a = Dl) Dl (.lst ((xs.take (i + 1)).flatMap fun x => (ys x).map (g x))), fun H3 ⟨a, b, c⟩ => ⟨m - 1, by omega, by omega, a, b, c⟩, fun x H3 hy => ?_⟩
    obtain ⟨ex3, r3'⟩ := g2 x H3 hy
    obtain ⟨zs, hx, rx⟩ := o2
    have hx3 : H3 Dl = some (.lst zs) := ex3 _ _ hx
    have E3 := E1.extM hD (ex2.trans ex3) hx3
    have E3w := E3.wipe (own.map (·.2))
    have lb : Le H1 M0 H2 (Mo (fun a => M0 a ∨ a = Dl) (wipeR ρ (own.map (·.2))) (wipe σ (own.map (·.2)))) := by
      have E2m := (E1.extM hD ex2 hx).wipe (own.map (·.2))
      refine Le.trans (fun a o h m => ⟨?_, ?_⟩) E2m.base_le
      · rw [upd_ne (ne_of_none h nD1)]; exact h
      · exact fun z => z.elim m (fun z => by subst z; rw [nD1] at h; cases h)
    have dm2 : ∀ a, Mo (fun a => M0 a ∨ a = Dl) (wipeR ρ (own.map (·.2))) (wipe σ (own.map (·.2))) a → H2 a ≠ none := ((E1.extM hD ex2 hx).wipe (own.map (·.2))).dom
    refine ⟨_, _, _, _, _, hf _ hmem, E3w, r3' _ lb dm2, fun σ4 E4 l4 k4 => ⟨wipe_same l4 k4 hjs, ?_⟩⟩
    refine yes_go ?_
    refine ⟨xs[i], hmem, _, _, E4, fun J1 H5 Hb e5 eb Eb it1 => ?_⟩
    have nl : (((xs.take i).flatMap fun x => (ys x).map (g x)).length : Nat) + (ys xs[i]).length ≤ (xs.flatMap ys).length := by
      have a1 : ∀ l : List α, (l.flatMap fun x => (ys x).map (g x)).length = (l.flatMap ys).length := fun l => by
        induction l with
        | nil => rfl
        | cons u r ih => rw [List.flatMap_cons, List.flatMap_cons, List.length_append, List.length_append, ih, List.length_map]
      have a2 : xs.flatMap ys = (xs.take i).flatMap ys ++ (ys xs[i] ++ (xs.drop (i + 1)).flatMap ys) := by
        conv => lhs; rw [← List.take_append_drop i xs]
        rw [List.flatMap_append, List.drop_eq_getElem_cons hlt, List.flatMap_cons]
      rw [a1, a2, List.length_append, List.length_append]
      omega
    refine ⟨fun j k H6 => j + k = (ys xs[i]).length ∧ (∃ ws, EnvOk X.K (upd H1 Dl (.lst ws)) (fun a => M0 a ∨ a = Dl) (r2 xs[i]) σ4 H6) ∧ ExN (fun a => M0 a ∨ a = Dl) Hb H6 ∧ EnvOk X.K H1 M0 ρ σ H6 ∧ Ex H' H6 ∧
        OwnAt X.K H6 (fun a => Mo M0 ρ σ a ∨ a = Dl) Dl (.lst (((xs.take i).flatMap fun x => (ys x).map (g x)) ++ ((ys xs[i]).take j).map (g xs[i]))), ⟨(ys xs[i]).length, by omega, ⟨zs, E4.ext e5⟩, Eb.ex.n, E1.ext ((ex2.trans ex3).trans e5), (ex2.trans ex3).trans e5, zs, e5 _ _ hx3, ?_⟩, fun j k H6 ⟨hjk, ⟨ws, E6⟩, exb, E6', ex6, o6⟩ => ?_⟩
    · rw [List.take_zero, List.map_nil, List.append_nil]
      exact Rps.le (Le.ex (ex3.trans e5)) _ _ rx
    obtain ⟨j1, j2⟩ := it1 j H6 exb
    by_cases hlt1 : j < (ys xs[i]).length
    · have hg1 : ((ys xs[i]).map enc1)[j]? = some (enc1 (ys xs[i])[j]) := by rw [List.getElem?_map, List.getElem?_eq_getElem hlt1]; rfl
      have hmem1 : (ys xs[i])[j] ∈ ys xs[i] := List.getElem_mem hlt1
      obtain ⟨g1', g2'⟩ := j2 _ hg1
      have tk1 : (ys xs[i]).take (j + 1) = (ys xs[i]).take j ++ [(ys xs[i])[j]] := by
        rw [List.take_add_one, List.getElem?_eq_getElem hlt1]; rfl
      obtain ⟨ts, hy6, ry6⟩ := o6
      have ews : ws = ts := by
        have := E6.ex Dl _ upd_same
        rw [hy6] at this; cases this; rfl
      subst ews
      refine .inr ⟨g1', fun H7 => (∃ ws, EnvOk X.K (upd H1 Dl (.lst ws)) (fun a => M0 a ∨ a = Dl) (r2 xs[i]) σ4 H7) ∧ ExN (fun a => M0 a ∨ a = Dl) Hb H7 ∧ EnvOk X.K H1 M0 ρ σ H7 ∧ Ex H' H7 ∧
        OwnAt X.K H7 (fun a => Mo M0 ρ σ a ∨ a = Dl) Dl (.lst (((xs.take i).flatMap fun x => (ys x).map (g x)) ++ ((ys xs[i]).take (j + 1)).map (g xs[i]))), fun H7 ⟨a, b, c, d, e⟩ => ⟨k - 1, by omega, by omega, a, b, c, d, e⟩, fun y H7 hy7 => ?_⟩
      obtain ⟨ex7, r7⟩ := g2' y H7 hy7
      have E7 := E6.ext ex7
      have lb1 : Le Hb (fun a => M0 a ∨ a = Dl) H6 (Mo (fun a => M0 a ∨ a = Dl) (wipeR (r2 xs[i]) vs1) (wipe σ4 vs1)) := by
        have l1 : Le Hb (fun a => M0 a ∨ a = Dl) H5 (Mo (fun a => M0 a ∨ a = Dl) (r2 xs[i]) σ4) := Eb.base_le
        intro a o h m
        obtain ⟨_, c2⟩ := l1 a o h m
        refine ⟨exb a o h m, fun z => c2 ?_⟩
        rcases z with (z | ⟨u, μ, d', z1, z2⟩) | ⟨u, ⟨d', z1⟩, z2⟩
        · exact .inl (.inl z)
        · have hu : u ∉ vs1 := fun q => wipeR_hot (e := .inr μ) q z1
          rw [wipeR_get _ _ _ hu] at z1
          exact .inl (.inr ⟨u, μ, d', z1, z2⟩)
        · by_cases hu : u ∈ vs1
          · exfalso
            rcases z1' : (wipe σ4 vs1)[u]? with _ | w
            · rw [z1'] at z2; cases z2
            · rw [wipe_get] at z1'
              by_cases hl : u < σ4.length
              · rw [if_pos ⟨hu, hl⟩] at z1'
                rw [wipe_get, if_pos ⟨hu, hl⟩] at z2; cases z2
              · rw [if_neg (fun q => hl q.2), List.getElem?_eq_none (by omega)] at z1'; cases z1'
          · refine .inr ⟨u, ⟨d', ?_⟩, ?_⟩
            · rw [wipeR_get _ _ _ hu] at z1; exact z1
            · rw [wipe_get, if_neg (fun q => hu q.1)] at z2; exact z2
      refine ⟨_, _, _, _, _, hf1 _ hmem _ hmem1, E7.wipe vs1, r7 _ lb1 (E6.wipe vs1).dom, fun σ8 E8 l8 k8 => ⟨wipe_same l8 k8 hjs1, ?_⟩⟩
      refine yes_go ?_
      refine ⟨(xs[i], (ys xs[i])[j]), ⟨hmem, hmem1⟩, _, _, E8, fun v H9 e9 rv => ⟨ws, e9 _ _ (ex7 _ _ hy6), small' ?_, ?_⟩⟩
      · have := ry6.length
        rw [List.length_append, List.length_map, List.length_take] at this
        omega
      · have ex9 : Ex H' H9 := (ex6.trans ex7).trans e9
        have exu : Ex H' (upd H9 Dl (.lst (ws ++ [v]))) := fun a u h => by
          rw [upd_ne (ne_of_none h hD)]; exact ex9 _ _ h
        refine ⟨⟨ws ++ [v], (E7.ext e9).reM (.inr rfl) (fun a u ha h => by rw [upd_ne ha]; exact h) upd_same⟩, fun a u h m => ?_, E1.ext exu, exu, ws ++ [v], upd_same, ?_⟩
        · rw [upd_ne (fun z => m (.inr z))]
          exact e9 _ _ (ex7 _ _ (exb a u h m))
        · rw [tk1, List.map_append, ← List.append_assoc]
          refine Rps.append (Rps.le (fun a o h m => ⟨?_, m⟩) _ _ ry6) (Rps.one (Rp.le (fun a o h m => ⟨?_, ?_⟩) _ _ rv))
          · rw [upd_ne (fun z => m (.inr z))]; exact e9 _ _ (ex7 _ _ h)
          · rw [upd_ne (fun z => m (.inl (.inl (.inr z))))]; exact h
          · rintro (z | z)
            · rcases z with (z | ⟨u, μ, d', z1, z2⟩) | ⟨u, ⟨e', z1⟩, z2⟩
              · exact m (.inl (.inl (.inl z)))
              · have nj : u ∉ own.map (·.2) := fun q => hno u q (.inr μ) z1
                exact m (.inl (.inr ⟨u, μ, d', by rw [hk1 _ hmem _ hmem1 u nj]; exact z1, z2⟩))
              · have nj : u ∉ own.map (·.2) := fun q => hno u q (.inl e') z1
                refine m (.inr ⟨u, ⟨e', ?_⟩, ?_⟩)
                · rw [hk1 _ hmem _ hmem1 u nj]; exact z1
                · rw [k8 u (fun q => nj (hv u (hjs1 u q))), wipe_get, if_neg (fun q => nj (hv u q.1)), k4 u (fun q => nj (hjs u q)), wipe_get, if_neg (fun q => nj q.1)]; exact z2
            · exact m (.inl (.inl (.inr z)))
    · have hje : j = (ys xs[i]).length := by omega
      subst hje
      refine .inl ⟨j1 (List.length_map ..).symm, E6', ex6, ?_⟩
      rw [List.take_length] at o6
      rw [tk, List.flatMap_append, List.flatMap_cons, List.flatMap_nil, List.append_nil]
      exact o6
  · have hie : i = xs.length := by omega
    subst hie
    refine .inl ⟨i1 lm.symm, q Dl H2 (e1.back hD) (e1.trans ex2) ?_⟩
    rw [List.take_length] at o2
    exact o2
end
end RW

end
section
/-! operators, calls of built-ins, subscripts over data -/
namespace RW
open PySem PySem.Spec PyProof.Rows L2
section
variable {X : Cx} {i j : Int} {s t : Str} {ds es : List D} {d e dz : D}
theorem opd_I0 {f : Value → Value → Sem Value} {g : Int → Int → Int} (h : OpR X f (rI0 fun i j => .int (g i j))) : OpD X f (.int i) (.int j) (.int (g i j)) :=
  ⟨_, h, fun H M x y dm rx ry Q q => ⟨i, j, rx, ry, q _ H (Ex.refl H) rfl⟩⟩
theorem opd_I {f : Value → Value → Sem Value} {C : Int → Int → Prop} {g : Int → Int → Int} (h : OpR X f (rI C fun i j => .int (g i j))) (hc : C i j) : OpD X f (.int i) (.int j) (.int (g i j)) :=
  ⟨_, h, fun H M x y dm rx ry Q q => ⟨i, j, rx, ry, hc, q _ H (Ex.refl H) rfl⟩⟩
theorem opd_B0 {f : Value → Value → Sem Value} {g : Int → Int → Bool} (h : OpR X f (rI0 fun i j => .bl (g i j))) : OpD X f (.int i) (.int j) (.bl (g i j)) :=
  ⟨_, h, fun H M x y dm rx ry Q q => ⟨i, j, rx, ry, q _ H (Ex.refl H) rfl⟩⟩
theorem opd_add : OpD X (binaryOp .Add) (.int i) (.int j) (.int (i + j)) := opd_I0 op_add
theorem opd_sub : OpD X (binaryOp .Sub) (.int i) (.int j) (.int (i - j)) := opd_I0 op_sub
theorem opd_mulL (h : -(2 ^ 64) < i ∧ i < 2 ^ 64) : OpD X (binaryOp .Mult) (.int i) (.int j) (.int (i * j)) := opd_I op_mul (.inl h)
theorem opd_mulR (h : -(2 ^ 64) < j ∧ j < 2 ^ 64) : OpD X (binaryOp .Mult) (.int i) (.int j) (.int (i * j)) := opd_I op_mul (.inr h)
theorem opd_fdiv (h : 0 < j ∧ j < 1073741824) : OpD X (binaryOp .FloorDiv) (.int i) (.int j) (.int (i / j)) := opd_I op_fdiv h
theorem opd_mod (h : 0 < j) : OpD X (binaryOp .Mod) (.int i) (.int j) (.int (i % j)) := opd_I op_mod h
theorem opd_shl (h : 0 ≤ j ∧ j ≤ 1000000 ∧ i.natAbs < 2 ^ 64) : OpD X (binaryOp .LShift) (.int i) (.int j) (.int (i * 2 ^ j.toNat)) := opd_I op_shl h
theorem opd_shr (h : 0 ≤ j) : OpD X (binaryOp .RShift) (.int i) (.int j) (.int (i / 2 ^ j.toNat)) := opd_I op_shr h
theorem opd_and : OpD X (binaryOp .BitAnd) (.int i) (.int j) (.int (Builtin.bitAnd i j)) := opd_I0 op_and
theorem opd_or : OpD X (binaryOp .BitOr) (.int i) (.int j) (.int (Builtin.bitOr i j)) := opd_I0 op_or
theorem opd_lt : OpD X (compareOp .Lt) (.int i) (.int j) (.bl (decide (i < j))) := opd_B0 op_lt
theorem opd_le : OpD X (compareOp .LtE) (.int i) (.int j) (.bl (decide (i ≤ j))) := opd_B0 op_le
theorem opd_gt : OpD X (compareOp .Gt) (.int i) (.int j) (.bl (decide (j < i))) := opd_B0 op_gt
theorem opd_ge : OpD X (compareOp .GtE) (.int i) (.int j) (.bl (decide (j ≤ i))) := opd_B0 op_ge
theorem dec_of {p q : Prop} [Decidable p] [Decidable q] (h : p ↔ q) : decide p = decide q := by
  by_cases hp : p
  · rw [decide_eq_true hp, decide_eq_true (h.mp hp)]
  · rw [decide_eq_false hp, decide_eq_false (fun z => hp (h.mpr z))]
theorem opd_eqI : OpD X (compareOp .Eq) (.int i) (.int j) (.bl (decide (i = j))) := ⟨_, op_eq, fun H M x y dm rx ry Q q => by
  rw [show x = .int i from rx, show y = .int j from ry]
  exact ⟨rfl, q _ H (Ex.refl H) (congrArg V.bl (dec_of ⟨fun h => V.int.inj h, fun h => by rw [h]⟩))⟩⟩
theorem opd_neI : OpD X (compareOp .NotEq) (.int i) (.int j) (.bl (!decide (i = j))) := ⟨_, op_ne, fun H M x y dm rx ry Q q => by
  rw [show x = .int i from rx, show y = .int j from ry]
  exact ⟨rfl, q _ H (Ex.refl H) (congrArg (fun b => V.bl (!b)) (dec_of ⟨fun h => V.int.inj h, fun h => by rw [h]⟩))⟩⟩
theorem opd_eqS : OpD X (compareOp .Eq) (.str s) (.str t) (.bl (decide (s = t))) := ⟨_, op_eq, fun H M x y dm rx ry Q q => by
  rw [show x = .str s from rx, show y = .str t from ry]
  exact ⟨rfl, q _ H (Ex.refl H) (congrArg V.bl (dec_of ⟨fun h => V.str.inj h, fun h => by rw [h]⟩))⟩⟩
theorem opd_neS : OpD X (compareOp .NotEq) (.str s) (.str t) (.bl (!decide (s = t))) := ⟨_, op_ne, fun H M x y dm rx ry Q q => by
  rw [show x = .str s from rx, show y = .str t from ry]
  exact ⟨rfl, q _ H (Ex.refl H) (congrArg (fun b => V.bl (!b)) (dec_of ⟨fun h => V.str.inj h, fun h => by rw [h]⟩))⟩⟩
theorem opd_eqB {a b : Bool} : OpD X (compareOp .Eq) (.bl a) (.bl b) (.bl (decide (a = b))) := ⟨_, op_eq, fun H M x y dm rx ry Q q => by
  rw [show x = .bl a from rx, show y = .bl b from ry]
  exact ⟨rfl, q _ H (Ex.refl H) (congrArg V.bl (dec_of ⟨fun h => V.bl.inj h, fun h => by rw [h]⟩))⟩⟩
theorem opd_neB {a b : Bool} : OpD X (compareOp .NotEq) (.bl a) (.bl b) (.bl (!decide (a = b))) := ⟨_, op_ne, fun H M x y dm rx ry Q q => by
  rw [show x = .bl a from rx, show y = .bl b from ry]
  exact ⟨rfl, q _ H (Ex.refl H) (congrArg (fun b => V.bl (!b)) (dec_of ⟨fun h => V.bl.inj h, fun h => by rw [h]⟩))⟩⟩
def D.isNon : D → Bool
  | .non => true
  | _ => false
theorem Rp.non_iff {K : PySem.W.Frag} {H : Hp} {M : MS} : ∀ {d : D} {x : V}, Rp K H M d x → decide (x = .non) = d.isNon
  | .non, _, h => by rw [show _ = V.non from h]; rfl
  | .bl b, _, h => by rw [show _ = V.bl b from h]; rfl
  | .int b, _, h => by rw [show _ = V.int b from h]; rfl
  | .str b, _, h => by rw [show _ = V.str b from h]; rfl
  | .tup _, _, ⟨a, _, h, _⟩ => by rw [h]; rfl
  | .lst _, _, ⟨a, _, h, _⟩ => by rw [h]; rfl
  | .scr _, _, ⟨a, h, _⟩ => by rw [h]; rfl
  | .obj _ _, _, ⟨a, _, _, h, _⟩ => by rw [h]; rfl
  | .me _ _ _, _, ⟨_, _, h, _⟩ => by rw [h]; rfl
  | .adr a, _, h => by rw [show _ = V.ref a from h]; rfl
  | .ty a, _, h => by rw [show _ = V.ty a from h]; rfl
  | .dk _, _, ⟨a, _, h, _⟩ => by rw [h]; rfl
  | .dt _, _, ⟨a, _, h, _⟩ => by rw [h]; rfl
  | .xc _ _ _, _, ⟨h, _⟩ => by rw [h]; rfl
  | .tag _ _, _, ⟨h, _⟩ => by rw [h]; rfl
theorem opd_isN : OpD X (compareOp .Is) d .non (.bl d.isNon) := ⟨_, op_isN, fun H M x y dm rx ry Q q => ⟨ry, by rw [rx.non_iff]; exact q _ H (Ex.refl H) rfl⟩⟩
theorem opd_notN : OpD X (compareOp .IsNot) d .non (.bl (!d.isNon)) := ⟨_, op_notN, fun H M x y dm rx ry Q q => ⟨ry, by rw [rx.non_iff]; exact q _ H (Ex.refl H) rfl⟩⟩
theorem opd_addS (h : s.length + t.length ≤ 1000000) : OpD X (binaryOp .Add) (.str s) (.str t) (.str (s ++ t)) := ⟨_, op_add_str, fun H M x y dm rx ry Q q => ⟨s, t, rx, ry, Nat.le_trans h (by decide), q _ H (Ex.refl H) rfl⟩⟩
theorem opd_cat (h : ds.length + es.length ≤ 1000000) : OpD X (binaryOp .Add) (.tup ds) (.tup es) (.tup (ds ++ es)) := ⟨_, op_catA, fun H M x y dm rx ry Q q => by
  obtain ⟨a, xs, rfl, ta, rx⟩ := rx
  obtain ⟨b, ys, rfl, tb, ry⟩ := ry
  refine ⟨a, b, xs, ys, rfl, rfl, ta.sq, tb.sq, by rw [rx.length, ry.length]; exact Nat.le_trans h (by decide), fun z => ?_, fun _ z => ?_, fun _ _ p np => q _ _ (Ex.new np) (Rp.new_tup dm np (Rps.append rx ry))⟩
  · subst z
    refine q _ H (Ex.refl H) ⟨b, ys, rfl, tb, ?_⟩
    have := Rps.append rx ry
    exact this
  · subst z
    refine q _ H (Ex.refl H) ⟨a, xs, rfl, ta, ?_⟩
    have := Rps.append rx ry
    rw [List.append_nil] at this
    exact this⟩
theorem opd_catL (h : ds.length + es.length ≤ 1000000) : OpD X (binaryOp .Add) (.lst ds) (.lst es) (.lst (ds ++ es)) := ⟨_, op_cat, fun H M x y dm rx ry Q q => by
  obtain ⟨a, xs, rfl, ma, ta, rx⟩ := rx
  obtain ⟨b, ys, rfl, mb, tb, ry⟩ := ry
  refine ⟨a, b, xs, ys, rfl, rfl, ta, tb, by rw [rx.length, ry.length]; exact Nat.le_trans h (by decide), fun p np => q _ _ (Ex.new np) ⟨p, _, rfl, fun m => dm p m np, upd_same, Rps.le (Le.ex (Ex.new np)) _ _ (Rps.append rx ry)⟩⟩⟩
theorem opd_unI {f : Value → Sem Value} {g : Int → Int} (h : UnR X f (rU fun i => .int (g i))) : UnD X f (.int i) (.int (g i)) := ⟨_, h, fun H M x dm rx Q q => ⟨i, rx, q _ H (Ex.refl H) rfl⟩⟩
theorem und_neg : UnD X (unaryOp .USub) (.int i) (.int (-i)) := opd_unI un_neg
theorem und_inv : UnD X (unaryOp .Invert) (.int i) (.int (Builtin.bitNot i)) := opd_unI un_inv
/-! membership -/
def flatD : D → Bool
  | .non => true | .bl _ => true | .int _ => true | .str _ => true
  | _ => false
def toV : D → V
  | .non => .non | .bl b => .bl b | .int i => .int i | .str s => .str s | .ty n => .ty n | .adr a => .ref a
  | _ => .non
theorem Rp.flat {K : PySem.W.Frag} {H : Hp} {M : MS} {d : D} {x : V} (h : Rp K H M d x) (hd : flatD d = true) : x = toV d ∧ flatV x = true := by
  cases d with
  | non => rw [show x = V.non from h]; exact ⟨rfl, rfl⟩
  | bl b => rw [show x = V.bl b from h]; exact ⟨rfl, rfl⟩
  | int b => rw [show x = V.int b from h]; exact ⟨rfl, rfl⟩
  | str b => rw [show x = V.str b from h]; exact ⟨rfl, rfl⟩
  | tup _ => cases hd
  | lst _ => cases hd
  | scr _ => cases hd
  | obj _ _ => cases hd
  | me _ _ _ => cases hd
  | adr _ => cases hd
  | ty _ => cases hd
  | dk _ => cases hd
  | dt _ => cases hd
  | xc _ _ _ => cases hd
  | tag _ _ => cases hd
theorem Rps.flat {K : PySem.W.Frag} {H : Hp} {M : MS} : ∀ {ds : List D} {xs : List V}, Rps K H M ds xs → ds.all flatD = true → xs = ds.map toV ∧ xs.all flatV = true
  | [], _, h, _ => by rw [show _ = _ from h]; exact ⟨rfl, rfl⟩
  | d :: ds, _, ⟨x, r, e, h1, h2⟩, h => by
    rw [List.all_cons, Bool.and_eq_true] at h
    obtain ⟨a1, a2⟩ := h1.flat h.1
    obtain ⟨b1, b2⟩ := h2.flat h.2
    rw [e, List.all_cons, a2, b2, List.map_cons, ← a1, ← b1]
    exact ⟨rfl, rfl⟩
def inD (d : D) (ds : List D) : Bool := inV (toV d) (ds.map toV)
theorem opd_inT (h : flatD d = true) (h' : ds.all flatD = true) : OpD X (compareOp .In) d (.tup ds) (.bl (inD d ds)) := ⟨_, op_in_seq, fun H M x y dm rx ry Q q => by
  obtain ⟨b, ys, rfl, tb, ry⟩ := ry
  obtain ⟨a1, a2⟩ := rx.flat h
  obtain ⟨b1, b2⟩ := ry.flat h'
  exact ⟨b, ys, rfl, .inr tb.sq, a2, b2, q _ H (Ex.refl H) (by rw [a1, b1]; rfl)⟩⟩
theorem opd_inL (h : flatD d = true) (h' : ds.all flatD = true) : OpD X (compareOp .In) d (.lst ds) (.bl (inD d ds)) := ⟨_, op_in_seq, fun H M x y dm rx ry Q q => by
  obtain ⟨b, ys, rfl, mb, tb, ry⟩ := ry
  obtain ⟨a1, a2⟩ := rx.flat h
  obtain ⟨b1, b2⟩ := ry.flat h'
  exact ⟨b, ys, rfl, .inl (SqL.of tb), a2, b2, q _ H (Ex.refl H) (by rw [a1, b1]; rfl)⟩⟩
theorem opd_niT (h : flatD d = true) (h' : ds.all flatD = true) : OpD X (compareOp .NotIn) d (.tup ds) (.bl (!inD d ds)) := ⟨_, op_notIn_seq, fun H M x y dm rx ry Q q => by
  obtain ⟨b, ys, rfl, tb, ry⟩ := ry
  obtain ⟨a1, a2⟩ := rx.flat h
  obtain ⟨b1, b2⟩ := ry.flat h'
  exact ⟨b, ys, rfl, .inr tb.sq, a2, b2, q _ H (Ex.refl H) (by rw [a1, b1]; rfl)⟩⟩
theorem opd_niL (h : flatD d = true) (h' : ds.all flatD = true) : OpD X (compareOp .NotIn) d (.lst ds) (.bl (!inD d ds)) := ⟨_, op_notIn_seq, fun H M x y dm rx ry Q q => by
  obtain ⟨b, ys, rfl, mb, tb, ry⟩ := ry
  obtain ⟨a1, a2⟩ := rx.flat h
  obtain ⟨b1, b2⟩ := ry.flat h'
  exact ⟨b, ys, rfl, .inl (SqL.of tb), a2, b2, q _ H (Ex.refl H) (by rw [a1, b1]; rfl)⟩⟩
theorem inD_ints {n : Int} {ns : List Int} : inD (.int n) (ns.map D.int) = decide (n ∈ ns) := by
  unfold inD inV
  rw [List.map_map]
  induction ns with
  | nil => rfl
  | cons m ns ih =>
    rw [List.map_cons, List.any_cons, ih]
    show (m == n || _) = _
    by_cases h : m = n
    · subst h; simp
    · have h2 : ¬ n = m := fun z => h z.symm
      simp [h, h2]
/-! == of data -/
mutual
def toPy : D → PyData
  | .non => .none | .bl b => .bool b | .int i => .int i | .str s => .str s
  | .tup ds => .tuple (toPys ds) | .lst ds => .list (toPys ds)
  | .scr _ => .none | .obj _ _ => .none | .me _ _ _ => .none | .adr _ => .none | .ty _ => .none | .dk _ => .none | .dt _ => .none | .xc _ _ _ => .none | .tag _ _ => .none
termination_by structural d => d
def toPys : List D → List PyData
  | [] => []
  | d :: ds => toPy d :: toPys ds
termination_by structural d => d
end
mutual
/-- no objects within, of this depth -/
def plainD : Nat → D → Bool
  | _, .non => true
  | _, .bl _ => true
  | _, .int _ => true
  | _, .str s => PyData.strOk s
  | 0, .tup _ => false
  | 0, .lst _ => false
  | n + 1, .tup ds => plainDs n ds
  | n + 1, .lst ds => plainDs n ds
  | _, .scr _ => false
  | _, .obj _ _ => false
  | _, .me _ _ _ => false
  | _, .adr _ => false
  | _, .ty _ => false
  | _, .dk _ => false
  | _, .dt _ => false
  | _, .xc _ _ _ => false
  | _, .tag _ _ => false
def plainDs : Nat → List D → Bool
  | _, [] => true
  | n, d :: ds => plainD n d && plainDs n ds
end
mutual
theorem Rp.dp {K : PySem.W.Frag} {H : Hp} {M : MS} : ∀ (n : Nat) (d : D) (x : V), Rp K H M d x → plainD n d = true → Dp K H x (toPy d)
  | _, .non, x, h, _ => by rw [show x = V.non from h]; exact .non
  | _, .bl b, x, h, _ => by rw [show x = V.bl b from h]; exact .bl b
  | _, .int b, x, h, _ => by rw [show x = V.int b from h]; exact .int b
  | _, .str b, x, h, _ => by rw [show x = V.str b from h]; exact .str b
  | 0, .tup _, _, _, z => nomatch z
  | 0, .lst _, _, _, z => nomatch z
  | n + 1, .tup ds, x, ⟨a, xs, e, t, r⟩, z => by rw [e]; exact .tup t.sq (Rps.dp n ds xs r z)
  | n + 1, .lst ds, x, ⟨a, xs, e, m, t, r⟩, z => by rw [e]; exact .lst (SqL.of t) (Rps.dp n ds xs r z)
  | _, .scr _, _, _, z => by cases z
  | _, .obj _ _, _, _, z => by cases z
  | _, .me _ _ _, _, _, z => by cases z
  | _, .adr _, _, _, z => by cases z
  | _, .ty _, _, _, z => by cases z
  | _, .dk _, _, _, z => by cases z
  | _, .dt _, _, _, z => by cases z
  | _, .xc _ _ _, _, _, z => by cases z
  | _, .tag _ _, _, _, z => by cases z
theorem Rps.dp {K : PySem.W.Frag} {H : Hp} {M : MS} : ∀ (n : Nat) (ds : List D) (xs : List V), Rps K H M ds xs → plainDs n ds = true → DpAll K H xs (toPys ds)
  | _, [], xs, h, _ => by rw [show xs = [] from h]; exact .nil
  | n, d :: ds, xs, ⟨x, r, e, h1, h2⟩, z => by
    have z' := Bool.and_eq_true_iff.mp (show (plainD n d && plainDs n ds) = true from z)
    rw [e]; exact .cons (Rp.dp n d x h1 z'.1) (Rps.dp n ds r h2 z'.2)
end
mutual
theorem plain_shaped : ∀ (n : Nat) (d : D), plainD n d = true → (toPy d).canLay0 = true ∧ (toPy d).depth ≤ n
  | _, .non, _ => ⟨rfl, Nat.zero_le _⟩
  | _, .bl b, _ => ⟨rfl, Nat.zero_le _⟩
  | _, .int b, _ => ⟨rfl, Nat.zero_le _⟩
  | _, .str b, z => ⟨z, Nat.zero_le _⟩
  | 0, .tup _, z => nomatch z
  | 0, .lst _, z => nomatch z
  | n + 1, .tup ds, z => let ⟨a, b⟩ := plains_shaped n ds z; ⟨a, Nat.succ_le_succ b⟩
  | n + 1, .lst ds, z => let ⟨a, b⟩ := plains_shaped n ds z; ⟨a, Nat.succ_le_succ b⟩
  | _, .scr _, z => by cases z
  | _, .obj _ _, z => by cases z
  | _, .me _ _ _, z => by cases z
  | _, .adr _, z => by cases z
  | _, .ty _, z => by cases z
  | _, .dk _, z => by cases z
  | _, .dt _, z => by cases z
  | _, .xc _ _ _, z => by cases z
  | _, .tag _ _, z => by cases z
theorem plains_shaped : ∀ (n : Nat) (ds : List D), plainDs n ds = true → PyData.canLayAll0 (toPys ds) = true ∧ PyData.depthAll (toPys ds) ≤ n
  | _, [], _ => ⟨rfl, Nat.zero_le _⟩
  | n, d :: ds, z => by
    have z' := Bool.and_eq_true_iff.mp (show (plainD n d && plainDs n ds) = true from z)
    obtain ⟨a1, b1⟩ := plain_shaped n d z'.1
    obtain ⟨a2, b2⟩ := plains_shaped n ds z'.2
    exact ⟨by show ((toPy d).canLay0 && PyData.canLayAll0 (toPys ds)) = true; rw [a1, a2]; rfl, Nat.max_le.mpr ⟨b1, b2⟩⟩
end
theorem shaped_of_plain {n : Nat} {d : D} (h : plainD n d = true) (hn : n ≤ 64) : SeqAt.shaped (toPy d) = true := by
  obtain ⟨a, b⟩ := plain_shaped n d h
  unfold SeqAt.shaped
  rw [a, decide_eq_true (Nat.le_trans b hn)]; rfl
def eqD (d e : D) : Bool := PyData.eqv (toPy d) (toPy e)
theorem opd_eq (hu : X.A.units + 64 < cLine) (h : plainD 20 d = true) (h' : plainD 20 e = true) : OpD X (compareOp .Eq) d e (.bl (eqD d e)) := ⟨_, op_eqD hu, fun H M x y dm rx ry Q q =>
  ⟨_, _, Rp.dp _ _ _ rx h, Rp.dp _ _ _ ry h', shaped_of_plain h (by decide), shaped_of_plain h' (by decide), q _ H (Ex.refl H) rfl⟩⟩
theorem opd_ne (hu : X.A.units + 64 < cLine) (h : plainD 20 d = true) (h' : plainD 20 e = true) : OpD X (compareOp .NotEq) d e (.bl (!eqD d e)) := ⟨_, op_neD hu, fun H M x y dm rx ry Q q =>
  ⟨_, _, Rp.dp _ _ _ rx h, Rp.dp _ _ _ ry h', shaped_of_plain h (by decide), shaped_of_plain h' (by decide), q _ H (Ex.refl H) rfl⟩⟩
theorem opd_inDL (hu : X.A.units + 65 < cLine) (h : plainD 20 d = true) (h' : plainDs 20 ds = true) : OpD X (compareOp .In) d (.lst ds) (.bl (ds.any fun z => eqD z d)) := ⟨_, op_inD hu, fun H M x y dm rx ry Q q => by
  have e1 : plainD 21 (.lst ds) = true := h'
  refine ⟨_, _, Rp.dp _ _ _ rx h, Rp.dp _ _ _ ry e1, shaped_of_plain h (by decide), shaped_of_plain (n := 21) e1 (by decide), q _ H (Ex.refl H) ?_⟩
  clear rx ry h h' e1 q
  have : ∀ ds : List D, (toPys ds).any (fun z => PyData.eqv z (toPy d)) = ds.any fun z => eqD z d := fun ds => by
    induction ds with
    | nil => rfl
    | cons a r ih => show (_ || _) = _; rw [List.any_cons]; exact congrArg _ ih
  exact congrArg V.bl (this ds)⟩
/-! subscripts -/
/-- the item at an index of any sign -/
theorem ixd_tup (h : atI ds i = some d) : IxD X (.tup ds) (.int i) d := ⟨_, ix_tup, fun H M x y dm rx ry Q q => by
  obtain ⟨a, xs, rfl, t, rx⟩ := rx
  obtain ⟨j, h1, h2, h3, h4, h5⟩ := atI_get h
  obtain ⟨v, g1, g2⟩ := rx.get h2
  refine ⟨a, xs, i, v, rfl, ry, t.sq, ?_, q _ H (Ex.refl H) g2⟩
  unfold atI at h ⊢
  rw [rx.length]
  cases hx : ixN ds.length i with
  | none => rw [hx] at h; cases h
  | some k =>
    obtain ⟨a1, _⟩ := ixN_seq hx
    rw [a1] at h1; cases h1
    exact g1⟩
theorem ixd_lst (h : atI ds i = some d) : IxD X (.lst ds) (.int i) d := ⟨_, ix_list, fun H M x y dm rx ry Q q => by
  obtain ⟨a, xs, rfl, m, t, rx⟩ := rx
  obtain ⟨j, h1, h2, h3, h4, h5⟩ := atI_get h
  obtain ⟨v, g1, g2⟩ := rx.get h2
  refine ⟨a, xs, i, v, rfl, ry, SqL.of t, ?_, q _ H (Ex.refl H) g2⟩
  unfold atI at h ⊢
  rw [rx.length]
  cases hx : ixN ds.length i with
  | none => rw [hx] at h; cases h
  | some k =>
    obtain ⟨a1, _⟩ := ixN_seq hx
    rw [a1] at h1; cases h1
    exact g1⟩
theorem ixd_scr {ns : List Int} {n : Int} (h : atI ns i = some n) : IxD X (.scr ns) (.int i) (.int n) := ⟨_, ix_list, fun H M x y dm rx ry Q q => by
  obtain ⟨a, rfl, t⟩ := rx
  refine ⟨a, _, i, .int n, rfl, ry, t.sq, ?_, q _ H (Ex.refl H) rfl⟩
  unfold atI at h ⊢
  rw [List.length_map]
  cases hx : ixN ns.length i with
  | none => rw [hx] at h; cases h
  | some k =>
    rw [hx] at h
    show (ns.map V.int)[k]? = _
    rw [List.getElem?_map, show ns[k]? = some n from h]; rfl⟩
theorem ixd_str {c : Nat} (h : atI s.cps.toList i = some c) (hz : s.length ≤ 1000000) : IxD X (.str s) (.int i) (.str ⟨#[c]⟩) := ⟨_, ix_str, fun H M x y dm rx ry Q q => ⟨s, i, c, rx, ry, Nat.le_trans hz (by decide), h, q _ H (Ex.refl H) rfl⟩⟩
/-- an item by its place, typed -/
theorem atI_map {α : Type} [Inhabited α] {enc : α → D} {xs : List α} {i : Int} (h : 0 ≤ i ∧ i < xs.length) : atI (xs.map enc) i = some (enc (xs.getD i.toNat default)) := by
  obtain ⟨j, rfl⟩ : ∃ j : Nat, i = (j : Int) := ⟨i.toNat, by omega⟩
  have hj : j < xs.length := by omega
  refine atI_nat ?_
  rw [List.getElem?_map, List.getElem?_eq_getElem hj, Int.toNat_natCast, List.getD_eq_getElem?_getD, List.getElem?_eq_getElem hj]; rfl
/-! calls -/
theorem cd_len_tup : CallD X (.builtin "len") [.tup ds] (.int ds.length) := ⟨_, call_len_seq, fun H M vs dm r Q q => by
  obtain ⟨x, r, rfl, ⟨a, xs, rfl, t, rx⟩, rfl⟩ := r
  exact ⟨a, xs, rfl, .inr t.sq, by rw [rx.length]; exact q _ H (Ex.refl H) rfl⟩⟩
theorem cd_len_lst : CallD X (.builtin "len") [.lst ds] (.int ds.length) := ⟨_, call_len_seq, fun H M vs dm r Q q => by
  obtain ⟨x, r, rfl, ⟨a, xs, rfl, m, t, rx⟩, rfl⟩ := r
  exact ⟨a, xs, rfl, .inl (SqL.of t), by rw [rx.length]; exact q _ H (Ex.refl H) rfl⟩⟩
theorem cd_len_scr {ns : List Int} : CallD X (.builtin "len") [.scr ns] (.int ns.length) := ⟨_, call_len_seq, fun H M vs dm r Q q => by
  obtain ⟨x, r, rfl, ⟨a, rfl, t⟩, rfl⟩ := r
  exact ⟨a, ns.map V.int, rfl, .inl t.sq, by rw [List.length_map]; exact q _ H (Ex.refl H) rfl⟩⟩
theorem cd_len_str (h : s.length ≤ 1000000) : CallD X (.builtin "len") [.str s] (.int s.length) := ⟨_, call_len, fun H M vs dm r Q q => by
  obtain ⟨x, r, rfl, h1, rfl⟩ := r
  rw [show x = .str s from h1]
  exact ⟨.str s, s.length, rfl, ⟨Nat.le_trans h (by decide), rfl⟩, q _ H (Ex.refl H) rfl⟩⟩
theorem cd_int : CallD X (.type "int") [.int i] (.int i) := ⟨_, call_int1, fun H M vs dm r Q q => by
  obtain ⟨x, r, rfl, h1, rfl⟩ := r
  exact .inl ⟨i, by rw [show x = .int i from h1], q _ H (Ex.refl H) rfl⟩⟩
theorem cd_intB {b : Bool} : CallD X (.type "int") [.bl b] (.int (if b then 1 else 0)) := ⟨_, call_int1, fun H M vs dm r Q q => by
  obtain ⟨x, r, rfl, h1, rfl⟩ := r
  exact .inr ⟨b, by rw [show x = .bl b from h1], q _ H (Ex.refl H) rfl⟩⟩
theorem cd_str (h : i.natAbs.log2 < 1920) : CallD X (.type "str") [.int i] (.str (toString i)) := ⟨_, call_str_int, fun H M vs dm r Q q => by
  obtain ⟨x, r, rfl, h1, rfl⟩ := r
  exact ⟨i, by rw [show x = .int i from h1], h, q _ H (Ex.refl H) rfl⟩⟩
theorem cd_abs : CallD X (.builtin "abs") [.int i] (.int (if i < 0 then -i else i)) := ⟨_, call_abs, fun H M vs dm r Q q => by
  obtain ⟨x, r, rfl, h1, rfl⟩ := r
  exact ⟨i, by rw [show x = .int i from h1], q _ H (Ex.refl H) rfl⟩⟩
theorem cd_tupleL : CallD X (.type "tuple") [.lst ds] (.tup ds) := ⟨_, call_tuple_of, fun H M vs dm r Q q => by
  obtain ⟨x, r, rfl, ⟨a, xs, rfl, m, t, rx⟩, rfl⟩ := r
  exact ⟨a, xs, rfl, .inl ⟨SqL.of t, fun p np => q _ _ (Ex.new np) (Rp.new_tup dm np rx)⟩⟩⟩
theorem cd_tupleT : CallD X (.type "tuple") [.tup ds] (.tup ds) := ⟨_, call_tuple_of, fun H M vs dm r Q q => by
  obtain ⟨x, r, rfl, ⟨a, xs, rfl, t, rx⟩, rfl⟩ := r
  exact ⟨a, xs, rfl, .inr ⟨t.sq, q _ H (Ex.refl H) ⟨a, xs, rfl, t, rx⟩⟩⟩⟩
theorem co_listL : CallO X (.type "list") [.lst ds] (.lst ds) := ⟨_, call_list_of, fun H M vs dm r Q q => by
  obtain ⟨x, r, rfl, ⟨a, xs, rfl, m, t, rx⟩, rfl⟩ := r
  exact ⟨a, xs, rfl, .inl (SqL.of t), fun p np => q p _ np (Ex.new np) (OwnAt.new_lst np rx)⟩⟩
theorem co_listT : CallO X (.type "list") [.tup ds] (.lst ds) := ⟨_, call_list_of, fun H M vs dm r Q q => by
  obtain ⟨x, r, rfl, ⟨a, xs, rfl, t, rx⟩, rfl⟩ := r
  exact ⟨a, xs, rfl, .inr t.sq, fun p np => q p _ np (Ex.new np) (OwnAt.new_lst np rx)⟩⟩
theorem cd_all (hc : X.calm = true) {bs : List Bool} : CallD X (.builtin "all") [.lst (bs.map D.bl)] (.bl (bs.all id)) := ⟨_, cr_all hc, fun H M vs dm r Q q => by
  obtain ⟨x, r, rfl, ⟨a, xs, rfl, m, t, rx⟩, rfl⟩ := r
  exact ⟨a, bs, rfl, by rw [← rx.bls]; exact SqL.of t, q _ H (Ex.refl H) rfl⟩⟩
theorem cd_any (hc : X.calm = true) {bs : List Bool} : CallD X (.builtin "any") [.lst (bs.map D.bl)] (.bl (bs.any id)) := ⟨_, cr_any hc, fun H M vs dm r Q q => by
  obtain ⟨x, r, rfl, ⟨a, xs, rfl, m, t, rx⟩, rfl⟩ := r
  exact ⟨a, bs, rfl, by rw [← rx.bls]; exact SqL.of t, q _ H (Ex.refl H) rfl⟩⟩
theorem cd_sum (hc : X.calm = true) {ns : List Int} : CallD X (.builtin "sum") [.lst (ns.map D.int)] (.int ns.sum) := ⟨_, cr_sum hc, fun H M vs dm r Q q => by
  obtain ⟨x, r, rfl, ⟨a, xs, rfl, m, t, rx⟩, rfl⟩ := r
  exact ⟨a, ns, rfl, by rw [← rx.ints]; exact SqL.of t, q _ H (Ex.refl H) rfl⟩⟩
/-- the class of data -/
def tyN : D → String
  | .non => "NoneType" | .bl _ => "bool" | .int _ => "int" | .str _ => "str" | .tup _ => "tuple" | .lst _ => "list"
  | _ => "?"
def tyK : D → Bool
  | .non => true | .bl _ => true | .int _ => true | .str _ => true | .tup _ => true | .lst _ => true
  | _ => false
theorem TupA.tyx {K : PySem.W.Frag} {H : Hp} {M : MS} {a : Addr} {xs : List V} (t : TupA K H M a xs) : TyX K H (.ref a) (.type "tuple") := by
  exact .base (.tup t.2)
theorem Rp.tyx {K : PySem.W.Frag} {H : Hp} {M : MS} {d : D} {x : V} (h : Rp K H M d x) (k : tyK d = true) : TyX K H x (.type (tyN d)) := by
  cases d with
  | non => rw [show x = V.non from h]; exact .base .non
  | bl b => rw [show x = V.bl b from h]; exact .base (.bl b)
  | int b => rw [show x = V.int b from h]; exact .base (.int b)
  | str b => rw [show x = V.str b from h]; exact .base (.str b)
  | tup _ => obtain ⟨a, xs, e, t, _⟩ := h; rw [e]; exact t.tyx
  | lst _ => obtain ⟨a, xs, e, _, t, _⟩ := h; rw [e]; exact .base (.lst t)
  | scr _ => cases k
  | obj _ _ => cases k
  | me _ _ _ => cases k
  | adr _ => cases k
  | ty _ => cases k
  | dk _ => cases k
  | dt _ => cases k
  | xc _ _ _ => cases k
  | tag _ _ => cases k
theorem cd_isi {T : String} {b : Bool} (k : tyK d = true) (h : kitB (tyN d) T = some b) : CallD X (.builtin "isinstance") [d, .ty T] (.bl b) := ⟨_, call_isi, fun H M vs dm r Q q => by
  obtain ⟨x, r, rfl, h1, y, r2, rfl, h2, rfl⟩ := r
  rw [show y = .ty T from h2]
  exact ⟨x, .ty T, .type (tyN d), .type T, b, rfl, .ty T, h1.tyx k, kit_ty h, q _ H (Ex.refl H) rfl⟩⟩
end
end RW

end
section
/-! shorter forms -/
namespace RW
open PySem PySem.Spec PyProof.Rows L2
section
variable {X : Cx} {W : WX} {ρ ρ' : List SD} {tg e e2 a b c o : Expr} {dx dy dz d : D} {pos p tpos p2 : Pos} {ds es : List D} {x : Str} {kk : Nat} {s t : Str} {R : Po} {rest : List Stmt}
theorem ed_bltn {T : String} (hg : Gl X x) (hm : X.mg x = none) (hv : bootBuiltins x = some (.type T)) (hn : x ≠ "__name__" := by decide) (hd : (x == ("__debug__" : Str)) = false := by decide) : ED X ρ (.Name x pos) (.ty T) :=
  pe_w (pe_bltn (v := .ty T) hg hm hv rfl hn hd) fun σ H Q ⟨H0, M0, E, q⟩ => q _ H (Ex.refl H) rfl
theorem ed_globI {i : Int} (hg : Gl X x) (h : ∃ t, X.mg x = some (.int i t)) (hd : (x == ("__debug__" : Str)) = false := by decide) : ED X ρ (.Name x pos) (.int i) := by
  obtain ⟨t, h⟩ := h
  exact ed_glob (v := .int i) hg h ⟨t, rfl⟩ (fun _ _ => rfl) hd
theorem ed_globS {i : Str} (hg : Gl X x) (h : ∃ t, X.mg x = some (.str i t)) (hd : (x == ("__debug__" : Str)) = false := by decide) : ED X ρ (.Name x pos) (.str i) := by
  obtain ⟨t, h⟩ := h
  exact ed_glob (v := .str i) hg h ⟨t, rfl⟩ (fun _ _ => rfl) hd
theorem ed_bits {i : Int} {apos : Pos} (ho : ED X ρ o (.int i)) (hbase : attributeBase o "bit_length" X.env (eval o X.env) = eval o X.env := by rfl) (hline : (apos.endLine == pos.line) = true := by rfl) : ED X ρ (.Call (.Attribute o "bit_length" apos) [] [] pos) (.int (Builtin.Int.intBits i : Nat)) :=
  pe_w (pe_bits ho hbase hline) fun σ H Q ⟨H0, M0, E, q⟩ => ⟨H0, M0, E, fun v H' e1 r => ⟨i, r, q _ H' e1 rfl⟩⟩
/-- a if c else b, of one kind -/
def IfD (k : Bool) (d1 d2 d : D) : Prop := d = if k = true then d1 else d2
theorem ed_ifd {k : Bool} {d1 d2 d : D} (h : ET X ρ c k) (h1 : k = true → ED X ρ a d1) (h2 : k = false → ED X ρ b d2) (hi : IfD k d1 d2 d) : ED X ρ (.IfExp c a b pos) d := hi ▸ ed_if h h1 h2
theorem ifd_enc {α : Type} (enc : α → D) {k : Bool} {u v : α} : IfD k (enc u) (enc v) (enc (if k = true then u else v)) := by
  cases k <;> rfl
theorem ifd_int {k : Bool} {u v : Int} : IfD k (.int u) (.int v) (.int (if k = true then u else v)) := ifd_enc D.int
theorem ifd_str {k : Bool} {u v : Str} : IfD k (.str u) (.str v) (.str (if k = true then u else v)) := ifd_enc D.str
theorem ifd_bl {k : Bool} {u v : Bool} : IfD k (.bl u) (.bl v) (.bl (if k = true then u else v)) := ifd_enc D.bl
theorem ifd_tup {k : Bool} {u v : List D} : IfD k (.tup u) (.tup v) (.tup (if k = true then u else v)) := ifd_enc D.tup
theorem ifd_lst {k : Bool} {u v : List D} : IfD k (.lst u) (.lst v) (.lst (if k = true then u else v)) := ifd_enc D.lst
theorem ifd_any {k : Bool} {u v : D} : IfD k u v (if k = true then u else v) := rfl
theorem wd_range1N {n : Nat} (h : ED X ρ e (.int (n : Int))) (hn : n ≤ 1000000000) (hg : Gl X "range") (hm : X.mg "range" = none) (hs : starEach [e] X.env = [(false, eval e X.env)] := by rfl) : WD X ρ tg (.Call (.Name "range" p) [e] [] pos) ((rng 0 n).map D.int) :=
  wd_range1 (n := (n : Int)) h (by omega) (by omega) hg hm hs
theorem cd_len_tupM {α : Type} {f : α → D} {xs : List α} : CallD X (.builtin "len") [.tup (xs.map f)] (.int (xs.length : Nat)) := by
  have := cd_len_tup (X := X) (ds := xs.map f)
  rw [List.length_map] at this; exact this
theorem cd_len_lstM {α : Type} {f : α → D} {xs : List α} : CallD X (.builtin "len") [.lst (xs.map f)] (.int (xs.length : Nat)) := by
  have := cd_len_lst (X := X) (ds := xs.map f)
  rw [List.length_map] at this; exact this
/-! truth of a value -/
def TruD (K : PySem.W.Frag) (d : D) (k : Bool) : Prop := ∀ (H : Hp) (M : MS) (x : V), Rp K H M d x → TruV K x H k
theorem et_tru {k : Bool} (h : ED X ρ e d) (ht : TruD X.K d k) (he : ∀ whole, isTrue e X.env whole = (do let v ← whole; standAt e.pos; holding [v] (truthy v)) := by intro _; rfl) : ET X ρ e k :=
  pt_w (pt_truth h he) fun σ H Q ⟨H0, M0, E, q⟩ => ⟨H0, M0, E, fun v H' e1 r => ⟨k, ht H' _ v r, q H' e1⟩⟩
theorem trd_int {K : PySem.W.Frag} {i : Int} : TruD K (.int i) (i != 0) := fun H M x r => by rw [show x = .int i from r]; rfl
theorem trd_str {K : PySem.W.Frag} (h : s.length ≤ 1000000) : TruD K (.str s) ((s.length : Int) != 0) := fun H M x r => by rw [show x = .str s from r]; exact ⟨Nat.le_trans h (by decide), rfl⟩
theorem Rps.emp {K : PySem.W.Frag} {H : Hp} {M : MS} {vs : List V} (r : Rps K H M ds vs) : vs.isEmpty = ds.isEmpty := by
  have := r.length
  cases vs with
  | nil => cases ds with
    | nil => rfl
    | cons _ _ => cases this
  | cons _ _ => cases ds with
    | nil => cases this
    | cons _ _ => rfl
theorem trd_tup {K : PySem.W.Frag} : TruD K (.tup ds) (!ds.isEmpty) := fun H M x r => by
  obtain ⟨a, xs, rfl, t, rx⟩ := r
  exact .inr (.inl ⟨xs, t.sq, by rw [rx.emp]⟩)
theorem trd_lst {K : PySem.W.Frag} : TruD K (.lst ds) (!ds.isEmpty) := fun H M x r => by
  obtain ⟨a, xs, rfl, m, t, rx⟩ := r
  exact .inl ⟨xs, SqL.of t, by rw [rx.emp]⟩
/-! slices -/
def cut {α : Type} (xs : List α) (lo hi : Option Int) : List α := (xs.drop (HT.sIx xs.length 0 lo)).take (HT.sIx xs.length xs.length hi - HT.sIx xs.length 0 lo)
def tPt (K : PySem.W.Frag) (ρ : List SD) (o : Option Int) : TO := fun σ H Q => ∃ H0 M0, EnvOk K H0 M0 ρ σ H ∧ ∀ H', Ex H H' → Q o H'
abbrev EPt (X : Cx) (ρ : List SD) (e : Option Expr) (o : Option Int) : Prop := PO X e (tPt X.K ρ o)
theorem po_w {e : Option Expr} {t t' : TO} (h : PO X e t) (w : ∀ σ H Q, t' σ H Q → t σ H Q) : PO X e t' := ⟨fun pins s σ H Q I q => h.run pins s σ H Q I (w _ _ _ q)⟩
theorem ept_no : EPt X ρ none none := po_w po_none fun σ H Q ⟨H0, M0, E, q⟩ => q H (Ex.refl H)
theorem ept_some {i : Int} (h : ED X ρ e (.int i)) : EPt X ρ (some e) (some i) := po_w (po_some h) fun σ H Q ⟨H0, M0, E, q⟩ => ⟨H0, M0, E, fun v H' e1 r => ⟨i, r, q H' e1⟩⟩
def SlD (X : Cx) (dx : D) (lo hi : Option Int) (dz : D) : Prop := ∃ r, SlR X r ∧ ∀ (H : Hp) (M : MS) (x : V), (∀ a, M a → H a ≠ none) → Rp X.K H M dx x → ∀ Q : VK, (∀ z H', Ex H H' → Rp X.K H' M dz z → Q z H') → r x lo hi H Q
theorem ed_slice {lo hi : Option Expr} {l u : Option Int} (he : ED X ρ e dx) (hl : EPt X ρ lo l) (hu : EPt X ρ hi u) (hs : SlD X dx l u dz) : ED X ρ (.Subscript e (.Slice lo hi none p2) pos) dz := by
  obtain ⟨r, h1, h2⟩ := hs
  refine pe_w (pe_slice h1 he hl hu) fun σ H Q ⟨H0, M0, E, q⟩ => ⟨H0, M0, E, fun v H1 e1 r1 => ⟨H0, M0, E.ext e1, fun H2 e2 => ⟨H0, M0, E.ext (e1.trans e2), fun H3 e3 => ?_⟩⟩⟩
  exact h2 H3 _ v (E.ext ((e1.trans e2).trans e3)).dom (Rp.le (Le.ex (e2.trans e3)) _ _ r1) Q fun z H4 e4 rz => q z H4 (((e1.trans e2).trans e3).trans e4) rz
theorem Rps.cut {K : PySem.W.Frag} {H : Hp} {M : MS} {ds : List D} {vs : List V} (lo hi : Option Int) (r : Rps K H M ds vs) : Rps K H M (RW.cut ds lo hi) (cutV vs lo hi) := by
  unfold RW.cut cutV
  rw [r.length]
  exact Rps.take _ (Rps.drop _ r)
theorem sld_tup {lo hi : Option Int} : SlD X (.tup ds) lo hi (.tup (RW.cut ds lo hi)) := ⟨_, sl_tupA, fun H M x dm rx Q q => by
  obtain ⟨a, xs, rfl, t, rx⟩ := rx
  refine ⟨a, xs, rfl, t.sq, fun hw => ?_, fun _ p np => q _ _ (Ex.new np) (Rp.new_tup dm np (rx.cut lo hi))⟩
  refine q _ H (Ex.refl H) ⟨a, xs, rfl, t, ?_⟩
  have := rx.cut lo hi
  unfold cutV at this
  rw [hw.1, hw.2] at this
  rw [List.drop_zero, Nat.sub_zero, List.take_length] at this
  exact this⟩
theorem sld_lst {lo hi : Option Int} : SlD X (.lst ds) lo hi (.lst (RW.cut ds lo hi)) := ⟨_, sl_list, fun H M x dm rx Q q => by
  obtain ⟨a, xs, rfl, m, t, rx⟩ := rx
  exact ⟨a, xs, rfl, SqL.of t, fun p np => q _ _ (Ex.new np) ⟨p, _, rfl, fun z => dm p z np, upd_same, Rps.le (Le.ex (Ex.new np)) _ _ (rx.cut lo hi)⟩⟩⟩
theorem cut_map {α β : Type} (f : α → β) (xs : List α) (lo hi : Option Int) : RW.cut (xs.map f) lo hi = (RW.cut xs lo hi).map f := by
  unfold RW.cut
  rw [List.length_map, List.map_take, List.map_drop]
/-! starred items -/
theorem ea_star {es' : List Expr} {ds' : List D} (h : ED X ρ e (.tup ds)) (h' : EA X ρ es' ds') (hs : starEach (.Starred e p :: es') X.env = (true, eval e X.env) :: starEach es' X.env := by rfl) : EA X ρ (.Starred e p :: es') (ds ++ ds') :=
  pa_w (StX.pa_star h h' hs) fun σ H Q ⟨H0, M0, E, q⟩ => ⟨H0, M0, E, fun v H1 e1 r1 => by
    obtain ⟨a, xs, rfl, t, rx⟩ := r1
    exact ⟨a, xs, rfl, .inl t.sq, H0, M0, E.ext e1, fun vs H2 e2 r2 => q _ H2 (e1.trans e2) (Rps.append (Rps.le (Le.ex e2) _ _ rx) r2)⟩⟩
/-! comprehensions with the usual targets -/
theorem set_set' {l : List SD} {i : Nat} {u v : SD} : (l.set i u).set i v = l.set i v := List.set_set ..
theorem own_no {i : Nat} (h : ∀ d, ρ[i]? ≠ some (SD.hot d)) {y : Str} : ∀ j ∈ ([(y, i)] : List (Str × Nat)).map (·.2), ∀ d, ρ[j]? ≠ some (SD.hot d) := fun j hj d => by
  rw [show j = i from List.mem_singleton.mp hj]; exact h d
theorem eo_lc1 {α : Type} {xs : List α} {enc : α → D} {elt iter : Expr} {ifs : List Expr} {scope : Scope} {y : Str} (j : Nat) {t : α → Bool} {g : α → D} (hc : X.calm = true) (hN : X.N.Nodup) (hi : WD X ρ (.Name x tpos) iter (xs.map enc)) (ok : BlkOk X.N X.env.scope scope [(y, j)])
    (hg : ∀ (s : Shared) (H : Hp) (C : Addr) (cl : List (Str × Addr)) (fp : List Addr), TD (X.blk s H scope (compEnvC scope cl C X.env) fp) (.Name x tpos) (setF j) [j]) (hl : j < ρ.length) (hno : ∀ d, ρ[j]? ≠ some (SD.hot d))
    (ht : ∀ (s : Shared) (H : Hp) (C : Addr) (cl : List (Str × Addr)) (fp : List Addr) (x : α), x ∈ xs → PTs (X.blk s H scope (compEnvC scope cl C X.env) fp) ifs (tT X.K (ρ.set j (.val (enc x))) (t x)))
    (he : ∀ (s : Shared) (H : Hp) (C : Addr) (cl : List (Str × Addr)) (fp : List Addr) (x : α), x ∈ xs → t x = true → ED (X.blk s H scope (compEnvC scope cl C X.env) fp) (ρ.set j (.val (enc x))) elt (g x))
    (hz : xs.length < 100000) {ys : List D} (hys : (xs.filter t).map g = ys) (hs : ∀ x, foldedSetIterable iter X.env x = pure x := by intro _; rfl) :
    EO X ρ (.ListComp elt [⟨.Name x tpos, iter, ifs, 0⟩] scope pos) (.lst ys) := hys ▸
  eo_lc hc hN hi ok hg (fun i hi => hi) (own_no hno) (fun x => ρ.set j (.val (enc x))) t g (fun x _ => ⟨by show j < (ρ.set j .no).length; rw [List.length_set]; exact hl, by show _ = (ρ.set j .no).set j _; rw [set_set']⟩)
    (fun x _ i hi => List.getElem?_set_ne (fun z => hi (by rw [z]; exact List.mem_singleton.mpr rfl))) ht he hz hs
theorem sds_setLc1 {α : Type} {xs : List α} {enc : α → D} {elt iter : Expr} {ifs : List Expr} {scope : Scope} {y z : Str} (i j : Nat) {t : α → Bool} {g : α → D} {py spos : Pos} (hc : X.calm = true) (hN : X.N.Nodup) (hy : X.N[i]? = some z) (hyl : X.env.scope.names.lookup z = some .local)
    (hsw : swapsWith (.ListComp elt [⟨.Name x tpos, iter, ifs, 0⟩] scope pos) (some (.Name z py)) spos.line X.env = pure true) (hi : WD X ρ (.Name x tpos) iter (xs.map enc)) (ok : BlkOk X.N X.env.scope scope [(y, j)])
    (hg : ∀ (s : Shared) (H : Hp) (C : Addr) (cl : List (Str × Addr)) (fp : List Addr), TD (X.blk s H scope (compEnvC scope cl C X.env) fp) (.Name x tpos) (setF j) [j]) (hl : j < ρ.length) (hno : ∀ d, ρ[j]? ≠ some (SD.hot d))
    (ht : ∀ (s : Shared) (H : Hp) (C : Addr) (cl : List (Str × Addr)) (fp : List Addr) (x : α), x ∈ xs → PTs (X.blk s H scope (compEnvC scope cl C X.env) fp) ifs (tT X.K (ρ.set j (.val (enc x))) (t x)))
    (he : ∀ (s : Shared) (H : Hp) (C : Addr) (cl : List (Str × Addr)) (fp : List Addr) (x : α), x ∈ xs → t x = true → ED (X.blk s H scope (compEnvC scope cl C X.env) fp) (ρ.set j (.val (enc x))) elt (g x))
    (hz : xs.length < 100000) {ys : List D} (hys : (xs.filter t).map g = ys) (hl' : i < ρ.length) (h : SDs X W (ρ.set i (.own (.lst ys))) rest R) (hs : ∀ x, foldedSetIterable iter X.env x = pure x := by intro _; rfl) :
    SDs X W ρ (.Assign [.Name z py] (.ListComp elt [⟨.Name x tpos, iter, ifs, 0⟩] scope pos) spos :: rest) R :=
  sds_setLc i hc hN hy hyl hsw hi ok hg (fun i hi => hi) (own_no hno) (fun x => ρ.set j (.val (enc x))) t g (fun x _ => ⟨by show j < (ρ.set j .no).length; rw [List.length_set]; exact hl, by show _ = (ρ.set j .no).set j _; rw [set_set']⟩)
    (fun x _ i hi => List.getElem?_set_ne (fun z => hi (by rw [z]; exact List.mem_singleton.mpr rfl))) ht he hz hl' (hys.symm ▸ h) hs
/-- for a, b in .. -/
def pr2 (ρ : List SD) (j k : Nat) (u v : D) : List SD := (ρ.set j (.val u)).set k (.val v)
theorem td_pair (j k : Nat) {y z : Str} {py pz : Pos} (hc : X.calm = true) (hN : X.N.Nodup) (hj : X.N[j]? = some y) (hy : Loc X.env.scope y) (hk : X.N[k]? = some z) (hz : Loc X.env.scope z)
    (hfy : X.fn y = true ∨ X.env.scope.names.lookup y = some .local := by first | exact .inl rfl | exact .inr rfl | assumption) (hfz : X.fn z = true ∨ X.env.scope.names.lookup z = some .local := by first | exact .inl rfl | exact .inr rfl | assumption)
    (hs1 : (assignEach [.Name y py, .Name z pz] X.env).map (·.2) = assign (.Name y py) X.env :: (assignEach [.Name z pz] X.env).map (·.2) := by rfl) (hs2 : (assignEach [.Name z pz] X.env).map (·.2) = assign (.Name z pz) X.env :: (assignEach [] X.env).map (·.2) := by rfl)
    (hn : (assignEach [.Name y py, .Name z pz] X.env).length = 2 := by rfl) (hst : (assignEach [.Name y py, .Name z pz] X.env).findIdx? (·.1) = none := by rfl) :
    TD X (.Tuple [.Name y py, .Name z pz] kk pos) (tupF 2 (consF (setF j) [j] (consF (setF k) [k] nilF))) ([j] ++ ([k] ++ [])) :=
  td_tup hc (tds_cons (td_name j hN hj hy hfy) (tds_cons (td_name k hN hk hz hfz) tds_nil hs2) hs1) hn hst
theorem pairF {ρ : List SD} {j k : Nat} {u v : D} (hj : j < ρ.length) (hk : k < ρ.length) : tupF 2 (consF (setF j) [j] (consF (setF k) [k] nilF)) ρ (.tup [u, v]) (pr2 ρ j k u v) :=
  ⟨[u, v], rfl, rfl, consF_name hj (consF_name (by rw [List.length_set]; exact hk) nilF_mk)⟩
theorem pr2_wipe {ρ : List SD} {j k : Nat} {u v : D} (hjk : j ≠ k) : pr2 (wipeR ρ [j, k]) j k u v = pr2 ρ j k u v := by
  unfold pr2 wipeR wipeR wipeR
  rw [set_set', List.set_comm _ _ (Ne.symm hjk), set_set']
theorem eo_lc2 {α : Type} {xs : List α} {u v : α → D} {elt iter : Expr} {ifs : List Expr} {scope : Scope} {y z : Str} (j k : Nat) {t : α → Bool} {g : α → D} (hc : X.calm = true) (hN : X.N.Nodup) (hi : WD X ρ tg iter (xs.map fun x => .tup [u x, v x])) (ok : BlkOk X.N X.env.scope scope [(y, j), (z, k)])
    (hg : ∀ (s : Shared) (H : Hp) (C : Addr) (cl : List (Str × Addr)) (fp : List Addr), TD (X.blk s H scope (compEnvC scope cl C X.env) fp) tg (tupF 2 (consF (setF j) [j] (consF (setF k) [k] nilF))) ([j] ++ ([k] ++ []))) (hjk : j ≠ k) (hl : j < ρ.length) (hl2 : k < ρ.length)
    (hno : ∀ d, ρ[j]? ≠ some (SD.hot d)) (hno2 : ∀ d, ρ[k]? ≠ some (SD.hot d))
    (ht : ∀ (s : Shared) (H : Hp) (C : Addr) (cl : List (Str × Addr)) (fp : List Addr) (x : α), x ∈ xs → PTs (X.blk s H scope (compEnvC scope cl C X.env) fp) ifs (tT X.K (pr2 ρ j k (u x) (v x)) (t x)))
    (he : ∀ (s : Shared) (H : Hp) (C : Addr) (cl : List (Str × Addr)) (fp : List Addr) (x : α), x ∈ xs → t x = true → ED (X.blk s H scope (compEnvC scope cl C X.env) fp) (pr2 ρ j k (u x) (v x)) elt (g x))
    (hz : xs.length < 100000) {ys : List D} (hys : (xs.filter t).map g = ys) (hs : ∀ x, foldedSetIterable iter X.env x = pure x := by intro _; rfl) :
    EO X ρ (.ListComp elt [⟨tg, iter, ifs, 0⟩] scope pos) (.lst ys) := hys ▸
  eo_lc hc hN hi ok hg (fun i hi => hi) (fun i hi d => by
      rcases List.mem_cons.mp hi with z | z
      · rw [z]; exact hno d
      · rw [show i = k from List.mem_singleton.mp z]; exact hno2 d) (fun x => pr2 ρ j k (u x) (v x)) t g
    (fun x _ => by
      rw [← pr2_wipe hjk]
      exact pairF (by show j < ((ρ.set k .no).set j .no).length; rw [List.length_set, List.length_set]; exact hl) (by show k < ((ρ.set k .no).set j .no).length; rw [List.length_set, List.length_set]; exact hl2))
    (fun x _ i hi => by
      unfold pr2
      rw [List.getElem?_set_ne (fun z => hi (by rw [← z]; exact List.mem_cons_of_mem _ (List.mem_singleton.mpr rfl))), List.getElem?_set_ne (fun z => hi (by rw [← z]; exact List.mem_cons_self))]) ht he hz hs
theorem sds_setLc2 {α : Type} {xs : List α} {u v : α → D} {elt iter : Expr} {ifs : List Expr} {scope : Scope} {y z zz : Str} (i j k : Nat) {t : α → Bool} {g : α → D} {py spos : Pos} (hc : X.calm = true) (hN : X.N.Nodup) (hy : X.N[i]? = some zz) (hyl : X.env.scope.names.lookup zz = some .local)
    (hsw : swapsWith (.ListComp elt [⟨tg, iter, ifs, 0⟩] scope pos) (some (.Name zz py)) spos.line X.env = pure true) (hi : WD X ρ tg iter (xs.map fun x => .tup [u x, v x])) (ok : BlkOk X.N X.env.scope scope [(y, j), (z, k)])
    (hg : ∀ (s : Shared) (H : Hp) (C : Addr) (cl : List (Str × Addr)) (fp : List Addr), TD (X.blk s H scope (compEnvC scope cl C X.env) fp) tg (tupF 2 (consF (setF j) [j] (consF (setF k) [k] nilF))) ([j] ++ ([k] ++ []))) (hjk : j ≠ k) (hl : j < ρ.length) (hl2 : k < ρ.length)
    (hno : ∀ d, ρ[j]? ≠ some (SD.hot d)) (hno2 : ∀ d, ρ[k]? ≠ some (SD.hot d))
    (ht : ∀ (s : Shared) (H : Hp) (C : Addr) (cl : List (Str × Addr)) (fp : List Addr) (x : α), x ∈ xs → PTs (X.blk s H scope (compEnvC scope cl C X.env) fp) ifs (tT X.K (pr2 ρ j k (u x) (v x)) (t x)))
    (he : ∀ (s : Shared) (H : Hp) (C : Addr) (cl : List (Str × Addr)) (fp : List Addr) (x : α), x ∈ xs → t x = true → ED (X.blk s H scope (compEnvC scope cl C X.env) fp) (pr2 ρ j k (u x) (v x)) elt (g x))
    (hz : xs.length < 100000) {ys : List D} (hys : (xs.filter t).map g = ys) (hl' : i < ρ.length) (h : SDs X W (ρ.set i (.own (.lst ys))) rest R) (hs : ∀ x, foldedSetIterable iter X.env x = pure x := by intro _; rfl) :
    SDs X W ρ (.Assign [.Name zz py] (.ListComp elt [⟨tg, iter, ifs, 0⟩] scope pos) spos :: rest) R :=
  sds_setLc i hc hN hy hyl hsw hi ok hg (fun i hi => hi) (fun i hi d => by
      rcases List.mem_cons.mp hi with z | z
      · rw [z]; exact hno d
      · rw [show i = k from List.mem_singleton.mp z]; exact hno2 d) (fun x => pr2 ρ j k (u x) (v x)) t g
    (fun x _ => by
      rw [← pr2_wipe hjk]
      exact pairF (by show j < ((ρ.set k .no).set j .no).length; rw [List.length_set, List.length_set]; exact hl) (by show k < ((ρ.set k .no).set j .no).length; rw [List.length_set, List.length_set]; exact hl2))
    (fun x _ i hi => by
      unfold pr2
      rw [List.getElem?_set_ne (fun z => hi (by rw [← z]; exact List.mem_cons_of_mem _ (List.mem_singleton.mpr rfl))), List.getElem?_set_ne (fun z => hi (by rw [← z]; exact List.mem_cons_self))]) ht he hz hl' (hys.symm ▸ h) hs

/-! [e for x in .. for y in ..] -/
theorem lcc_facts {j k : Nat} {u v : D} (hjk : j ≠ k) : (wipeR (pr2 ρ j k u v) [k]) = (wipeR (pr2 ρ j k u v) [k]) := rfl
theorem eo_lcc {α β : Type} {xs : List α} {enc : α → D} {ys : α → List β} {enc1 : β → D} {elt iter iter1 : Expr} {scope : Scope} {y z x1 : Str} (j k : Nat) {tpos1 : Pos} {g : α → β → D} (hc : X.calm = true) (hN : X.N.Nodup) (hi : WD X ρ (.Name x tpos) iter (xs.map enc)) (ok : BlkOk X.N X.env.scope scope [(y, j), (z, k)])
    (hg : ∀ (s : Shared) (H : Hp) (C : Addr) (cl : List (Str × Addr)) (fp : List Addr), TD (X.blk s H scope (compEnvC scope cl C X.env) fp) (.Name x tpos) (setF j) [j]) (hg1 : ∀ (s : Shared) (H : Hp) (C : Addr) (cl : List (Str × Addr)) (fp : List Addr), TD (X.blk s H scope (compEnvC scope cl C X.env) fp) (.Name x1 tpos1) (setF k) [k])
    (hjk : j ≠ k) (hl : j < ρ.length) (hl2 : k < ρ.length) (hno : ∀ d, ρ[j]? ≠ some (SD.hot d)) (hno2 : ∀ d, ρ[k]? ≠ some (SD.hot d))
    (hi1 : ∀ (s : Shared) (H : Hp) (C : Addr) (cl : List (Str × Addr)) (fp : List Addr) (x : α), x ∈ xs → WD (X.blk s H scope (compEnvC scope cl C X.env) fp) ((ρ.set k .no).set j (.val (enc x))) (.Name x1 tpos1) iter1 ((ys x).map enc1))
    (he : ∀ (s : Shared) (H : Hp) (C : Addr) (cl : List (Str × Addr)) (fp : List Addr) (x : α) (y : β), x ∈ xs → y ∈ ys x → ED (X.blk s H scope (compEnvC scope cl C X.env) fp) (pr2 ρ j k (enc x) (enc1 y)) elt (g x y))
    (hz : (xs.flatMap ys).length < 100000) {zs : List D} (hys : (xs.flatMap fun x => (ys x).map (g x)) = zs) (hs : ∀ x, foldedSetIterable iter X.env x = pure x := by intro _; rfl) (hs1 : ∀ env x, foldedSetIterable iter1 env x = pure x := by intro _ _; rfl) :
    EO X ρ (.ListComp elt [⟨.Name x tpos, iter, [], 0⟩, ⟨.Name x1 tpos1, iter1, [], 0⟩] scope pos) (.lst zs) := by
  subst hys
  refine pe_w (pe_lc2 hc hN hi ok (vs1 := [k]) (fun i hi => by rw [List.mem_singleton.mp hi]; exact List.mem_cons_of_mem _ (List.mem_singleton.mpr rfl)) (g := tG X.K (setF j) [j]) hg (fun _ _ _ _ _ => pts_nil) (wi1 := fun σ H R => ∃ x : α, x ∈ xs ∧ tW X.K ((ρ.set k .no).set j (.val (enc x))) ((ys x).map enc1) σ H R)
    (fun s H C cl fp => ⟨fun pins s1 σ H1 R I ⟨x, hx, h⟩ => (hi1 s H C cl fp x hx).run pins s1 σ H1 R I h⟩) (g1 := tG X.K (setF k) [k]) hg1 (fun _ _ _ _ _ => pts_nil) (te := fun σ H Q => ∃ q : α × β, (q.1 ∈ xs ∧ q.2 ∈ ys q.1) ∧ tE X.K (pr2 ρ j k (enc q.1) (enc1 q.2)) (g q.1 q.2) σ H Q)
    (fun s H C cl fp => ⟨fun pins s1 σ H1 Q I ⟨q, hq, h⟩ => (he s H C cl fp q.1 q.2 hq.1 hq.2).run pins s1 σ H1 Q I h⟩) hs hs1) fun σ H Q h => ?_
  exact lc2_ways (own := [(y, j), (z, k)]) (js := [j]) (js1 := [k]) (fun i hi => by rw [List.mem_singleton.mp hi]; exact List.mem_cons_self) (fun i hi => hi) (fun i hi => by rw [List.mem_singleton.mp hi]; exact List.mem_cons_of_mem _ (List.mem_singleton.mpr rfl))
    (fun i hi d => by
      rcases List.mem_cons.mp hi with z | z
      · rw [z]; exact hno d
      · rw [show i = k from List.mem_singleton.mp z]; exact hno2 d)
    (fun x => (ρ.set k .no).set j (.val (enc x))) (fun x y => pr2 ρ j k (enc x) (enc1 y)) g
    (fun x _ => ⟨by show j < ((ρ.set k .no).set j .no).length; rw [List.length_set, List.length_set]; exact hl, by show _ = ((ρ.set k .no).set j .no).set j _; rw [set_set']⟩)
    (fun x _ y _ => ⟨by show k < (((ρ.set k .no).set j (.val (enc x))).set k .no).length; rw [List.length_set, List.length_set, List.length_set]; exact hl2, by
      show pr2 ρ j k _ _ = ((((ρ.set k .no).set j (.val (enc x))).set k .no).set k _)
      unfold pr2
      rw [set_set', List.set_comm _ _ (Ne.symm hjk), set_set']⟩)
    (fun x _ i hi => by
      rw [List.getElem?_set_ne (fun z => hi (by rw [← z]; exact List.mem_cons_self)), List.getElem?_set_ne (fun z => hi (by rw [← z]; exact List.mem_cons_of_mem _ (List.mem_singleton.mpr rfl)))])
    (fun x _ y _ i hi => by
      unfold pr2
      rw [List.getElem?_set_ne (fun z => hi (by rw [← z]; exact List.mem_cons_of_mem _ (List.mem_singleton.mpr rfl))), List.getElem?_set_ne (fun z => hi (by rw [← z]; exact List.mem_cons_self))]) hz h
theorem sds_setLcc {α β : Type} {xs : List α} {enc : α → D} {ys : α → List β} {enc1 : β → D} {elt iter iter1 : Expr} {scope : Scope} {y z x1 zz : Str} (i j k : Nat) {tpos1 py spos : Pos} {g : α → β → D} (hc : X.calm = true) (hN : X.N.Nodup) (hy : X.N[i]? = some zz) (hyl : X.env.scope.names.lookup zz = some .local)
    (hsw : swapsWith (.ListComp elt [⟨.Name x tpos, iter, [], 0⟩, ⟨.Name x1 tpos1, iter1, [], 0⟩] scope pos) (some (.Name zz py)) spos.line X.env = pure true) (hi : WD X ρ (.Name x tpos) iter (xs.map enc)) (ok : BlkOk X.N X.env.scope scope [(y, j), (z, k)])
    (hg : ∀ (s : Shared) (H : Hp) (C : Addr) (cl : List (Str × Addr)) (fp : List Addr), TD (X.blk s H scope (compEnvC scope cl C X.env) fp) (.Name x tpos) (setF j) [j]) (hg1 : ∀ (s : Shared) (H : Hp) (C : Addr) (cl : List (Str × Addr)) (fp : List Addr), TD (X.blk s H scope (compEnvC scope cl C X.env) fp) (.Name x1 tpos1) (setF k) [k])
    (hjk : j ≠ k) (hl : j < ρ.length) (hl2 : k < ρ.length) (hno : ∀ d, ρ[j]? ≠ some (SD.hot d)) (hno2 : ∀ d, ρ[k]? ≠ some (SD.hot d))
    (hi1 : ∀ (s : Shared) (H : Hp) (C : Addr) (cl : List (Str × Addr)) (fp : List Addr) (x : α), x ∈ xs → WD (X.blk s H scope (compEnvC scope cl C X.env) fp) ((ρ.set k .no).set j (.val (enc x))) (.Name x1 tpos1) iter1 ((ys x).map enc1))
    (he : ∀ (s : Shared) (H : Hp) (C : Addr) (cl : List (Str × Addr)) (fp : List Addr) (x : α) (y : β), x ∈ xs → y ∈ ys x → ED (X.blk s H scope (compEnvC scope cl C X.env) fp) (pr2 ρ j k (enc x) (enc1 y)) elt (g x y))
    (hz : (xs.flatMap ys).length < 100000) {zs : List D} (hys : (xs.flatMap fun x => (ys x).map (g x)) = zs) (hl' : i < ρ.length) (h : SDs X W (ρ.set i (.own (.lst zs))) rest R) (hs : ∀ x, foldedSetIterable iter X.env x = pure x := by intro _; rfl) (hs1 : ∀ env x, foldedSetIterable iter1 env x = pure x := by intro _ _; rfl) :
    SDs X W ρ (.Assign [.Name zz py] (.ListComp elt [⟨.Name x tpos, iter, [], 0⟩, ⟨.Name x1 tpos1, iter1, [], 0⟩] scope pos) spos :: rest) R := by
  subst hys
  refine sds_cons (R1 := fun ρ1 => ρ1 = ρ.set i (.own (.lst (xs.flatMap fun x => (ys x).map (g x))))) (ps_w (ps_setLc2 hc hN hy hyl hsw hi ok (vs1 := [k]) (fun i hi => by rw [List.mem_singleton.mp hi]; exact List.mem_cons_of_mem _ (List.mem_singleton.mpr rfl)) (g := tG X.K (setF j) [j]) hg (fun _ _ _ _ _ => pts_nil) (wi1 := fun σ H R => ∃ x : α, x ∈ xs ∧ tW X.K ((ρ.set k .no).set j (.val (enc x))) ((ys x).map enc1) σ H R)
    (fun s H C cl fp => ⟨fun pins s1 σ H1 R I ⟨x, hx, h⟩ => (hi1 s H C cl fp x hx).run pins s1 σ H1 R I h⟩) (g1 := tG X.K (setF k) [k]) hg1 (fun _ _ _ _ _ => pts_nil) (te := fun σ H Q => ∃ q : α × β, (q.1 ∈ xs ∧ q.2 ∈ ys q.1) ∧ tE X.K (pr2 ρ j k (enc q.1) (enc1 q.2)) (g q.1 q.2) σ H Q)
    (fun s H C cl fp => ⟨fun pins s1 σ H1 Q I ⟨q, hq, h⟩ => (he s H C cl fp q.1 q.2 hq.1 hq.2).run pins s1 σ H1 Q I h⟩) hs hs1) fun Dn σ H h => tEO_set (fun σ H Q h => ?_) hl' h) fun _ z => by rw [z]; exact h
  exact lc2_ways (own := [(y, j), (z, k)]) (js := [j]) (js1 := [k]) (fun i hi => by rw [List.mem_singleton.mp hi]; exact List.mem_cons_self) (fun i hi => hi) (fun i hi => by rw [List.mem_singleton.mp hi]; exact List.mem_cons_of_mem _ (List.mem_singleton.mpr rfl))
    (fun i hi d => by
      rcases List.mem_cons.mp hi with z | z
      · rw [z]; exact hno d
      · rw [show i = k from List.mem_singleton.mp z]; exact hno2 d)
    (fun x => (ρ.set k .no).set j (.val (enc x))) (fun x y => pr2 ρ j k (enc x) (enc1 y)) g
    (fun x _ => ⟨by show j < ((ρ.set k .no).set j .no).length; rw [List.length_set, List.length_set]; exact hl, by show _ = ((ρ.set k .no).set j .no).set j _; rw [set_set']⟩)
    (fun x _ y _ => ⟨by show k < (((ρ.set k .no).set j (.val (enc x))).set k .no).length; rw [List.length_set, List.length_set, List.length_set]; exact hl2, by
      show pr2 ρ j k _ _ = ((((ρ.set k .no).set j (.val (enc x))).set k .no).set k _)
      unfold pr2
      rw [set_set', List.set_comm _ _ (Ne.symm hjk), set_set']⟩)
    (fun x _ i hi => by
      rw [List.getElem?_set_ne (fun z => hi (by rw [← z]; exact List.mem_cons_self)), List.getElem?_set_ne (fun z => hi (by rw [← z]; exact List.mem_cons_of_mem _ (List.mem_singleton.mpr rfl)))])
    (fun x _ y _ i hi => by
      unfold pr2
      rw [List.getElem?_set_ne (fun z => hi (by rw [← z]; exact List.mem_cons_of_mem _ (List.mem_singleton.mpr rfl))), List.getElem?_set_ne (fun z => hi (by rw [← z]; exact List.mem_cons_self))]) hz h
/-! loops by a step -/
/-- out x s: what the def hands back in this turn, if it does; nxt x s: the next state -/
def loopX {α S : Type} (out : α → S → Option Res) (nxt : α → S → S) : List α → S → S ⊕ Res
  | [], s => .inl s
  | x :: xs, s => match out x s with
    | some r => .inr r
    | none => loopX out nxt xs (nxt x s)
theorem loopX_cons {α S : Type} {out : α → S → Option Res} {nxt : α → S → S} {x : α} {xs : List α} {s : S} : loopX out nxt (x :: xs) s = match out x s with
    | some r => .inr r
    | none => loopX out nxt xs (nxt x s) := rfl
theorem sds_mono {R1 R2 : Po} {ρ1 : List SD} {st : List Stmt} (h : SDs X W ρ1 st R1) (a : ∀ q, R1.nx q → R2.nx q) (b : ∀ q d, R1.rt q d → R2.rt q d) (c : ∀ q, R1.bk q → R2.bk q) (d : ∀ q, R1.ct q → R2.ct q) (e : ∀ q c fs, R1.ex q c fs → R2.ex q c fs) : SDs X W ρ1 st R2 :=
    pss_w h fun Dn σ H ⟨H0, M0, E, q1, q2, q3, q4, q5⟩ => ⟨H0, M0, E, fun _ _ _ z => q1 _ _ _ (a _ z), fun _ _ _ _ _ z => q2 _ _ _ _ _ (b _ _ z), fun _ _ _ z => q3 _ _ _ (c _ z), fun _ _ _ z => q4 _ _ _ (d _ z), fun _ _ _ _ _ _ _ z => q5 _ _ _ _ _ _ _ (e _ _ _ z)⟩
theorem sds_loop {α S : Type} {xs : List α} {enc : α → D} {f : List SD → D → List SD → Prop} {js : List Nat} {body : List Stmt} {iter : Expr} (env : S → List SD) (out : α → S → Option Res) (nxt : α → S → S) (P : Nat → S → Prop) (s0 : S) (hp : PassesOwn (model X.prog X.w) X.A X.env X.xe) (hc : X.calm = true)
    (hi : WD X (env s0) tg iter (xs.map enc)) (hg : TD X tg f js) (h0 : Wk ρ (env s0)) (p0 : P 0 s0)
    (hs : ∀ (i : Nat) (x : α) (s : S), xs[i]? = some x → P i s → ∃ ρ2, f (env s) (enc x) ρ2 ∧ SDs X W ρ2 body
      { nx := fun ρ' => (out x s = none ∧ P (i + 1) (nxt x s)) ∧ ρ' = env (nxt x s), ct := fun ρ' => (out x s = none ∧ P (i + 1) (nxt x s)) ∧ ρ' = env (nxt x s), rt := fun _ d => out x s = some (.ok d), ex := fun _ c fs => out x s = some (.er c fs) })
    (hd : ∀ s, P xs.length s → loopX out nxt xs s0 = .inl s → SDs X W (env s) rest R) (hr : ∀ d, loopX out nxt xs s0 = .inr (.ok d) → ∀ q, R.rt q d) (hx : ∀ q c fs, loopX out nxt xs s0 = .inr (.er c fs) → R.ex q c fs)
    (hfs : ∀ x, foldedSetIterable iter X.env x = pure x := by intro _; rfl) : SDs X W ρ (.For tg iter body [] pos :: rest) R := by
  refine sds_wk h0 (sds_for hp hc hi hg (fun i ρ' => ∃ s, ρ' = env s ∧ P i s ∧ loopX out nxt (xs.drop i) s = loopX out nxt xs s0) ⟨s0, rfl, p0, rfl⟩ (fun i d ρ1 hd' ⟨s, e1, p1, e2⟩ => ?_) (fun ρ1 ⟨s, e1, p1, e2⟩ => ?_) hfs)
  · subst e1
    rw [List.getElem?_map] at hd'
    cases hx' : xs[i]? with
    | none => rw [hx'] at hd'; cases hd'
    | some x =>
      rw [hx'] at hd'; cases hd'
      obtain ⟨ρ2, h1, h2⟩ := hs i x s hx' p1
      rw [drop_of_get hx'] at e2
      have nx : ∀ q, ((out x s = none ∧ P (i + 1) (nxt x s)) ∧ q = env (nxt x s)) → ∃ s', q = env s' ∧ P (i + 1) s' ∧ loopX out nxt (xs.drop (i + 1)) s' = loopX out nxt xs s0 := fun q ⟨⟨a, b⟩, c⟩ => ⟨_, c, b, by
        rw [loopX_cons, a] at e2; exact e2⟩
      refine ⟨ρ2, h1, sds_mono h2 nx (fun q d z => hr d ?_ q) (fun _ z => z.elim) nx (fun q c fs z => hx q c fs ?_)⟩
      · rw [loopX_cons, z] at e2; exact e2.symm
      · rw [loopX_cons, z] at e2; exact e2.symm
  · rw [List.length_map] at p1 e2
    subst e1
    rw [List.drop_length] at e2
    exact hd s p1 e2.symm
/-- .. that no turn leaves -/
theorem sds_fold {α S : Type} {xs : List α} {enc : α → D} {f : List SD → D → List SD → Prop} {js : List Nat} {body : List Stmt} {iter : Expr} (env : S → List SD) (nxt : S → α → S) (P : Nat → S → Prop) (s0 : S) (hp : PassesOwn (model X.prog X.w) X.A X.env X.xe) (hc : X.calm = true)
    (hi : WD X (env s0) tg iter (xs.map enc)) (hg : TD X tg f js) (h0 : Wk ρ (env s0)) (p0 : P 0 s0)
    (hs : ∀ (i : Nat) (x : α) (s : S), xs[i]? = some x → P i s → ∃ ρ2, f (env s) (enc x) ρ2 ∧ SDs X W ρ2 body
      { nx := fun ρ' => P (i + 1) (nxt s x) ∧ ρ' = env (nxt s x), ct := fun ρ' => P (i + 1) (nxt s x) ∧ ρ' = env (nxt s x), rt := fun _ d => False, ex := fun _ _ _ => False })
    (hd : P xs.length (xs.foldl nxt s0) → SDs X W (env (xs.foldl nxt s0)) rest R)
    (hfs : ∀ x, foldedSetIterable iter X.env x = pure x := by intro _; rfl) : SDs X W ρ (.For tg iter body [] pos :: rest) R := by
  have e : ∀ (xs : List α) (s : S), loopX (fun _ _ => none) (fun x s => nxt s x) xs s = .inl (xs.foldl nxt s) := fun xs => by
    induction xs with
    | nil => intro s; rfl
    | cons x r ih => intro s; exact ih _
  refine sds_loop env (fun _ _ => none) (fun x s => nxt s x) P s0 hp hc hi hg h0 p0 (fun i x s hx hP => ?_) (fun s hP hL => ?_) (fun d hL => ?_) (fun _ c fs hL => ?_) hfs
  · obtain ⟨ρ2, a, b⟩ := hs i x s hx hP
    exact ⟨ρ2, a, sds_mono b (fun q z => ⟨⟨rfl, z.1⟩, z.2⟩) (fun _ _ z => z.elim) (fun _ z => z.elim) (fun q z => ⟨⟨rfl, z.1⟩, z.2⟩) (fun _ _ _ z => z.elim)⟩
  · rw [e] at hL; cases hL; exact hd hP
  · rw [e] at hL; cases hL
  · rw [e] at hL; cases hL
/-- a search: it leaves with d0 where p fails -/
theorem sds_all {α : Type} {xs : List α} {enc : α → D} {f : List SD → D → List SD → Prop} {js : List Nat} {body : List Stmt} {iter : Expr} (env : List SD) (p : α → Bool) (d0 : D) (hp : PassesOwn (model X.prog X.w) X.A X.env X.xe) (hc : X.calm = true)
    (hi : WD X env tg iter (xs.map enc)) (hg : TD X tg f js) (h0 : Wk ρ env)
    (hs : ∀ (i : Nat) (x : α), xs[i]? = some x → ∃ ρ2, f env (enc x) ρ2 ∧ SDs X W ρ2 body
      { nx := fun ρ' => p x = true ∧ ρ' = env, ct := fun ρ' => p x = true ∧ ρ' = env, rt := fun _ d => p x = false ∧ d = d0, ex := fun _ _ _ => False })
    (hd : xs.all p = true → SDs X W env rest R) (hr : xs.all p = false → ∀ q, R.rt q d0)
    (hfs : ∀ x, foldedSetIterable iter X.env x = pure x := by intro _; rfl) : SDs X W ρ (.For tg iter body [] pos :: rest) R := by
  have e : ∀ (xs : List α), loopX (S := Unit) (fun x _ => if p x = true then none else some (.ok d0)) (fun _ s => s) xs () = if xs.all p = true then .inl () else .inr (.ok d0) := fun xs => by
    induction xs with
    | nil => rfl
    | cons x r ih =>
      rw [loopX_cons, List.all_cons]
      cases h : p x with
      | true => rw [if_pos rfl, Bool.true_and]; exact ih
      | false => rfl
  refine sds_loop (S := Unit) (fun _ => env) (fun x _ => if p x = true then none else some (.ok d0)) (fun _ s => s) (fun _ _ => True) () hp hc hi hg h0 trivial (fun i x s hx hP => ?_) (fun s hP hL => ?_) (fun d hL => ?_) (fun _ c fs hL => ?_) hfs
  · obtain ⟨ρ2, a, b⟩ := hs i x hx
    exact ⟨ρ2, a, sds_mono b (fun q z => ⟨⟨if_pos z.1, trivial⟩, z.2⟩) (fun _ d z => by show (if p x = true then none else some (Res.ok d0)) = _; rw [if_neg (by rw [z.1]; decide), z.2]) (fun _ z => z.elim) (fun q z => ⟨⟨if_pos z.1, trivial⟩, z.2⟩) (fun _ _ _ z => z.elim)⟩
  · rw [e] at hL
    cases h : xs.all p with
    | true => exact hd h
    | false => rw [h] at hL; cases hL
  · rw [e] at hL
    cases h : xs.all p with
    | true => rw [h] at hL; cases hL
    | false => rw [h] at hL; cases hL; exact hr h
  · rw [e] at hL
    cases h : xs.all p with
    | true => rw [h] at hL; cases hL
    | false => rw [h] at hL; cases hL
theorem Wk.eq' {s s' : SD} {r r' : List SD} (h : s = s') (w : Wk r r') : Wk (s :: r) (s' :: r') := h ▸ Wk.eq w
theorem Wk.frzE {d d' : D} {r r' : List SD} (h : d = d') (w : Wk r r') : Wk (.own d :: r) (.val d' :: r') := h ▸ Wk.frz w
end
theorem pairs_zip {α β : Type} (f : α → D) (g : β → D) (xs : List α) (ys : List β) : pairs (xs.map f) (ys.map g) = (xs.zip ys).map fun q => .tup [f q.1, g q.2] := by
  induction xs generalizing ys with
  | nil => rfl
  | cons x r ih => cases ys with
    | nil => rfl
    | cons y t => exact congrArg _ (ih t)
theorem mem_zip_r {α β : Type} {xs : List α} {ys : List β} {q : α × β} {i : Nat} (h : (xs.zip ys)[i]? = some q) : q.1 ∈ xs ∧ q.2 ∈ ys := by
  have := List.mem_of_getElem? h
  exact ⟨(List.of_mem_zip this).1, (List.of_mem_zip this).2⟩
section
variable {X : Cx} {ρ : List SD} {e e2 : Expr} {pos p tpos : Pos} {kk : Nat} {α β : Type} {f : α → D} {g : β → D} {xs : List α} {ys : List β}
theorem wd_zipTm {elts : List Expr} (h : ED X ρ e (.tup (xs.map f))) (h' : ED X ρ e2 (.tup (ys.map g))) (hg : Gl X "zip") (hm : X.mg "zip" = none)
    (hs : starEach [e, e2] X.env = (false, eval e X.env) :: starEach [e2] X.env := by rfl) (hs2 : starEach [e2] X.env = (false, eval e2 X.env) :: starEach [] X.env := by rfl) (hpl : (backTo pos (starEach [e2] X.env)).any (·.1) = false := by rfl) :
    WD X ρ (.Tuple elts kk tpos) (.Call (.Name "zip" p) [e, e2] [] pos) ((xs.zip ys).map fun q => .tup [f q.1, g q.2]) := pairs_zip f g xs ys ▸ wd_zipT h h' hg hm hs hs2 hpl
theorem wd_zipLm {elts : List Expr} (h : ED X ρ e (.lst (xs.map f))) (h' : ED X ρ e2 (.lst (ys.map g))) (hg : Gl X "zip") (hm : X.mg "zip" = none)
    (hs : starEach [e, e2] X.env = (false, eval e X.env) :: starEach [e2] X.env := by rfl) (hs2 : starEach [e2] X.env = (false, eval e2 X.env) :: starEach [] X.env := by rfl) (hpl : (backTo pos (starEach [e2] X.env)).any (·.1) = false := by rfl) :
    WD X ρ (.Tuple elts kk tpos) (.Call (.Name "zip" p) [e, e2] [] pos) ((xs.zip ys).map fun q => .tup [f q.1, g q.2]) := pairs_zip f g xs ys ▸ wd_zipL h h' hg hm hs hs2 hpl
end
theorem foldl_app {α β : Type} (f : α → β) (xs : List α) (s : List β) : xs.foldl (fun s x => s ++ [f x]) s = s ++ xs.map f := by
  induction xs generalizing s with
  | nil => simp
  | cons x r ih => rw [List.foldl_cons, ih, List.map_cons, List.append_assoc]; rfl
theorem foldl_app0 {α β : Type} (f : α → β) (xs : List α) : xs.foldl (fun s x => s ++ [f x]) [] = xs.map f := foldl_app f xs []
theorem foldl_flat {α β : Type} (f : α → List β) (xs : List α) (s : List β) : xs.foldl (fun s x => s ++ f x) s = s ++ xs.flatMap f := by
  induction xs generalizing s with
  | nil => simp
  | cons x r ih => rw [List.foldl_cons, ih, List.flatMap_cons, List.append_assoc]
theorem foldl_flat0 {α β : Type} (f : α → List β) (xs : List α) : xs.foldl (fun s x => s ++ f x) [] = xs.flatMap f := foldl_flat f xs []
theorem foldl_if {α β : Type} (p : α → Prop) [DecidablePred p] (f : α → β) (xs : List α) (s : List β) : xs.foldl (fun s x => if p x then s ++ [f x] else s) s = s ++ (xs.filter fun x => decide (p x)).map f := by
  induction xs generalizing s with
  | nil => simp
  | cons x r ih =>
    rw [List.foldl_cons, ih, List.filter_cons]
    by_cases h : p x
    · rw [if_pos h, if_pos (decide_eq_true h), List.map_cons, List.append_assoc]; rfl
    · rw [if_neg h, if_neg (by rw [decide_eq_false h]; decide)]
theorem take_snoc {α : Type} {xs : List α} {i : Nat} {x : α} (h : xs[i]? = some x) : xs.take (i + 1) = xs.take i ++ [x] := by
  rw [List.take_add_one, h]; rfl
theorem getD_mem {α : Type} [Inhabited α] {xs : List α} {k : Int} (h : 0 ≤ k ∧ k < xs.length) : xs.getD k.toNat default ∈ xs := by
  have hk : k.toNat < xs.length := by omega
  rw [List.getD_eq_getElem?_getD, List.getElem?_eq_getElem hk]
  exact List.getElem_mem hk
theorem mem_rng {lo : Int} {n : Nat} {k : Int} (h : k ∈ rng lo n) : lo ≤ k ∧ k < lo + n := by
  obtain ⟨i, hi⟩ := List.mem_iff_getElem?.mp h
  obtain ⟨a, b⟩ := rng_get hi
  omega
theorem get_rng {lo : Int} {n i : Nat} {k : Int} (h : (rng lo n)[i]? = some k) : lo ≤ k ∧ k < lo + n ∧ k = lo + i := by
  obtain ⟨a, b⟩ := rng_get h
  omega

section
variable {α : Type} {xs : List α} {t : α → Bool}
theorem lcr_int {F : α → Int} : ((xs.filter fun _ => true).map fun x => D.int (F x)) = (xs.map F).map D.int := by rw [List.map_map, List.filter_eq_self.mpr (fun _ _ => rfl)]; rfl
theorem lcr_str {F : α → Str} : ((xs.filter fun _ => true).map fun x => D.str (F x)) = (xs.map F).map D.str := by rw [List.map_map, List.filter_eq_self.mpr (fun _ _ => rfl)]; rfl
theorem lcr_bl {F : α → Bool} : ((xs.filter fun _ => true).map fun x => D.bl (F x)) = (xs.map F).map D.bl := by rw [List.map_map, List.filter_eq_self.mpr (fun _ _ => rfl)]; rfl
theorem lcr_all {F : α → D} : ((xs.filter fun _ => true).map F) = xs.map F := by rw [List.filter_eq_self.mpr (fun _ _ => rfl)]
theorem lcr_int' {F : α → Int} : ((xs.filter t).map fun x => D.int (F x)) = ((xs.filter t).map F).map D.int := by rw [List.map_map]; rfl
theorem lcr_enc {β : Type} {enc : β → D} {F : α → β} {g : α → D} (h : ∀ x ∈ xs, g x = enc (F x)) : ((xs.filter fun _ => true).map g) = (xs.map F).map enc := by
  rw [List.map_map, List.filter_eq_self.mpr (fun _ _ => rfl)]
  exact List.map_congr_left h
end
theorem _root_.L2.Room.units65 {k : Nat} {A : Around} (r : Room k A) : A.units + 65 < cLine := by have := r.un; omega
def frz : List SD → Nat → List SD
  | [], _ => []
  | .own d :: r, 0 => .val d :: r
  | .val d :: r, 0 => .val d :: r
  | .no :: r, 0 => .no :: r
  | .st μ :: r, 0 => .st μ :: r
  | s :: r, n + 1 => s :: frz r n
theorem Wk.frz' : ∀ (ρ : List SD) (i : Nat), Wk ρ (RW.frz ρ i)
  | [], _ => .nil
  | .own d :: r, 0 => .frz (Wk.refl r)
  | .val d :: r, 0 => Wk.refl _
  | .no :: r, 0 => Wk.refl _
  | .st μ :: r, 0 => Wk.refl _
  | s :: r, n + 1 => by
    have h := Wk.frz' r n
    cases s <;> exact .eq h
theorem sds_frz {X : Cx} {W : WX} {ρ : List SD} {st : List Stmt} {R : Po} (i : Nat) (h : SDs X W (RW.frz ρ i) st R) : SDs X W ρ st R := sds_wk (Wk.frz' ρ i) h
end RW

end
section
/-! == of encoded data; a law's own def -/
namespace RW
open PySem PySem.Spec PyProof.Rows L2
/-- == tells what is encoded -/
def Fe {α : Type} [DecidableEq α] (enc : α → D) : Prop := ∀ x y, eqD (enc x) (enc y) = decide (x = y)
theorem fe_int : Fe D.int := fun x y => by
  show PyData.eqv (.int x) (.int y) = _
  rw [PyData.eqv]
  by_cases h : x = y <;> simp [h]
theorem fe_str : Fe D.str := fun x y => by
  show PyData.eqv (.str x) (.str y) = _
  rw [PyData.eqv]
  by_cases h : x = y <;> simp [h]
theorem fe_alls {α : Type} [DecidableEq α] {enc : α → D} (h : Fe enc) : ∀ xs ys : List α, PyData.eqvAll (toPys (xs.map enc)) (toPys (ys.map enc)) = decide (xs = ys)
  | [], [] => by simp [toPys, PyData.eqvAll]
  | [], _ :: _ => by simp [toPys, PyData.eqvAll]
  | _ :: _, [] => by simp [toPys, PyData.eqvAll]
  | x :: xs, y :: ys => by
    rw [List.map_cons, List.map_cons, toPys, toPys, PyData.eqvAll, fe_alls h xs ys, show PyData.eqv (toPy (enc x)) (toPy (enc y)) = decide (x = y) from h x y]
    by_cases h1 : x = y <;> by_cases h2 : xs = ys <;> simp [h1, h2]
theorem fe_tup {α : Type} [DecidableEq α] {enc : α → D} (h : Fe enc) : Fe fun xs : List α => .tup (xs.map enc) := fun xs ys => by
  show PyData.eqv (.tuple _) (.tuple _) = _
  rw [PyData.eqv]; exact fe_alls h xs ys
theorem fe_lst {α : Type} [DecidableEq α] {enc : α → D} (h : Fe enc) : Fe fun xs : List α => .lst (xs.map enc) := fun xs ys => by
  show PyData.eqv (.list _) (.list _) = _
  rw [PyData.eqv]; exact fe_alls h xs ys
theorem fe_disks : Fe fun ds : List (List Int) => .lst (ds.map fun d => .tup (d.map .int)) := fe_lst (fe_tup fe_int)
theorem fe_pair {a b c d : D} : eqD (.tup [a, b]) (.tup [c, d]) = (eqD a c && eqD b d) := by
  show PyData.eqv (.tuple _) (.tuple _) = _
  rw [PyData.eqv]
  simp only [toPys, PyData.eqvAll, eqD, Bool.and_true]
theorem fe_mem0 {α : Type} [DecidableEq α] {enc : α → D} (h : Fe enc) {x : α} {ys : List α} : ((ys.map enc).any fun z => eqD z (enc x)) = decide (x ∈ ys) := by
  induction ys with
  | nil => simp
  | cons y ys ih =>
    rw [List.map_cons, List.any_cons, ih, h y x]
    by_cases h1 : y = x
    · subst h1; simp
    · have h2 : ¬ x = y := fun z => h1 z.symm
      by_cases h3 : x ∈ ys <;> simp [h1, h2, h3]
theorem fe_mem {α : Type} [DecidableEq α] {enc : α → D} (h : Fe enc) {x : α} {ys : List α} [di : Decidable (x ∈ ys)] : ((ys.map enc).any fun z => eqD z (enc x)) = decide (x ∈ ys) :=
  (fe_mem0 h).trans (congrArg (fun i => @decide _ i) (Subsingleton.elim _ _))
theorem fe_eq {α : Type} [DecidableEq α] {enc : α → D} (h : Fe enc) {x y : α} [di : Decidable (x = y)] : eqD (enc x) (enc y) = decide (x = y) :=
  (h x y).trans (congrArg (fun i => @decide _ i) (Subsingleton.elim _ _))
theorem plain_map {α : Type} {enc : α → D} {n : Nat} (h : ∀ x, plainD n (enc x) = true) (xs : List α) : plainDs n (xs.map enc) = true := by
  induction xs with
  | nil => rfl
  | cons x xs ih => rw [List.map_cons, plainDs, h x, ih]; rfl
theorem plain_ints (n : Nat) (xs : List Int) : plainDs n (xs.map .int) = true := plain_map (fun _ => by cases n <;> rfl) xs
theorem plain_disk (n : Nat) (xs : List Int) : plainD (n + 1) (.tup (xs.map .int)) = true := plain_ints n xs
theorem plain_disks (n : Nat) (ds : List (List Int)) : plainDs (n + 1) (ds.map fun d => .tup (d.map .int)) = true := plain_map (fun d => plain_disk n d) ds
section
variable {X : Cx} {ds : List D} {i : Int} {s : Str} {b : Bool}
theorem isi_tup_tuple : CallD X (.builtin "isinstance") [(.tup ds), .ty "tuple"] (.bl true) := cd_isi rfl (show kitB "tuple" "tuple" = some true by decide +kernel)
theorem isi_tup_list : CallD X (.builtin "isinstance") [(.tup ds), .ty "list"] (.bl false) := cd_isi rfl (show kitB "tuple" "list" = some false by decide +kernel)
theorem isi_tup_int : CallD X (.builtin "isinstance") [(.tup ds), .ty "int"] (.bl false) := cd_isi rfl (show kitB "tuple" "int" = some false by decide +kernel)
theorem isi_tup_str : CallD X (.builtin "isinstance") [(.tup ds), .ty "str"] (.bl false) := cd_isi rfl (show kitB "tuple" "str" = some false by decide +kernel)
theorem isi_tup_bool : CallD X (.builtin "isinstance") [(.tup ds), .ty "bool"] (.bl false) := cd_isi rfl (show kitB "tuple" "bool" = some false by decide +kernel)
theorem isi_lst_tuple : CallD X (.builtin "isinstance") [(.lst ds), .ty "tuple"] (.bl false) := cd_isi rfl (show kitB "list" "tuple" = some false by decide +kernel)
theorem isi_lst_list : CallD X (.builtin "isinstance") [(.lst ds), .ty "list"] (.bl true) := cd_isi rfl (show kitB "list" "list" = some true by decide +kernel)
theorem isi_lst_int : CallD X (.builtin "isinstance") [(.lst ds), .ty "int"] (.bl false) := cd_isi rfl (show kitB "list" "int" = some false by decide +kernel)
theorem isi_lst_str : CallD X (.builtin "isinstance") [(.lst ds), .ty "str"] (.bl false) := cd_isi rfl (show kitB "list" "str" = some false by decide +kernel)
theorem isi_lst_bool : CallD X (.builtin "isinstance") [(.lst ds), .ty "bool"] (.bl false) := cd_isi rfl (show kitB "list" "bool" = some false by decide +kernel)
theorem isi_int_tuple : CallD X (.builtin "isinstance") [(.int i), .ty "tuple"] (.bl false) := cd_isi rfl (show kitB "int" "tuple" = some false by decide +kernel)
theorem isi_int_list : CallD X (.builtin "isinstance") [(.int i), .ty "list"] (.bl false) := cd_isi rfl (show kitB "int" "list" = some false by decide +kernel)
theorem isi_int_int : CallD X (.builtin "isinstance") [(.int i), .ty "int"] (.bl true) := cd_isi rfl (show kitB "int" "int" = some true by decide +kernel)
theorem isi_int_str : CallD X (.builtin "isinstance") [(.int i), .ty "str"] (.bl false) := cd_isi rfl (show kitB "int" "str" = some false by decide +kernel)
theorem isi_int_bool : CallD X (.builtin "isinstance") [(.int i), .ty "bool"] (.bl false) := cd_isi rfl (show kitB "int" "bool" = some false by decide +kernel)
theorem isi_str_tuple : CallD X (.builtin "isinstance") [(.str s), .ty "tuple"] (.bl false) := cd_isi rfl (show kitB "str" "tuple" = some false by decide +kernel)
theorem isi_str_list : CallD X (.builtin "isinstance") [(.str s), .ty "list"] (.bl false) := cd_isi rfl (show kitB "str" "list" = some false by decide +kernel)
theorem isi_str_int : CallD X (.builtin "isinstance") [(.str s), .ty "int"] (.bl false) := cd_isi rfl (show kitB "str" "int" = some false by decide +kernel)
theorem isi_str_str : CallD X (.builtin "isinstance") [(.str s), .ty "str"] (.bl true) := cd_isi rfl (show kitB "str" "str" = some true by decide +kernel)
theorem isi_str_bool : CallD X (.builtin "isinstance") [(.str s), .ty "bool"] (.bl false) := cd_isi rfl (show kitB "str" "bool" = some false by decide +kernel)
theorem isi_bl_tuple : CallD X (.builtin "isinstance") [(.bl b), .ty "tuple"] (.bl false) := cd_isi rfl (show kitB "bool" "tuple" = some false by decide +kernel)
theorem isi_bl_list : CallD X (.builtin "isinstance") [(.bl b), .ty "list"] (.bl false) := cd_isi rfl (show kitB "bool" "list" = some false by decide +kernel)
theorem isi_bl_int : CallD X (.builtin "isinstance") [(.bl b), .ty "int"] (.bl true) := cd_isi rfl (show kitB "bool" "int" = some true by decide +kernel)
theorem isi_bl_str : CallD X (.builtin "isinstance") [(.bl b), .ty "str"] (.bl false) := cd_isi rfl (show kitB "bool" "str" = some false by decide +kernel)
theorem isi_bl_bool : CallD X (.builtin "isinstance") [(.bl b), .ty "bool"] (.bl true) := cd_isi rfl (show kitB "bool" "bool" = some true by decide +kernel)
theorem isi_non_tuple : CallD X (.builtin "isinstance") [.non, .ty "tuple"] (.bl false) := cd_isi rfl (show kitB "NoneType" "tuple" = some false by decide +kernel)
theorem isi_non_list : CallD X (.builtin "isinstance") [.non, .ty "list"] (.bl false) := cd_isi rfl (show kitB "NoneType" "list" = some false by decide +kernel)
theorem isi_non_int : CallD X (.builtin "isinstance") [.non, .ty "int"] (.bl false) := cd_isi rfl (show kitB "NoneType" "int" = some false by decide +kernel)
theorem isi_non_str : CallD X (.builtin "isinstance") [.non, .ty "str"] (.bl false) := cd_isi rfl (show kitB "NoneType" "str" = some false by decide +kernel)
theorem isi_non_bool : CallD X (.builtin "isinstance") [.non, .ty "bool"] (.bl false) := cd_isi rfl (show kitB "NoneType" "bool" = some false by decide +kernel)
end
section
variable {P : Program} {w : World} {K : PySem.W.Frag} {mg : Str → Option Value} {base : Heap}
/-- a law's own def -/
theorem fn_of {x qual : Str} {st : Stmt} {f : Addr} {fd : FuncData} {N ps : List Str} {k : Nat} {S : List D → Res → Prop} (F : Fun K x qual st f fd) (sc : FnScope N ps (defScope st))
    (hlen : ps.length ≤ N.length)
    (body : ∀ (cdv : Value) (A : Around) (outer : List Env) (s : Shared) (H : Hp) (E : XK) (ds : List D) (r : Res), Room k (A.deeper (envOfC qual (defScope st) s.heap.objs.size f cdv)) → ds.length = ps.length → S ds r →
      SDs (cxOf (L2.CX P w) P w K mg base N qual (defScope st) f cdv A outer s H E) (fun cls d _ H => E cls d H) (args N ds) (defBody st) { nx := fun _ => r = .ok .non, rt := fun _ d => r = .ok d, ex := fun _ c fs => r = .er c fs }) :
    FnOk P w K mg base (L2.CX P w) (k + 1) f fd ps (spP K ps.length S) := by
  refine F.okX sc (fun vs H Q E h => ?_) (fun cdv A outer s H vs Q E hr h => ?_)
  · obtain ⟨M, ds, r, _, h2, h3, _⟩ := h
    rw [h2.length]; exact h3
  · obtain ⟨M, ds, r, dm, h2, h3, h4, h5⟩ := h
    refine ⟨_, body cdv A outer s H E ds r hr h3 h4, H, M, EnvOk.start dm h2 (by rw [h3]; exact hlen), ?_, ?_, ?_, ?_, ?_⟩
    · intro ρ' σ' H' hr' E'
      rw [hr'] at h5
      exact h5 .non H' E'.ex rfl
    · intro ρ' d v σ' H' hr' E' r'
      rw [hr'] at h5
      exact h5 v H' E'.ex (Rp.le (Le.sub fun a m => .inl (.inl m)) _ _ r')
    · intro _ _ _ z; exact z.elim
    · intro _ _ _ z; exact z.elim
    · intro ρ' c fs cls dd σ' H' hr' e' r'
      rw [hr'] at h5
      exact h5 cls dd H' e'.ex r'
end
/-- what a law promises -/
def S_law : List D → Res → Prop := fun ds r => ∃ ns : List Int, ds = [.scr ns] ∧ r = .ok (.bl true)
theorem law_sp {K : PySem.W.Frag} {H : Hp} {a : Addr} {ns : List Int} (hO : Only H) (hS : SqL K H a (ns.map V.int)) :
    spP K 1 S_law [.ref a] H (fun v _ => v = .bl true) fun _ _ _ => False := by
  refine ⟨fun _ => False, [.scr ns], .ok (.bl true), fun _ z => z.elim, ⟨.ref a, [], rfl, ⟨a, rfl, ?_⟩, rfl⟩, rfl, ⟨ns, rfl, rfl⟩, fun v H' _ h => h⟩
  rcases hS with h | h
  · rcases h with h | ⟨o, h⟩
    · rcases hO a with z | ⟨o, xs, z⟩ <;> rw [h] at z <;> cases z
    · exact .inl ⟨o, id, h⟩
  · exact .inr (.inr h)
theorem cx_none {P : Program} {w : World} {H : Hp} {s : Shared} {e : Value} {s' : Shared} (h : L2.CX P w [] H s (fun _ _ _ => False) e s') : False := by
  obtain ⟨_, _, _, _, _, _, _, _, _, _, _, _, h⟩ := h
  exact h
end RW

end
section
/-! sorted() of tuples of ints, any number of them -/
namespace RW
open PySem PySem.Spec PyProof.Rows L2
def cLt (B : Int) (h : Heap) (v u : Value) : Bool := decide (TS.code B (TS.intsOf h v) < TS.code B (TS.intsOf h u))
theorem cLt_swo (B : Int) (h : Heap) : SrtO.Swo (cLt B h) := by
  refine ⟨fun x y h1 => ?_, fun x y z h1 h2 => ?_⟩
  · have := of_decide_eq_true h1
    exact decide_eq_false (by omega)
  · have a := of_decide_eq_false h1
    have b := of_decide_eq_false h2
    exact decide_eq_false (by omega)
section
variable {prog : Program} {w : World} {A : Around} {E : Value → Shared → Prop} {s : Shared}
theorem tups_cmp {d : Nat} {B : Int} {vs : List Value} (x : TS.TupsOk s.heap d B vs) (r : Value → Int) (hr : ∀ v, v ∈ vs → ∀ ns, TS.TupInts s.heap v ns → r v = TS.code B ns) :
    SrtO.Cmp prog w A s (tuples' true) (fun p => p.1 ∈ vs) fun p q => decide (r p.1 < r q.1) := by
  intro p q hp hq
  obtain ⟨ns, tp, lp, bp⟩ := x _ hp
  obtain ⟨ms, tq, lq, bq⟩ := x _ hq
  have ep := hr _ hp _ tp
  have eq2 := hr _ hq _ tq
  show wpAny (model prog w) A (keyLt' (tuples' true) p.1 q.1) (fun c s' => s' = s ∧ c = decide (r p.1 < r q.1)) (fun _ _ => False) s
  rw [ep, eq2]
  obtain ⟨a, xs, e1, ⟨o, ho, hc, n, hdt⟩, i⟩ := tp
  obtain ⟨a', ys, e2, ⟨o', ho', hc', n', hdt'⟩, i'⟩ := tq
  rw [e1, e2]
  refine PySem.W.kat_lt ho hdt ho' hdt' ?_
  have sz : decide (xs.size < ys.size) = false := by
    have l1 := i.length
    have l2 := i'.length
    rw [Array.length_toList] at l1 l2
    exact decide_eq_false (by omega)
  rw [sz]
  exact TS.lex_ints 0 i i' (by omega) bp bq ⟨rfl, rfl⟩
theorem sorted_many {l : Addr} {vs : List Value} {d : Nat} {B : Int} {Q : Value → Shared → Prop} (hl : s.heap.IsList l vs.toArray) (hz : vs.length ≤ sizeLine) (hd : 1 ≤ d) (x : TS.TupsOk s.heap d B vs)
    (h : ∀ out : List Value, out.Perm vs → out.Pairwise (fun u v => TS.code B (TS.intsOf s.heap u) ≤ TS.code B (TS.intsOf s.heap v)) → Q (.ref (s.heap.objs.size + 1)) { s with heap := sortedAll s.heap vs out.toArray }) :
    wpAny (model prog w) A (call (.builtin "sorted") [.ref l]) Q E s := by
  refine SrtO.sorted_ord (cLt_swo B s.heap) hl hz (fun h2 h₁ a ha kk => ?_) fun out hs hb => h out hb.perm (hs.imp fun {u v} q => ?_)
  · intro h' keep
    have k' : ∀ b o, s.heap.get? b = some o → o.cls = .type "tuple" → h'.get? b = some o := fun b o e _ => keep b o (kk b o e).1 (kk b o e).2
    have x' : TS.TupsOk h' d B vs := x.keeps k'
    obtain ⟨fs, k, hlf, hi⟩ := TS.firsts_of hd vs x'
    refine ⟨tuples' true, fun Q E hq => ?_, tups_cmp (s := { s with heap := h' }) x' (fun v => TS.code B (TS.intsOf s.heap v)) fun v hv ns t => ?_⟩
    · refine PySem.W.kat_kind (T := Value.type "int") k (by omega) (fun f hf => ?_) rfl ?_
      · obtain ⟨n, t, rfl⟩ := hi f hf
        exact PySem.W.Looks.of_pure rfl
      · have e : (Value.type "int" != Value.type "tuple") = true := by first | decide +kernel | rfl | decide
        rw [e]
        exact hq
    · obtain ⟨ns0, t0, _⟩ := x v hv
      have e : ns = ns0 := t.ints.symm.trans (t0.keeps k').ints
      rw [e]
      show TS.code B (TS.intsOf s.heap v) = TS.code B ns0
      rw [t0.ints]
  · have := of_decide_eq_false q
    omega
end
def rSortN (K : PySem.W.Frag) (d : Nat) (B : Int) : List V → Hp → VK → Prop := fun vs H Q => ∃ (a : Addr) (xs : List V), vs = [V.ref a] ∧ SqL K H a xs ∧ (∀ x ∈ xs, ∃ ns, TupI K H x ns ∧ ns.length = d ∧ TS.Bd B ns) ∧
  ∀ (ys : List V) (p : Addr), ys.Perm xs → ys.Pairwise (fun x y => ∀ n m, TupI K H x n → TupI K H y m → TS.code B n ≤ TS.code B m) → H p = none → Q (.ref p) (upd H p (.lst ys))
section
variable {X : Cx}
theorem cr_sortN {d : Nat} {B : Int} (hd : 1 ≤ d) : CallR X (.builtin "sorted") (rSortN X.K d B) := by
  intro pins s σ H vs us Q I r h
  obtain ⟨a, xs, rfl, hs, hx, q⟩ := h
  obtain ⟨its, rv, hl, hz⟩ := I.list hs
  rw [Vals.ref1 r]
  obtain ⟨e1, e2⟩ := bkV_refs rv fun x m => by
    obtain ⟨ns, ⟨t, e, _⟩, _⟩ := hx x m
    exact ⟨t, e⟩
  refine sorted_many (d := d) (B := B) hl.isList (by rw [← rv.length]; exact hz) hd (fun v hv => ?_) fun out h1 h2 => ?_
  · obtain ⟨t, rfl⟩ := e2 v hv
    have hm : V.ref t ∈ xs := by
      rw [e1]
      exact List.mem_map.mpr ⟨_, hv, rfl⟩
    obtain ⟨ns, ⟨t', e, ht⟩, hn, hb⟩ := hx _ hm
    cases e
    exact ⟨ns, tupI_raw I ht, hn, hb⟩
  · obtain ⟨ep, he'⟩ := PyProof.Rows.sortedAll_at s.heap its out.toArray
    have h3 : ∀ u ∈ out, ∃ a, u = Value.ref a := fun u hu => e2 u (h1.mem_iff.mp hu)
    have hp : (out.map bkV).Perm xs := by
      rw [e1]
      exact h1.map bkV
    have hlen : (out.map bkV).length ≤ sizeLine := by
      rw [hp.length_eq]
      exact hz
    refine ⟨.ref _, upd H (s.heap.objs.size + 1) (.lst (out.map bkV)), I.laid (t' := s.toks) (fun _ _ => PyProof.Rows.sortedAll_old) (Nat.le_succ _) ⟨hlen, out, ep, bkV_vals h3, he'⟩, rfl, q _ _ hp ?_ (I.hok.fresh (Nat.le_succ _))⟩
    rw [List.pairwise_map]
    refine List.Pairwise.imp (fun {u v} huv n m hn hm => ?_) h2
    obtain ⟨t, et, ht⟩ := hn
    obtain ⟨t', et', ht'⟩ := hm
    have eu := bkV_ref et
    have ev := bkV_ref et'
    have i1 : TS.intsOf s.heap u = n := by
      rw [eu]
      exact (tupI_raw I ht).ints
    have i2 : TS.intsOf s.heap v = m := by
      rw [ev]
      exact (tupI_raw I ht').ints
    rw [← i1, ← i2]
    exact huv
end
/-! over data -/
abbrev encT (d : List Int) : D := .tup (d.map .int)
theorem tup_of_rp {K : PySem.W.Frag} {H : Hp} {M : MS} {d : List Int} {v : V} (h : Rp K H M (encT d) v) : TupI K H v d := by
  obtain ⟨a, xs, e, t, r⟩ := h
  rw [r.ints] at t
  exact ⟨a, e, t.sq⟩
theorem rps_perm {K : PySem.W.Frag} {H : Hp} {M : MS} {ys xs : List V} (hp : ys.Perm xs) : ∀ {ds : List (List Int)}, Rps K H M (ds.map encT) xs → ∃ es : List (List Int), es.Perm ds ∧ Rps K H M (es.map encT) ys := by
  induction hp with
  | nil => exact fun {ds} h => ⟨ds, .refl _, h⟩
  | cons x _ ih =>
    intro ds h
    cases ds with
    | nil => cases h
    | cons d ds =>
      obtain ⟨v, r, e, h1, h2⟩ := h
      injection e with e1 e2
      subst e1; subst e2
      obtain ⟨es, p, q⟩ := ih h2
      exact ⟨d :: es, p.cons d, _, _, rfl, h1, q⟩
  | swap x y l =>
    intro ds h
    cases ds with
    | nil => cases h
    | cons d ds =>
      obtain ⟨v, r, e, h1, h2⟩ := h
      injection e with e1 e2
      subst e1; subst e2
      cases ds with
      | nil => cases h2
      | cons d2 ds =>
        obtain ⟨v2, r2, e, h3, h4⟩ := h2
        injection e with e1 e2
        subst e1; subst e2
        exact ⟨d2 :: d :: ds, .swap d d2 ds, _, _, rfl, h3, _, _, rfl, h1, h4⟩
  | trans _ _ ih1 ih2 =>
    intro ds h
    obtain ⟨es, p, q⟩ := ih2 h
    obtain ⟨es2, p2, q2⟩ := ih1 q
    exact ⟨es2, p2.trans p, q2⟩
theorem rps_pair {K : PySem.W.Frag} {H : Hp} {M : MS} {B : Int} : ∀ {es : List (List Int)} {ys : List V}, Rps K H M (es.map encT) ys → ys.Pairwise (fun x y => ∀ n m, TupI K H x n → TupI K H y m → TS.code B n ≤ TS.code B m) → es.Pairwise fun a b => TS.code B a ≤ TS.code B b
  | [], _, _, _ => .nil
  | e :: es, ys, h, p => by
    obtain ⟨v, r, rfl, h1, h2⟩ := h
    rw [List.pairwise_cons] at p
    refine .cons (fun b hb => ?_) (rps_pair h2 p.2)
    obtain ⟨i, hi⟩ := List.getElem?_of_mem hb
    obtain ⟨u, hu, q⟩ := h2.get (i := i) (d := encT b) (by rw [List.getElem?_map, hi]; rfl)
    exact p.1 u (List.mem_of_getElem? hu) _ _ (tup_of_rp h1) (tup_of_rp q)
/-- what rises strictly is the only arrangement that rises -/
theorem rise_uniq {f : List Int → Int} : ∀ {zs es : List (List Int)}, zs.Pairwise (fun a b => f a < f b) → es.Pairwise (fun a b => f a ≤ f b) → es.Perm zs → es = zs
  | [], es, _, _, p => p.eq_nil
  | z :: zs, [], _, _, p => absurd p.symm.eq_nil (by simp)
  | z :: zs, e :: es, hz, he, p => by
    rw [List.pairwise_cons] at hz he
    have e1 : e = z := by
      have m1 : e ∈ z :: zs := p.mem_iff.mp List.mem_cons_self
      have m2 : z ∈ e :: es := p.mem_iff.mpr List.mem_cons_self
      rcases List.mem_cons.mp m1 with h | h
      · exact h
      · rcases List.mem_cons.mp m2 with h' | h'
        · exact h'.symm
        · have a := hz.1 e h
          have b := he.1 z h'
          omega
    subst e1
    rw [rise_uniq hz.2 he.2 (List.Perm.cons_inv p)]
theorem co_sortT {X : Cx} {n : Nat} {B : Int} {xs zs : List (List Int)} (hn : 1 ≤ n) (hx : ∀ x ∈ xs, x.length = n ∧ TS.Bd B x) (hp : zs.Perm xs) (hs : zs.Pairwise fun a b => TS.code B a < TS.code B b) :
    CallO X (.builtin "sorted") [.lst (xs.map encT)] (.lst (zs.map encT)) := ⟨_, cr_sortN (d := n) (B := B) hn, fun H M vs dm r Q q => by
  obtain ⟨x, r, rfl, ⟨a, us, rfl, m, t, rx⟩, rfl⟩ := r
  refine ⟨a, us, rfl, SqL.of t, fun u hu => ?_, fun ys p h1 h2 np => ?_⟩
  · obtain ⟨i, hi⟩ := List.getElem?_of_mem hu
    have hl := rx.length
    have hi2 := (List.getElem?_eq_some_iff.mp hi).1
    rw [List.length_map] at hl
    have hg : xs[i]? = some xs[i] := List.getElem?_eq_getElem (by omega)
    obtain ⟨u', hu', q'⟩ := rx.get (i := i) (d := encT xs[i]) (by rw [List.getElem?_map, hg]; rfl)
    rw [hi] at hu'; cases hu'
    exact ⟨xs[i], tup_of_rp q', hx _ (List.mem_of_getElem? hg)⟩
  · obtain ⟨es, p1, r1⟩ := rps_perm h1 rx
    have e := rise_uniq hs (rps_pair r1 h2) (p1.trans hp.symm)
    rw [e] at r1
    exact q p _ np (Ex.new np) (OwnAt.new_lst np r1)⟩
theorem eo_callB {X : Cx} {ρ : List SD} {e : Expr} {es : List Expr} {ds : List D} {dz : D} {x : Str} {p pos : Pos} {id : String} (hg : Gl X x) (hm : X.mg x = none) (hv : bootBuiltins x = some (.builtin id)) (ha : EA X ρ (e :: es) ds) (ho : CallO X (.builtin id) ds dz) (hn : x ≠ "__name__" := by decide) (hdb : (x == ("__debug__" : Str)) = false := by decide)
    (he : starEach (e :: es) X.env = (false, eval e X.env) :: starEach es X.env := by rfl) (hpl : (backTo pos (starEach es X.env)).any (·.1) = false := by rfl) : EO X ρ (.Call (.Name x p) (e :: es) [] pos) dz := by
  obtain ⟨r, h1, h2⟩ := ho
  exact pe_w (pe_callB h1 hg hm hv ha hn hdb he hpl) fun σ H Q h => tCB_eo h2 h
end RW

end
section
/-! signs of texts, f-strings, what raises -/
namespace RW
open PySem PySem.Spec PyProof.Rows L2
abbrev chD (c : Nat) : D := .str ⟨#[c]⟩
section
variable {X : Cx} {W : WX} {ρ ρ' : List SD} {tg e e2 a b : Expr} {dx dy dz d : D} {pos p tpos : Pos} {ds es : List D} {x : Str} {kk : Nat}
theorem opd_inC {c : Nat} {z : Str} : OpD X (compareOp .In) (chD c) (.str z) (.bl (decide (c ∈ z.cps.toList))) := ⟨_, op_in_sign, fun H M x y dm rx ry Q q => ⟨c, z, rx, ry, q _ H (Ex.refl H) rfl⟩⟩
theorem opd_niC {c : Nat} {z : Str} : OpD X (compareOp .NotIn) (chD c) (.str z) (.bl (!decide (c ∈ z.cps.toList))) := ⟨_, op_notIn_sign, fun H M x y dm rx ry Q q => ⟨c, z, rx, ry, q _ H (Ex.refl H) rfl⟩⟩
theorem wd_str {s : Str} (h : ED X ρ e (.str s)) : WD X ρ tg e (s.cps.toList.map chD) := pi_w (pi_str h) fun σ H R ⟨H0, M0, E, q⟩ => ⟨H0, M0, E, fun v H' e1 r => by
  obtain ⟨H1, ex, E1, l⟩ := (E.ext e1).fixed
  refine ⟨s, r, q _ _ H1 e1 ex E1 fun i H2 e2 => ⟨fun hi => ?_, fun d hd => ?_⟩⟩
  · rw [List.length_map, Array.length_toList] at hi
    exact Nat.le_of_eq hi.symm
  · rw [List.getElem?_map] at hd
    cases hc : s.cps.toList[i]? with
    | none => rw [hc] at hd; cases hd
    | some c =>
      rw [hc] at hd; cases hd
      have hc' : s.cps[i]? = some c := by rw [← hc, Array.getElem?_toList]
      refine ⟨(Array.getElem?_eq_some_iff.mp hc').1, fun x H3 ⟨z1, c', z2, z3⟩ => ?_⟩
      subst z1
      rw [hc'] at z2; cases z2
      exact ⟨Ex.refl _, fun M lm _ => z3⟩⟩
/-! ### some text -/
def tStr (K : PySem.W.Frag) (ρ : List SD) (n : Nat) : TE := fun σ H Q => ∃ H0 M0, EnvOk K H0 M0 ρ σ H ∧ ∀ y H', Ex H H' → y.length ≤ n → Q (.str y) H'
/-- a text of at most n signs -/
abbrev EStr (X : Cx) (ρ : List SD) (n : Nat) (e : Expr) : Prop := PE X e (tStr X.K ρ n)
theorem es_ed {s : Str} {n : Nat} (h : ED X ρ e (.str s)) (hz : s.length ≤ n) : EStr X ρ n e := pe_w h fun σ H Q ⟨H0, M0, E, q⟩ => ⟨H0, M0, E, fun v H' e1 r => by rw [show v = .str s from r]; exact q s H' e1 hz⟩
inductive Fmt (X : Cx) (ρ : List SD) : Expr → Prop where
  | txt {e : Expr} {s : Str} (h : ED X ρ e (.str s)) (hz : s.length ≤ 100000) : Fmt X ρ e
  | str {e : Expr} {s : Str} {pos : Pos} (h : ED X ρ e (.str s)) (hz : s.length ≤ 100000) : Fmt X ρ (.FormattedValue e (-1) none pos)
  | int {e : Expr} {i : Int} {pos : Pos} (h : ED X ρ e (.int i)) (hz : i.natAbs.log2 < 1920 ∧ (toString i : Str).length ≤ 100000) : Fmt X ρ (.FormattedValue e (-1) none pos)
inductive Fmts (X : Cx) (ρ : List SD) : List Expr → Prop where
  | nil : Fmts X ρ []
  | cons {e : Expr} {es : List Expr} (h : Fmt X ρ e) (r : Fmts X ρ es) : Fmts X ρ (e :: es)
def tPart (K : PySem.W.Frag) (ρ : List SD) : TE := fun σ H Q => ∃ H0 M0, EnvOk K H0 M0 ρ σ H ∧ ∀ y H', Ex H H' → y.length ≤ 100000 → Q (.str y) H'
theorem Fmt.pe {e : Expr} (h : Fmt X ρ e) : PE X e (tPart X.K ρ) := by
  cases h with
  | txt h hz => exact pe_w h fun σ H Q ⟨H0, M0, E, q⟩ => ⟨H0, M0, E, fun v H' e1 r => by rw [show v = .str _ from r]; exact q _ H' e1 hz⟩
  | str h hz => exact pe_w (pe_fmt h) fun σ H Q ⟨H0, M0, E, q⟩ => ⟨H0, M0, E, fun v H' e1 r => .inl ⟨_, r, Nat.le_trans hz (by rw [sizeLine_eq]; decide), q _ H' e1 hz⟩⟩
  | int h hz => exact pe_w (pe_fmt h) fun σ H Q ⟨H0, M0, E, q⟩ => ⟨H0, M0, E, fun v H' e1 r => .inr ⟨_, r, hz.1, q _ H' e1 hz.2⟩⟩
theorem Fmts.pj {es : List Expr} (h : Fmts X ρ es) : PJ X es (List.replicate es.length (tPart X.K ρ)) := by
  induction h with
  | nil => exact .nil
  | cons h r ih => exact .cons h.pe ih
theorem tjs_ok {K : PySem.W.Frag} : ∀ (n : Nat) (acc : Str) (σ : L2.St) (H : Hp) (Q : Str → Hp → Prop) (H0 : Hp) (M0 : MS), EnvOk K H0 M0 ρ σ H → acc.length + n * 100000 ≤ sizeLine → (∀ y H', Ex H H' → y.length ≤ acc.length + n * 100000 → Q y H') → tJs (List.replicate n (tPart K ρ)) acc σ H Q
  | 0, acc, σ, H, Q, H0, M0, E, hz, q => q acc H (Ex.refl H) (by omega)
  | n + 1, acc, σ, H, Q, H0, M0, E, hz, q => by
    refine ⟨H0, M0, E, fun y H' e1 hy => ⟨y, rfl, ?_, tjs_ok n (acc ++ y) σ H' Q H0 M0 (E.ext e1) ?_ fun z H2 e2 hz2 => q z H2 (e1.trans e2) ?_⟩⟩
    · rw [Str.length_append]; omega
    · rw [Str.length_append]; omega
    · rw [Str.length_append] at hz2; omega
theorem es_joined {v1 v2 : Expr} {rest : List Expr} (h : Fmts X ρ (v1 :: v2 :: rest)) (hn : rest.length ≤ 6 := by decide) : EStr X ρ 1000000 (.JoinedStr (v1 :: v2 :: rest) pos) :=
  pe_w (pe_joined h.pj) fun σ H Q ⟨H0, M0, E, q⟩ => by
    have hz : (Str.empty : Str).length = 0 := rfl
    refine tjs_ok (v1 :: v2 :: rest).length Str.empty σ H _ H0 M0 E ?_ fun y H' e1 hy => q y H' e1 ?_
    · rw [hz, List.length_cons, List.length_cons, sizeLine_eq]; omega
    · rw [hz, List.length_cons, List.length_cons] at hy; omega
theorem es_joined1 {n : Nat} (h : EStr X ρ n e) : EStr X ρ n (.JoinedStr [e] pos) := pe_joined1 h
end
/-! ### raise -/
section
variable {X : Cx} {W : WX} {ρ ρ' : List SD} {R : Po} {x : Str} {C : Addr}
/-- facts of an exception class of the program's own, without an __init__ -/
structure XF (K : PySem.W.Frag) (mg : Str → Option Value) (x : Str) (C : Addr) : Prop where
  g : mg x = some (.ref C)
  q : PySem.W.excIn K C [.type "ValueError", .type "Exception", .type "BaseException", .type "object"] "ValueError.__new__" = true
  k : PySem.W.keepIn K (.ref C) = true
  b : PySem.W.subIn K (.ref C) (.type "BaseException") = some true
  t : PySem.W.typeIn K (.ref C) = some (.type "type")
theorem pmk_ownE {B newId initId : String} {bmB : List Value} {a : Expr} {t : TA} {p pos : Pos} (F : ExcBaseFacts B newId initId bmB) (q : PySem.W.excIn X.K C bmB newId = true) (gC : X.mg x = some (.ref C)) (kC : PySem.W.keepIn X.K (.ref C) = true) (r : Raises X (.ref C)) (hg : Gl X x)
    (ha : PA X [a] t) (hs : starEach [a] X.env = [(false, eval a X.env)] := by rfl) (hdb : (x == ("__debug__" : Str)) = false := by decide) : PMk X (.Call (.Name x p) [a] [] pos) (fun σ H Q => t σ H fun vs H1 => (∃ m, vs = [V.str m]) ∧ Q (.ref C) none H1) := by
  intro pins s σ H Q I h
  refine wpAny_Call_Name_kw (ld_glob I hg gC ?_ hdb)
  refine PySem.W.callWith_K (h₀ := X.base) I.ok.mod.kin kC (thn (ha.run pos pins s σ H _ I h) fun us s1 hh => ?_) (by rw [hs]; rfl) (by rfl)
  obtain ⟨vs, H1, I1, r1, ⟨m, ev⟩, h1⟩ := hh
  subst ev
  refine ⟨I1.kIn, ?_⟩
  cases r1 with
  | cons ru rn =>
    rename_i u us'
    cases rn
    show wpAny _ _ (call (.ref C) [u]) _ _ _
    obtain ⟨bm, N, nm, qn, bs, hdct, sn, sub, ab, col, dd, k0, k1, k2, k3, k5, mN, hC, hN, hni, T⟩ := exc_obj I1.kIn q
    refine wpAny_call_exc_subT F T hC hN hni (fun h' e hm => ?_) (by show 1 ≤ sizeLine; rw [sizeLine_eq]; omega)
    exact mk_of I1 hm r h1 (I1.hok.gone hm.new)
theorem ea_one_str {n : Nat} {a : Expr} (h : EStr X ρ n a) (hs : starEach [a] X.env = [(false, eval a X.env)] := by rfl) : PA X [a] (tCons (tStr X.K ρ n) tNil) := pa_cons h pa_nil (by rw [hs]; rfl)
theorem sds_raise {n : Nat} {a : Expr} {rest : List Stmt} {p pos spos : Pos} (hc : X.calm = true) (tk : Takes X W) (F : XF X.K X.mg x C) (hg : Gl X x) (he : EStr X ρ n a) (h : R.ex ρ (.ref C) none) (hs : starEach [a] X.env = [(false, eval a X.env)] := by rfl) (hdb : (x == ("__debug__" : Str)) = false := by decide) :
    SDs X W ρ (.Raise (some (.Call (.Name x p) [a] [] pos)) none spos :: rest) R :=
  pss_w (pss_cons (ps_raise hc tk (pmk_ownE PySem.F.excBase_ValueError F.q F.g F.k (raises_own F.b F.t) hg (ea_one_str he hs) hs hdb)) pss_never) fun Dn σ H ⟨H0, M0, E, q1, q2, q3, q4, q5⟩ => by
    refine ⟨H0, M0, E, fun y H' e1 _ => ⟨⟨y, rfl⟩, ?_⟩⟩
    exact q5 ρ (.ref C) none (.ref C) none σ H' h (E.ext e1) ⟨rfl, rfl⟩
end
end RW

end
section
/-! calls that may raise; try -/
namespace RW
open PySem PySem.Spec PyProof.Rows L2
section
variable {X : Cx} {W : WX} {ρ ρ' : List SD} {e a b c : Expr} {dx dy dz d : D} {pos p : Pos} {es : List Expr} {ds : List D} {x : Str} {rest : List Stmt} {R : Po} {r : Res}
/-- what it evaluates to, or what it raises -/
def tR (K : PySem.W.Frag) (W : WX) (ρ : List SD) (r : Res) : TE := fun σ H Q => ∃ H0 M0, EnvOk K H0 M0 ρ σ H ∧ RetOk K H (Mo M0 ρ σ) Q (fun cls dd H' => W cls dd σ H') r
abbrev ER (X : Cx) (W : WX) (ρ : List SD) (e : Expr) (r : Res) : Prop := PE X e (tR X.K W ρ r)
theorem er_ed (h : ED X ρ e d) : ER X W ρ e (.ok d) := pe_w h fun σ H Q ⟨H0, M0, E, q⟩ => ⟨H0, M0, E, fun v H' e1 r => q v H' e1 r⟩
theorem er_call {k n : Nat} {S : List D → Res → Prop} (tk : Takes X W) (F : FX X k x n S) (hr : Room k X.A) (hg : Gl X x) (ha : EA X ρ (e :: es) ds) (hS : S ds r) (hn : ds.length = n := by rfl)
    (hdb : (x == ("__debug__" : Str)) = false := by decide) (he : starEach (e :: es) X.env = (false, eval e X.env) :: starEach es X.env := by rfl) (hpl : (backTo pos (starEach es X.env)).any (·.1) = false := by rfl) :
    ER X W ρ (.Call (.Name x p) (e :: es) [] pos) r := by
  obtain ⟨f, fd, ps, h1, h2, h3, h4⟩ := F.ex
  refine pe_w (pe_callS h4 hr hg h1 h2 h3 (fun σ => passAt tk σ) ha hdb he hpl) fun σ H Q ⟨H0, M0, E, q⟩ => ?_
  refine ⟨H0, M0, E, fun vs H1 e1 r1 => ?_⟩
  show spP X.K n S vs H1 Q fun cls dd H' => W cls dd σ H'
  refine ⟨Mo M0 ρ σ, ds, r, (E.ext e1).domN, r1, hn, hS, ?_⟩
  cases r with
  | ok d => exact fun v H2 e2 r2 => q v H2 (e1.trans e2) r2
  | er c fs => exact fun cls dd H2 e2 r2 => q cls dd H2 (e1.trans e2) r2
theorem rpx_sub {K : PySem.W.Frag} {H : Hp} {M M' : MS} {c : Value} {fs : Option (List (Str × D))} {cls : Value} {dd : Option Addr} (s : ∀ a, M' a → M a) (h : RpX K H M c fs cls dd) : RpX K H M' c fs cls dd := h.le (Le.sub s)
theorem sds_exprR (he : ER X W ρ e r) (hok : ∀ d, r = .ok d → SDs X W ρ rest R) (her : ∀ c fs, r = .er c fs → R.ex ρ c fs) (hs : swapsWith e none pos.line X.env = pure false := by rfl) : SDs X W ρ (.Expr e pos :: rest) R :=
  sds_cons (R1 := fun ρ1 => ρ1 = ρ ∧ ∃ d, r = .ok d) (ps_w (ps_expr he hs) fun Dn σ H ⟨H0, M0, E, q1, q2, q3, q4, q5⟩ => by
    refine ⟨H0, M0, E, ?_⟩
    cases r with
    | ok d => exact fun v H1 e1 r1 => q1 ρ σ H1 ⟨rfl, d, rfl⟩ (E.ext e1)
    | er c fs => exact fun cls dd H1 e1 r1 => q5 ρ c fs cls dd σ H1 (her c fs rfl) (E.ext e1) (rpx_sub (fun a m => .inl (.inl m)) r1)) fun _ ⟨z, d, hd⟩ => by rw [z]; exact hok d hd
theorem sds_setR (i : Nat) {pos' : Pos} (he : ER X W ρ e r) (hN : X.N.Nodup) (hi : X.N[i]? = some x) (hx : Loc X.env.scope x) (hok : ∀ d, r = .ok d → SDs X W (ρ.set i (.val d)) rest R) (her : ∀ c fs, r = .er c fs → R.ex ρ c fs) (hl : i < ρ.length := by decide) (hs : swapsWith e (some (.Name x pos')) pos.line X.env = pure false := by rfl)
    (hf : X.fn x = true ∨ X.env.scope.names.lookup x = some .local := by first | exact .inl rfl | exact .inr rfl | assumption) : SDs X W ρ (.Assign [.Name x pos'] e pos :: rest) R :=
  sds_cons (R1 := fun ρ1 => ∃ d, r = .ok d ∧ ρ1 = ρ.set i (.val d)) (ps_w (ps_set hN hi hx he hs hf) fun Dn σ H ⟨H0, M0, E, q1, q2, q3, q4, q5⟩ => by
    refine ⟨H0, M0, E, ?_⟩
    cases r with
    | ok d => exact fun v H1 e1 r1 => q1 _ _ _ ⟨d, rfl, rfl⟩ ((E.ext e1).set (by rw [← E.len]; exact hl) r1)
    | er c fs => exact fun cls dd H1 e1 r1 => q5 ρ c fs cls dd σ H1 (her c fs rfl) (E.ext e1) (rpx_sub (fun a m => .inl (.inl m)) r1)) fun _ ⟨d, hd, z⟩ => by rw [z]; exact hok d hd
theorem sds_retR (he : ER X W ρ e r) (hok : ∀ d, r = .ok d → R.rt ρ d) (her : ∀ c fs, r = .er c fs → R.ex ρ c fs) : SDs X W ρ (.Return (some e) pos :: rest) R :=
  pss_w (pss_cons (ps_ret he) pss_never) fun Dn σ H ⟨H0, M0, E, q1, q2, q3, q4, q5⟩ => by
    refine ⟨H0, M0, E, ?_⟩
    cases r with
    | ok d => exact fun v H1 e1 r1 => q2 ρ d v σ H1 (hok d rfl) (E.ext e1) r1
    | er c fs => exact fun cls dd H1 e1 r1 => q5 ρ c fs cls dd σ H1 (her c fs rfl) (E.ext e1) (rpx_sub (fun a m => .inl (.inl m)) r1)
end
/-! ### try: body, except x as n: suite -/
section
variable {X : Cx} {W : WX} {ρ : List SD} {x n : Str} {c : Value} {i : Nat} {body suite rest : List Stmt} {b₀ : Stmt} {np pos pos' : Pos} {R : Po}
abbrev WF : WX := fun _ _ _ _ => False
/-- what an exception of the body leads to -/
def Caught (X : Cx) (c : Value) (i : Nat) (sts : List Stmt) (R : Po) (ρ' : List SD) (c1 : Value) : Prop := PySem.W.exmOne X.K c1 c = some true ∧ i < ρ'.length ∧
  ∀ (a : Addr) (oe : Obj) (pn : List (Addr × Obj)), Zc c1 none oe → (∃ vs, oe.data = .fields vs) → SDs (X.suite a ((a, oe) :: pn)) WF (ρ'.set i (.val (.adr a))) sts { nx := fun ρ'' => R.nx (ρ''.set i .no), rt := R.rt }
theorem sd1_tryAs (hs : X.stack = X.env :: X.outer) (hf : X.env.frame = some X.env.locals) (hN : X.N.Nodup) (hi : X.N[i]? = some n) (hln : X.env.kindOf n = some .local) (hc : Names X x c) (tk : Takes X W) {Ex1 : List SD → Value → Option (List (Str × D)) → Prop}
    (hb : ∀ (W' : WX) (pn : List (Addr × Obj)) (xe : Value → Shared → Prop), Takes (X.tr pn xe) W' → PassesOwn (model X.prog X.w) X.A X.env xe → SDs (X.tr pn xe) W' ρ body { nx := R.nx, rt := R.rt, ex := Ex1 })
    (hx : ∀ ρ' c1 fs, Ex1 ρ' c1 fs → fs = none ∧ (Caught X c i (b₀ :: suite) R ρ' c1 ∨ PySem.W.exmOne X.K c1 c = some false ∧ R.ex ρ' c1 fs)) :
    SD1 X W ρ (.Try body [.ExceptHandler (some (.Name x np)) (some n) (b₀ :: suite) pos'] [] [] pos) R := by
  refine ps_w (ps_try_as (i := i) (tb := fun W' => tS X.K W' ρ { nx := R.nx, rt := R.rt, ex := Ex1 })
    (ts := fun a cls d Dn σ H => ∃ q : List SD × Value, (Caught X c i (b₀ :: suite) R q.1 q.2 ∧ cls = q.2 ∧ d = none) ∧ tS X.K WF (q.1.set i (.val (.adr a))) { nx := fun ρ'' => R.nx (ρ''.set i .no), rt := R.rt } Dn σ H)
    hs hf hN hi hln hc tk hb (fun a oe cls d pn hz hv => pss_fam (p := fun q : List SD × Value => Caught X c i (b₀ :: suite) R q.1 q.2 ∧ cls = q.2 ∧ d = none) fun q hq => ?_)) fun Dn σ H ⟨H0, M0, E, q1, q2, q3, q4, q5⟩ => ?_
  · obtain ⟨h1, e1, e2⟩ := hq
    subst e1; subst e2
    exact h1.2.2 a oe pn hz hv
  · refine ⟨H0, M0, E, q1, q2, fun _ _ _ z => z.elim, fun _ _ _ z => z.elim, fun ρ' c1 fs cls dd σ' H' h1 E1 r1 => ?_⟩
    obtain ⟨e1, h2⟩ := hx ρ' c1 fs h1
    subst e1
    obtain ⟨e2, e3⟩ := r1
    subst e2
    have e3 : dd = none := e3
    subst e3
    rcases h2 with h2 | ⟨h2, h3⟩
    · refine ⟨true, h2.1, fun _ a _ => ⟨(ρ', cls), ⟨h2, rfl, rfl⟩, H0, M0, E1.set (by rw [← E1.len]; exact h2.2.1) rfl, fun ρ5 σ5 H5 z E5 => q1 _ _ _ z E5.clear, q2, fun _ _ _ z => z.elim, fun _ _ _ z => z.elim, fun _ _ _ _ _ _ _ z => z.elim⟩, fun z => nomatch z⟩
    · exact ⟨false, h2, fun z => (nomatch z), fun _ => q5 ρ' cls none cls none σ' H' h3 E1 ⟨rfl, rfl⟩⟩
theorem sds_tryAs (hs : X.stack = X.env :: X.outer) (hf : X.env.frame = some X.env.locals) (hN : X.N.Nodup) (hi : X.N[i]? = some n) (hln : X.env.kindOf n = some .local) (hc : Names X x c) (tk : Takes X W) {Ex1 : List SD → Value → Option (List (Str × D)) → Prop}
    (hb : ∀ (W' : WX) (pn : List (Addr × Obj)) (xe : Value → Shared → Prop), Takes (X.tr pn xe) W' → PassesOwn (model X.prog X.w) X.A X.env xe → SDs (X.tr pn xe) W' ρ body { nx := fun ρ1 => SDs X W ρ1 rest R, rt := R.rt, ex := Ex1 })
    (hx : ∀ ρ' c1 fs, Ex1 ρ' c1 fs → fs = none ∧ (Caught X c i (b₀ :: suite) { R with nx := fun ρ1 => SDs X W ρ1 rest R } ρ' c1 ∨ PySem.W.exmOne X.K c1 c = some false ∧ R.ex ρ' c1 fs)) :
    SDs X W ρ (.Try body [.ExceptHandler (some (.Name x np)) (some n) (b₀ :: suite) pos'] [] [] pos :: rest) R :=
  sds_k (sd1_tryAs hs hf hN hi hln hc tk hb hx)
theorem cd_isE {a D C : Addr} {oe : Obj} {pn : List (Addr × Obj)} {b : Bool} (F : ExcC X.K D) (hz : Zc (.ref D) none oe) (hf : ∃ vs, oe.data = .fields vs) (h : PySem.W.kitOne X.K (.ref D) (.ref C) = some b) : CallD (X.suite a ((a, oe) :: pn)) (.builtin "isinstance") [.adr a, .adr C] (.bl b) :=
  ⟨_, call_isE F hz hf, fun H M vs dm r Q q => by
    obtain ⟨x1, r1, rfl, h1, x2, r2, rfl, h2, rfl⟩ := r
    rw [show x1 = .ref a from h1, show x2 = .ref C from h2]
    exact ⟨.ref C, .ref C, b, rfl, fun u hu => hu, h, q _ H (Ex.refl H) rfl⟩⟩
theorem cd_isEt {a D : Addr} {T : String} {oe : Obj} {pn : List (Addr × Obj)} {b : Bool} (F : ExcC X.K D) (hz : Zc (.ref D) none oe) (hf : ∃ vs, oe.data = .fields vs) (h : PySem.W.kitOne X.K (.ref D) (.type T) = some b) : CallD (X.suite a ((a, oe) :: pn)) (.builtin "isinstance") [.adr a, .ty T] (.bl b) :=
  ⟨_, call_isE F hz hf, fun H M vs dm r Q q => by
    obtain ⟨x1, r1, rfl, h1, x2, r2, rfl, h2, rfl⟩ := r
    rw [show x1 = .ref a from h1, show x2 = .ty T from h2]
    exact ⟨.ty T, .type T, b, rfl, fun u hu => hu, h, q _ H (Ex.refl H) rfl⟩⟩
end
end RW

end
section
/-! instances: fields, __init__, making one -/
namespace RW
open PySem PySem.Spec PyProof.Rows L2
/-- a field stored -/
def putD (f : Str) (d : D) : List (Str × D) → List (Str × D)
  | [] => [(f, d)]
  | (g, x) :: r => if g = f then (g, d) :: r else (g, x) :: putD f d r
section
variable {K : PySem.W.Frag} {H : Hp} {M : MS}
theorem RpF.put {f : Str} {d : D} {v : V} (h : Rp K H M d v) : ∀ {ds : List (Str × D)} {vs : List (Str × V)}, RpF K H M ds vs → RpF K H M (putD f d ds) (putF f v vs)
  | [], vs, r => by
    rw [show vs = [] from r]
    exact ⟨v, [], rfl, h, rfl⟩
  | (g, x) :: ds, vs, r => by
    obtain ⟨y, q, e, h1, h2⟩ := r
    subst e
    by_cases z : g = f
    · subst z
      rw [show putD g d ((g, x) :: ds) = (g, d) :: ds from if_pos rfl, show putF g v ((g, y) :: q) = (g, v) :: q from if_pos rfl]
      exact ⟨v, q, rfl, h, h2⟩
    · rw [show putD f d ((g, x) :: ds) = (g, x) :: putD f d ds from if_neg z, show putF f v ((g, y) :: q) = (g, y) :: putF f v q from if_neg z]
      exact ⟨y, _, rfl, h1, RpF.put h h2⟩
theorem RpF.len : ∀ {ds : List (Str × D)} {vs : List (Str × V)}, RpF K H M ds vs → vs.length = ds.length
  | [], vs, r => by rw [show vs = [] from r]; rfl
  | (g, x) :: ds, vs, ⟨y, q, e, h1, h2⟩ => by rw [e, List.length_cons, List.length_cons, RpF.len h2]
theorem RpF.look {f : Str} {d : D} : ∀ {ds : List (Str × D)} {vs : List (Str × V)}, RpF K H M ds vs → ds.lookup f = some d → ∃ v, vs.lookup f = some v ∧ Rp K H M d v
  | [], _, _, h => by cases h
  | (g, x) :: ds, vs, ⟨y, q, e, h1, h2⟩, h => by
    subst e
    rw [List.lookup_cons] at h ⊢
    cases z : f == g with
    | true => rw [z] at h; cases h; exact ⟨y, rfl, h1⟩
    | false => rw [z] at h; exact RpF.look h2 h
end
section
variable {X : Cx} {W : WX} {ρ ρ' : List SD} {e o : Expr} {dx d : D} {pos p : Pos} {C : Addr} {fs : List (Str × D)} {f x : Str} {rest : List Stmt} {R : Po}
/-- o.f -/
theorem ed_fld (he : ED X ρ o (.obj C fs)) (c : Cls X.K C) (n : NoAttr X.K C f) (l : fs.lookup f = some d) (hb : attributeBase o f X.env (eval o X.env) = eval o X.env := by rfl) : ED X ρ (.Attribute o f pos) d :=
  pe_w (pe_fld he hb) fun σ H Q ⟨H0, M0, E, q⟩ => ⟨H0, M0, E, fun v H' e1 r => by
    obtain ⟨a, dx, vs, rfl, m, h, r2⟩ := r
    obtain ⟨y, l2, r3⟩ := r2.look l
    exact ⟨a, C, dx, vs, y, rfl, h, c, n, l2, q y H' e1 r3⟩⟩
/-- self.f, self owned -/
theorem ed_fldO {p2 : Pos} {pa : Addr} (i : Nat) (hρ : ρ[i]? = some (.own (.me pa C fs))) (hN : X.N[i]? = some x) (hv : Vis X.env.scope x) (c : Cls X.K C) (n : NoAttr X.K C f) (l : fs.lookup f = some d) (hd : (x == ("__debug__" : Str)) = false := by decide) (hcd : (x == ("__classdict__" : Str)) = false := by decide)
    (hb : attributeBase (.Name x p2) f X.env (eval (.Name x p2) X.env) = eval (.Name x p2) X.env := by rfl) : ED X ρ (.Attribute (.Name x p2) f pos) d :=
  pe_w (pe_fld (ed_own i hρ hN hv hd hcd) hb) fun σ H Q ⟨H0, M0, E, q⟩ => ⟨H0, M0, E, fun a ha hO => by
    obtain ⟨_, dx, vs, h, r2⟩ := hO
    obtain ⟨y, l2, r3⟩ := r2.look l
    exact ⟨a, C, dx, vs, y, rfl, h, c, n, l2, q y H (Ex.refl H) r3⟩⟩
/-- self.f = e, self owned -/
theorem sds_fld {p2 pos' : Pos} {pa : Addr} (i : Nat) (hρ : ρ[i]? = some (.own (.me pa C fs))) (he : ED X ρ e d) (hN : X.N[i]? = some x) (hv : Vis X.env.scope x) (c : Cls X.K C) (n : NoAttr X.K C f) (hz : fs.length < 900) (h : SDs X W (ρ.set i (.own (.me pa C (putD f d fs)))) rest R)
    (hd : (x == ("__debug__" : Str)) = false := by decide) (hcd : (x == ("__classdict__" : Str)) = false := by decide) (hs : swapsWith e (some (.Attribute (.Name x p2) f pos')) pos.line X.env = pure false := by rfl) : SDs X W ρ (.Assign [.Attribute (.Name x p2) f pos'] e pos :: rest) R :=
  sds_cons (R1 := fun ρ1 => ρ1 = ρ.set i (.own (.me pa C (putD f d fs)))) (ps_w (ps_fld (ed_own i hρ hN hv hd hcd) he hs) fun Dn σ H ⟨H0, M0, E, q1, _⟩ => ⟨H0, M0, E, fun v H1 e1 r1 => by
    refine ⟨H0, M0, E.ext e1, fun a ha hO => ?_⟩
    obtain ⟨ez, dx, vs, ho, r2⟩ := hO
    subst ez
    have l1 : Le H1 (Mo M0 ρ σ) (upd H1 a (.ins C dx (putF f v vs))) (Mo M0 ρ σ) := fun b o q m => ⟨by
      rw [upd_ne (fun z => m (.inr ⟨i, ⟨_, hρ⟩, by rw [z]; exact ha⟩))]; exact q, m⟩
    exact ⟨a, C, dx, vs, rfl, ho, c, n, by rw [r2.len]; omega, q1 _ _ _ rfl ((E.ext e1).write hρ ha ⟨rfl, dx, _, upd_same, RpF.put (Rp.le l1 _ _ r1) (RpF.le l1 _ _ r2)⟩)⟩⟩) fun _ z => by rw [z]; exact h
end
/-! ### __init__ -/
/-- what an __init__ promises: the fields, or what it raises -/
def spI (K : PySem.W.Frag) (C : Addr) (n : Nat) (S : List D → Res → Prop) : Sp := fun vs H Q E => ∃ Hb M ds r a dx us, vs = V.ref a :: us ∧ Hb a = none ∧ Ex Hb H ∧ H a = some (.ins C dx []) ∧ (∀ b, M b → NT (Hb b)) ∧ Rps K Hb M ds us ∧ ds.length = n ∧ S ds r ∧
  match r with
  | .ok d => ∀ H', Ex Hb H' → OwnAt K H' (fun b => M b ∨ b = a) a d → Q .non H'
  | .er c fs => ∀ cls dd H', Ex Hb H' → RpX K H' M c fs cls dd → E cls dd H'
structure FI (P : Program) (w : World) (K : PySem.W.Frag) (mg : Str → Option Value) (base : Heap) (k : Nat) (x : Str) (C : Addr) (n : Nat) (S : List D → Res → Prop) : Prop where
  g : mg x = some (.ref C)
  ex : ∃ (f : Addr) (fd : FuncData) (ps : List Str), Mk K C f ∧ Binds K fd ps [] ∧ FnOk P w K mg base (L2.CX P w) k f fd ps (spI K C n S)
section
variable {X : Cx} {W : WX} {ρ : List SD} {e : Expr} {es : List Expr} {ds : List D} {pos p : Pos} {C : Addr} {x : Str} {r : Res}
theorem pe_makeS {CX : CXT} {k : Nat} {f : Addr} {fd : FuncData} {ps : List Str} {sp : Sp} {E : L2.St → XK} {t : TA} (M : Mk X.K C f) (F : FnOk X.prog X.w X.K X.mg X.base CX k f fd ps sp) (hr : Room (k + 1) X.A) (hg : Gl X x) (hm : X.mg x = some (.ref C)) (hb : Binds X.K fd ps []) (hx : ∀ σ, PassesAt CX X σ (E σ))
    (ha : PA X (e :: es) t) (hdb : (x == ("__debug__" : Str)) = false := by decide) (he : starEach (e :: es) X.env = (false, eval e X.env) :: starEach es X.env := by rfl) (hpl : (backTo pos (starEach es X.env)).any (·.1) = false := by rfl) :
    PE X (.Call (.Name x p) (e :: es) [] pos) (fun σ H Q => t σ H fun vs H1 => ∀ a dx, H1 a = none → H1 dx = none → dx ≠ a → sp (.ref a :: vs) (upd (upd H1 dx (.own a)) a (.ins C dx [])) (fun v H2 => v = .non ∧ Q (.ref a) H2) (E σ)) := by
  refine ⟨fun pins s σ H Q I h => ?_⟩
  refine wpAny_Call_Name_kw (ld_glob I hg hm ?_ hdb)
  refine PySem.W.callWith_K (h₀ := X.base) I.ok.mod.kin M.kp (thn (ha.run pos pins s σ H _ I h) fun us s1 ⟨vs, H1, I1, r, q⟩ => ⟨I1.kIn, ?_⟩) he hpl
  have hq := q (s1.heap.objs.size + 1) s1.heap.objs.size (I1.hok.fresh (Nat.le_succ _)) (I1.hok.fresh (Nat.le_refl _)) (Nat.ne_of_lt (Nat.lt_succ_self _))
  have I2 := Inv.made (C := C) I1
  have r2 : Vals (V.ref (s1.heap.objs.size + 1) :: vs) (Value.ref (s1.heap.objs.size + 1) :: us) := .cons rfl r
  have hl : (Value.ref (s1.heap.objs.size + 1) :: us ++ []).length = ps.length := by
    rw [List.append_nil, ← r2.length]
    exact F.len _ _ _ _ hq
  have b := hb _ (Value.ref (s1.heap.objs.size + 1) :: us) I2.kIn hl
  rw [List.append_nil] at b
  refine wpAny_call (make_map (f := f) I1.kIn M.makes M.init (beq_iff_eq.mp M.fn) (codeAny_mono (F.run _ X.stack _ _ ⟨Value.ref (s1.heap.objs.size + 1) :: us, []⟩ _ _ _ (E σ) (hr.make C us []) (I2.env0.make C us []) b r2 hq) fun rr s' hq' => ?_))
  cases rr with
  | error e => exact hx σ pins _ _ e s' I2 hq'
  | ok fl =>
    cases fl with
    | ret u =>
      obtain ⟨v, H', I3, rv, ev, q3⟩ := I2.after hq'
      subst ev
      exact ⟨rv, ⟨V.ref _, H', I3, rfl, q3⟩⟩
    | next => exact hq'.elim
    | brk => exact hq'.elim
    | cont => exact hq'.elim
theorem er_make {k n : Nat} {S : List D → Res → Prop} (tk : Takes X W) (F : FI X.prog X.w X.K X.mg X.base k x C n S) (hr : Room (k + 1) X.A) (hg : Gl X x) (ha : EA X ρ (e :: es) ds) (hS : S ds r) (hob : ∀ d, r = .ok d → ∃ fs, d = .obj C fs) (hn : ds.length = n := by rfl)
    (hdb : (x == ("__debug__" : Str)) = false := by decide) (he : starEach (e :: es) X.env = (false, eval e X.env) :: starEach es X.env := by rfl) (hpl : (backTo pos (starEach es X.env)).any (·.1) = false := by rfl) : ER X W ρ (.Call (.Name x p) (e :: es) [] pos) r := by
  obtain ⟨f, fd, ps, h1, h2, h3⟩ := F.ex
  refine pe_w (pe_makeS h1 h3 hr hg F.g h2 (fun σ => passAt tk σ) ha hdb he hpl) fun σ H Q ⟨H0, M0, E, q⟩ => ?_
  refine ⟨H0, M0, E, fun vs H1 e1 r1 a dx na ndx ne => ?_⟩
  have ex1 : Ex H1 (upd (upd H1 dx (.own a)) a (.ins C dx [])) := fun b o hb => by
    rw [upd_ne (ne_of_none hb na), upd_ne (ne_of_none hb ndx)]; exact hb
  refine ⟨H1, Mo M0 ρ σ, ds, r, a, dx, vs, rfl, na, ex1, upd_same, (E.ext e1).domN, r1, hn, hS, ?_⟩
  have ma : ¬ Mo M0 ρ σ a := fun m => (E.ext e1).dom a m na
  cases r with
  | ok d =>
    obtain ⟨fs, rfl⟩ := hob d rfl
    refine fun H' e2 hO => ⟨rfl, q _ H' (e1.trans e2) ?_⟩
    obtain ⟨dx', vs', h, rf⟩ := hO
    exact ⟨a, dx', vs', rfl, ma, h, RpF.le (Le.sub fun b m => .inl m) _ _ rf⟩
  | er c fs => exact fun cls dd H' e2 rx => q cls dd H' (e1.trans e2) rx
end
section
variable {P : Program} {w : World} {K : PySem.W.Frag} {mg : Str → Option Value} {base : Heap}
theorem EnvOk.startI {Hb H : Hp} {M : MS} {N : List Str} {ds : List D} {us : List V} {a C dx : Addr} (na : Hb a = none) (ex0 : Ex Hb H) (ha : H a = some (.ins C dx [])) (dm : ∀ b, M b → NT (Hb b)) (r : Rps K Hb M ds us) (hl : ds.length + 1 ≤ N.length) :
    EnvOk K Hb M (.own (.me a C []) :: (ds.map SD.val ++ List.replicate (N.length - (ds.length + 1)) .no)) (L2.start N (V.ref a :: us)) H := by
  have low : ∀ (i : Nat) d, (ds.map SD.val ++ List.replicate (N.length - (ds.length + 1)) SD.no)[i]? ≠ some (.own d) := fun i d h => by
    rcases Nat.lt_or_ge i ds.length with hi | hi
    · rw [List.getElem?_append_left (by rw [List.length_map]; exact hi), List.getElem?_map] at h
      cases hd : ds[i]? with
      | none => rw [hd] at h; cases h
      | some z => rw [hd] at h; cases h
    · rw [List.getElem?_append_right (by rw [List.length_map]; exact hi), List.getElem?_replicate] at h
      split at h <;> cases h
  have nst : ∀ (i : Nat) μ, (SD.own (.me a C []) :: (ds.map SD.val ++ List.replicate (N.length - (ds.length + 1)) SD.no))[i]? ≠ some (.st μ) := fun i μ h => by
    cases i with
    | zero => cases h
    | succ i =>
      rw [List.getElem?_cons_succ] at h
      rcases Nat.lt_or_ge i ds.length with hi | hi
      · rw [List.getElem?_append_left (by rw [List.length_map]; exact hi), List.getElem?_map] at h
        cases hd : ds[i]? with
        | none => rw [hd] at h; cases h
        | some z => rw [hd] at h; cases h
      · rw [List.getElem?_append_right (by rw [List.length_map]; exact hi), List.getElem?_replicate] at h
        split at h <;> cases h
  have noSt : ∀ b, ¬ Stt (SD.own (.me a C []) :: (ds.map SD.val ++ List.replicate (N.length - (ds.length + 1)) SD.no)) b := fun b ⟨i, μ, _, h, _⟩ => nst i μ h
  have only : ∀ i b, Ow (.own (.me a C []) :: (ds.map SD.val ++ List.replicate (N.length - (ds.length + 1)) SD.no)) (L2.start N (V.ref a :: us)) i b → i = 0 ∧ b = a := fun i b ⟨⟨d, h1⟩, h2⟩ => by
    cases i with
    | zero =>
      have : (L2.start N (V.ref a :: us))[0]? = some (some (V.ref a)) := rfl
      rw [this] at h2; cases h2; exact ⟨rfl, rfl⟩
    | succ i => exact absurd h1 (low i d)
  have w0 : Ow (.own (.me a C []) :: (ds.map SD.val ++ List.replicate (N.length - (ds.length + 1)) SD.no)) (L2.start N (V.ref a :: us)) 0 a := ⟨⟨_, rfl⟩, rfl⟩
  have hle : Le Hb M H (Mo M (.own (.me a C []) :: (ds.map SD.val ++ List.replicate (N.length - (ds.length + 1)) SD.no)) (L2.start N (V.ref a :: us))) := fun b o h m => ⟨ex0 b o h, fun q => by
    rcases q with (q | q) | ⟨i, q⟩
    · exact m q
    · exact noSt b q
    · rw [(only i b q).2, na] at h; cases h⟩
  refine ⟨?_, ex0, dm, fun i b h => by rw [(only i b h).2]; exact na, fun i j b h1 h2 => by rw [(only i b h1).1, (only j b h2).1], fun i d h => ?_, fun i d h => ?_, fun b h => absurd h (noSt b), fun i b _ => noSt b, fun i μ h => absurd h (nst i μ), fun i j μ μ' h => absurd h (nst i μ)⟩
  · unfold L2.start
    rw [List.length_cons, List.length_append, List.length_append, List.length_map, List.length_map, List.length_replicate, List.length_replicate, List.length_cons, r.length]
    omega
  · cases i with
    | zero => cases h
    | succ i =>
      rw [List.getElem?_cons_succ] at h
      rcases Nat.lt_or_ge i ds.length with hi | hi
      · rw [List.getElem?_append_left (by rw [List.length_map]; exact hi), List.getElem?_map] at h
        cases hd : ds[i]? with
        | none => rw [hd] at h; cases h
        | some z =>
          rw [hd] at h; cases h
          obtain ⟨v, h1, h2⟩ := r.get hd
          refine ⟨v, ?_, Rp.le hle _ _ h2⟩
          unfold L2.start
          rw [List.map_cons, List.cons_append, List.getElem?_cons_succ, List.getElem?_append_left (by rw [List.length_map, r.length]; exact hi), List.getElem?_map, h1]; rfl
      · rw [List.getElem?_append_right (by rw [List.length_map]; exact hi), List.getElem?_replicate] at h
        split at h <;> cases h
  · cases i with
    | zero => cases h; exact ⟨a, rfl, rfl, dx, [], ha, rfl⟩
    | succ i => exact absurd h (low i d)
/-- an __init__ keeps its promise, by its body -/
theorem fi_of {x qual : Str} {st : Stmt} {f C : Addr} {fd : FuncData} {N ps : List Str} {self : Str} {k : Nat} {S : List D → Res → Prop} (g : mg x = some (.ref C)) (hM : Mk K C f) (F : Fun K "__init__" qual st f fd) (hb : Binds K fd (self :: ps) []) (sc : FnScope N (self :: ps) (defScope st)) (hlen : ps.length + 1 ≤ N.length)
    (body : ∀ (cdv : Value) (A : Around) (outer : List Env) (s : Shared) (H : Hp) (E : XK) (ds : List D) (r : Res) (a : Addr), Room k (A.deeper (envOfC qual (defScope st) s.heap.objs.size f cdv)) → ds.length = ps.length → S ds r →
      SDs (cxOf (L2.CX P w) P w K mg base N qual (defScope st) f cdv A outer s H E) (fun cls d _ H => E cls d H) (.own (.me a C []) :: (ds.map SD.val ++ List.replicate (N.length - (ds.length + 1)) .no)) (defBody st)
        { nx := fun ρ' => ∃ fs, ρ'[0]? = some (.own (.me a C fs)) ∧ r = .ok (.obj C fs), rt := fun _ _ => False, ex := fun _ c fs => r = .er c fs }) :
    FI P w K mg base (k + 1) x C ps.length S := by
  refine ⟨g, f, fd, self :: ps, hM, hb, F.okX sc (fun vs H Q E h => ?_) (fun cdv A outer s H vs Q E hr h => ?_)⟩
  · obtain ⟨Hb, M, ds, r, a, dx, us, rfl, _, _, _, _, h2, h3, _⟩ := h
    rw [List.length_cons, List.length_cons, h2.length]; exact congrArg (· + 1) h3
  · obtain ⟨Hb, M, ds, r, a, dx, us, rfl, na, ex0, ha, dm, h2, h3, h4, h5⟩ := h
    refine ⟨_, body cdv A outer s H E ds r a hr h3 h4, Hb, M, ?_, ?_, fun _ _ _ _ _ z => z.elim, fun _ _ _ z => z.elim, fun _ _ _ z => z.elim, ?_⟩
    · exact EnvOk.startI na ex0 ha dm h2 (by rw [h3]; exact hlen)
    · intro ρ' σ' H' ⟨fs, hf, hr'⟩ E'
      rw [hr'] at h5
      obtain ⟨a', h6, h7, dx', vs', h8, h9⟩ := E'.own 0 _ hf
      subst h7
      refine h5 H' E'.ex ⟨dx', vs', h8, RpF.le (Le.sub fun b m => ?_) _ _ h9⟩
      rcases m with m | m
      · exact .inl (.inl m)
      · exact .inr ⟨0, ⟨_, hf⟩, by rw [m]; exact h6⟩
    · intro ρ' c fs cls dd σ' H' hr' E' r'
      rw [hr'] at h5
      exact h5 cls dd H' E'.ex r'
end
/-! ### methods, properties -/
theorem RpF.miss {K : PySem.W.Frag} {H : Hp} {M : MS} {f : Str} : ∀ {ds : List (Str × D)} {vs : List (Str × V)}, RpF K H M ds vs → ds.lookup f = none → vs.lookup f = none
  | [], vs, r, _ => by rw [show vs = [] from r]; rfl
  | (g, x) :: ds, vs, ⟨y, q, e, h1, h2⟩, h => by
    subst e
    rw [List.lookup_cons] at h ⊢
    cases z : f == g with
    | true => rw [z] at h; cases h
    | false => rw [z] at h; exact RpF.miss h2 h
/-- a method's promise; its first argument is the instance -/
structure FM (P : Program) (w : World) (K : PySem.W.Frag) (mg : Str → Option Value) (base : Heap) (k : Nat) (C : Addr) (m : Str) (n : Nat) (S : List D → Res → Prop) : Prop where
  ex : ∃ (f : Addr) (fd : FuncData) (ps : List Str), Meth K C m f ∧ Binds K fd ps [] ∧ FnOk P w K mg base (L2.CX P w) k f fd ps (spP K n S)
/-- a property's promise -/
structure FP (P : Program) (w : World) (K : PySem.W.Frag) (mg : Str → Option Value) (base : Heap) (k : Nat) (C : Addr) (m : Str) (S : List D → Res → Prop) : Prop where
  ex : ∃ (p f : Addr) (fd : FuncData) (ps : List Str), PropOf K C m p f ∧ Binds K fd ps [] ∧ FnOk P w K mg base (L2.CX P w) k f fd ps (spP K 1 S)
section
variable {X : Cx} {W : WX} {ρ : List SD} {o e : Expr} {es : List Expr} {ds : List D} {d : D} {pos apos : Pos} {C : Addr} {m : Str} {r : Res} {fs : List (Str × D)}
theorem pe_methE {CX : CXT} {k : Nat} {f : Addr} {fd : FuncData} {ps : List Str} {sp : Sp} {E : L2.St → XK} {ta : TE} {t : TA} {pl : Sem Bool} (he : PE X o ta) (c : Cls X.K C) (hm : Meth X.K C m f) (F : FnOk X.prog X.w X.K X.mg X.base CX k f fd ps sp) (hr : Room k X.A) (hb : Binds X.K fd ps []) (hx : ∀ σ, PassesAt CX X σ (E σ)) (ha : PA X (e :: es) t)
    (hst : starEach (e :: es) X.env = (false, eval e X.env) :: starEach es X.env := by rfl) (hpl : (backTo pos (starEach es X.env)).any (·.1) = false := by rfl)
    (ht : eval (.Call (.Attribute o m apos) (e :: es) [] pos) X.env = (do
      let ov ← eval o X.env
      standAt apos.atName
      let (f, first) ← holding [ov] (getMethod ov m pl)
      callWith pos f first (backTo pos (starEach (e :: es) X.env)) (backToKw pos (keywordEach [] X.env))) := by rfl) :
    PE X (.Call (.Attribute o m apos) (e :: es) [] pos) (fun σ H Q => ta σ H fun x H1 => ∃ a dx fs, x = .ref a ∧ H1 a = some (.ins C dx fs) ∧ fs.lookup m = none ∧ t σ H1 fun vs H2 => sp (.ref a :: vs) H2 Q (E σ)) := by
  refine ⟨fun pins s σ H Q I h => ?_⟩
  refine PySem.W.methodCall_KW (pl := pl) (thn (he.run pins s σ H _ I h) fun u s1 ⟨x, H1, I1, rx, a, dx, fs, ex, ea, l, q⟩ => ?_) ht
  subst ex
  obtain rfl : u = Value.ref a := rx
  refine getmeth_ok I1 ea c hm l ?_
  refine PySem.W.callWith_K (first := [.ref a]) (h₀ := X.base) I.ok.mod.kin hm.kp (thn (ha.run pos pins s1 σ H1 _ I1 q) fun us s2 ⟨vs, H2, I2, r, q2⟩ => ⟨I2.kIn, ?_⟩) hst hpl
  exact run_fnS (us := .ref a :: us) (vs := .ref a :: vs) F hr hb (hx σ) I2 (.cons rfl r) q2
theorem er_meth {k n : Nat} {S : List D → Res → Prop} {pl : Sem Bool} (tk : Takes X W) (ho : ED X ρ o (.obj C fs)) (c : Cls X.K C) (F : FM X.prog X.w X.K X.mg X.base k C m n S) (hr : Room k X.A) (hl : fs.lookup m = none) (ha : EA X ρ (e :: es) ds) (hS : S (.obj C fs :: ds) r) (hn : ds.length + 1 = n := by rfl)
    (hst : starEach (e :: es) X.env = (false, eval e X.env) :: starEach es X.env := by rfl) (hpl : (backTo pos (starEach es X.env)).any (·.1) = false := by rfl)
    (ht : eval (.Call (.Attribute o m apos) (e :: es) [] pos) X.env = (do
      let ov ← eval o X.env
      standAt apos.atName
      let (f, first) ← holding [ov] (getMethod ov m pl)
      callWith pos f first (backTo pos (starEach (e :: es) X.env)) (backToKw pos (keywordEach [] X.env))) := by rfl) : ER X W ρ (.Call (.Attribute o m apos) (e :: es) [] pos) r := by
  obtain ⟨f, fd, ps, h1, h2, h3⟩ := F.ex
  refine pe_w (pe_methE ho c h1 h3 hr h2 (fun σ => passAt tk σ) ha hst hpl ht) fun σ H Q ⟨H0, M0, E, q⟩ => ?_
  refine ⟨H0, M0, E, fun v H1 e1 r1 => ?_⟩
  obtain ⟨a, dx, vs0, e2, ma, h, rf⟩ := r1
  refine ⟨a, dx, vs0, e2, h, rf.miss hl, H0, M0, E.ext e1, fun vs H2 e3 r2 => ?_⟩
  have l12 : Le H1 (Mo M0 ρ σ) H2 (Mo M0 ρ σ) := Le.ex e3
  refine ⟨Mo M0 ρ σ, .obj C fs :: ds, r, ((E.ext e1).ext e3).domN, ⟨.ref a, vs, rfl, Rp.le l12 _ _ ⟨a, dx, vs0, rfl, ma, h, rf⟩, r2⟩, hn, hS, ?_⟩
  cases r with
  | ok d => exact fun v' H3 e4 r3 => q v' H3 ((e1.trans e3).trans e4) r3
  | er c fs => exact fun cls dd H3 e4 r3 => q cls dd H3 ((e1.trans e3).trans e4) r3
theorem ed_prop {k : Nat} {S : List D → Res → Prop} (ho : ED X ρ o (.obj C fs)) (c : Cls X.K C) (F : FP X.prog X.w X.K X.mg X.base k C m S) (hr : Room (k + 1) X.A) (hS : S [.obj C fs] (.ok d)) (hab : attributeBase o m X.env (eval o X.env) = eval o X.env := by rfl) : ED X ρ (.Attribute o m pos) d := by
  obtain ⟨p, f, fd, ps, h1, h2, h3⟩ := F.ex
  refine pe_w (pe_prop (E := E0) ho c h1 h3 hr h2 .nil passL hab) fun σ H Q ⟨H0, M0, E, q⟩ => ?_
  refine ⟨H0, M0, E, fun v H1 e1 r1 => ?_⟩
  obtain ⟨a, dx, vs0, e2, ma, h, rf⟩ := r1
  refine ⟨a, dx, vs0, e2, h, Mo M0 ρ σ, [.obj C fs], .ok d, (E.ext e1).domN, ⟨.ref a, [], rfl, ⟨a, dx, vs0, rfl, ma, h, rf⟩, rfl⟩, rfl, hS, fun v' H3 e4 r3 => q v' H3 (e1.trans e4) r3⟩
end
section
variable {P : Program} {w : World} {K : PySem.W.Frag} {mg : Str → Option Value} {base : Heap}
theorem fm_of {qual m : Str} {st : Stmt} {f C : Addr} {fd : FuncData} {N ps : List Str} {k : Nat} {S : List D → Res → Prop} (hM : Meth K C m f) (F : Fun K m qual st f fd) (hb : Binds K fd ps []) (sc : FnScope N ps (defScope st)) (hlen : ps.length ≤ N.length)
    (body : ∀ (cdv : Value) (A : Around) (outer : List Env) (s : Shared) (H : Hp) (E : XK) (ds : List D) (r : Res), Room k (A.deeper (envOfC qual (defScope st) s.heap.objs.size f cdv)) → ds.length = ps.length → S ds r →
      SDs (cxOf (L2.CX P w) P w K mg base N qual (defScope st) f cdv A outer s H E) (fun cls d _ H => E cls d H) (args N ds) (defBody st) { nx := fun _ => r = .ok .non, rt := fun _ d => r = .ok d, ex := fun _ c fs => r = .er c fs }) :
    FM P w K mg base (k + 1) C m ps.length S := ⟨f, fd, ps, hM, hb, fn_of F sc hlen body⟩
theorem fp_of {qual m : Str} {st : Stmt} {p f C : Addr} {fd : FuncData} {N : List Str} {self : Str} {k : Nat} {S : List D → Res → Prop} (hM : PropOf K C m p f) (F : Fun K m qual st f fd) (hb : Binds K fd [self] []) (sc : FnScope N [self] (defScope st)) (hlen : 1 ≤ N.length)
    (body : ∀ (cdv : Value) (A : Around) (outer : List Env) (s : Shared) (H : Hp) (E : XK) (ds : List D) (r : Res), Room k (A.deeper (envOfC qual (defScope st) s.heap.objs.size f cdv)) → ds.length = 1 → S ds r →
      SDs (cxOf (L2.CX P w) P w K mg base N qual (defScope st) f cdv A outer s H E) (fun cls d _ H => E cls d H) (args N ds) (defBody st) { nx := fun _ => r = .ok .non, rt := fun _ d => r = .ok d, ex := fun _ c fs => r = .er c fs }) :
    FP P w K mg base (k + 1) C m S := ⟨p, f, fd, [self], hM, hb, fn_of F sc hlen body⟩
end
end RW

end
section
/-! small things -/
namespace RW
open PySem PySem.Spec PyProof.Rows L2
theorem nbt {b : Bool} (h : (!b) = true) : b = false := by cases b <;> first | rfl | cases h
theorem nbf {b : Bool} (h : (!b) = false) : b = true := by cases b <;> first | rfl | cases h
theorem boot_all : bootBuiltins "all" = some (.builtin "all") := by decide +kernel
theorem boot_any : bootBuiltins "any" = some (.builtin "any") := by decide +kernel
theorem boot_sum : bootBuiltins "sum" = some (.builtin "sum") := by decide +kernel
end RW

end
section
/-! owned lists: an item stored, an item read -/
namespace RW
open PySem PySem.Spec PyProof.Rows L2
section
variable {X : Cx} {W : WX} {ρ : List SD} {e k : Expr} {d : D} {ds : List D} {pos p p2 : Pos} {x : Str} {rest : List Stmt} {R : Po}
/-- xs[k] = e, xs owned -/
theorem sds_put (i : Nat) {kk : Int} {j : Nat} (hρ : ρ[i]? = some (.own (.lst ds))) (he : ED X ρ e d) (hk : ED X ρ k (.int kk)) (hN : X.N[i]? = some x) (hv : Vis X.env.scope x) (hj : ixN ds.length kk = some j) (h : SDs X W (ρ.set i (.own (.lst (ds.set j d)))) rest R)
    (hd : (x == ("__debug__" : Str)) = false := by decide) (hcd : (x == ("__classdict__" : Str)) = false := by decide)
    (hs : swapsWithSole [.Subscript (.Name x p) k p2] e pos.line X.env = pure false := by rfl) (hw : swappedStores [.Subscript (.Name x p) k p2] e X.env = pure none := by rfl)
    (h1 : (assignEach [.Subscript (.Name x p) k p2] X.env).map (·.2) = [assign (.Subscript (.Name x p) k p2) X.env] := by rfl)
    (ha : ∀ v, assign (.Subscript (.Name x p) k p2) X.env v = (do
      let ov ← holding [v] (eval (.Name x p) X.env)
      let iv ← holding [v, ov] (eval k X.env)
      standAt p2
      holding [v, ov, iv] (setItem ov iv v)
      release [v, ov, iv] []) := by intro _; rfl) : SDs X W ρ (.Assign [.Subscript (.Name x p) k p2] e pos :: rest) R :=
  sds_cons (R1 := fun ρ1 => ρ1 = ρ.set i (.own (.lst (ds.set j d)))) (ps_w (ps_asg he (pg_sub (ed_own i hρ hN hv hd hcd) hk set_list ha) hs hw h1) fun Dn σ H ⟨H0, M0, E, q1, _⟩ => ⟨H0, M0, E, fun v H1 e1 r1 => by
    refine ⟨H0, M0, E.ext e1, fun a hp hO => ⟨H0, M0, E.ext e1, fun iv H2 e2 r2 => ?_⟩⟩
    obtain ⟨xs, ho, rx⟩ := hO
    have E2 := (E.ext e1).ext e2
    have ho2 := e2 _ _ ho
    have l12 : Le H1 (Mo M0 ρ σ) H2 (Mo M0 ρ σ) := Le.ex e2
    refine ⟨a, xs, kk, j, rfl, r2, ho2, by rw [rx.length]; exact hj, q1 _ _ _ rfl (E2.write hρ hp ⟨_, upd_same, ?_⟩)⟩
    have l2 : Le H2 (Mo M0 ρ σ) (upd H2 a (.lst (xs.set j v))) (Mo M0 ρ σ) := fun b o q m => ⟨by
      rw [upd_ne (fun z => m (.inr ⟨i, ⟨_, hρ⟩, by rw [z]; exact hp⟩))]; exact q, m⟩
    exact Rps.le (l12.trans l2) _ _ (Rps.set j rx r1)⟩) fun _ z => by rw [z]; exact h
/-- xs[k], xs owned -/
theorem ed_ixO (i : Nat) {kk : Int} (hρ : ρ[i]? = some (.own (.lst ds))) (hk : ED X ρ k (.int kk)) (hN : X.N[i]? = some x) (hv : Vis X.env.scope x) (h : atI ds kk = some d) (hd : (x == ("__debug__" : Str)) = false := by decide) (hcd : (x == ("__classdict__" : Str)) = false := by decide)
    (hs : PlainIx k := by intro _ _; rfl) : ED X ρ (.Subscript (.Name x p) k pos) d :=
  pe_w (pe_ix ix_list (ed_own i hρ hN hv hd hcd) hk hs) fun σ H Q ⟨H0, M0, E, q⟩ => ⟨H0, M0, E, fun a hp hO => ⟨H0, M0, E, fun iv H2 e2 r2 => by
    obtain ⟨xs, ho, rx⟩ := hO
    have rx2 : Rps X.K H2 (Mo M0 ρ σ) ds xs := Rps.le (Le.ex e2) _ _ rx
    unfold atI at h
    cases hx : ixN ds.length kk with
    | none => rw [hx] at h; cases h
    | some j =>
      rw [hx] at h
      obtain ⟨y, h1, h2⟩ := rx2.get (show ds[j]? = some d from h)
      exact ⟨a, xs, kk, y, rfl, r2, SqL.of (e2 _ _ ho), by unfold atI; rw [rx.length, hx]; exact h1, q y H2 e2 h2⟩⟩⟩
theorem ixN_in {n : Nat} {i : Int} (h : 0 ≤ i ∧ i < n) : ixN n i = some i.toNat := by
  unfold ixN
  rw [if_pos h.1, if_pos h.2]
end
end RW
namespace RW
open PySem PySem.Spec PyProof.Rows L2
/-- a target that is a pair of names, within a target -/
theorem consF_pr {j k : Nat} {ρ ρ' : List SD} {u v : D} {es : List D} {g : List SD → List D → List SD → Prop} (hj : j < ρ.length) (hk : k < ρ.length) (h : g (pr2 ρ j k u v) es ρ') :
    consF (tupF 2 (consF (setF j) [j] (consF (setF k) [k] nilF))) ([j] ++ ([k] ++ [])) g ρ (.tup [u, v] :: es) ρ' :=
  ⟨.tup [u, v], es, _, rfl, pairF hj hk, h, fun i e z => by
    have z : ((ρ.set j (.val u)).set k (.val v))[i]? = some (SD.hot e) := z
    by_cases h1 : i = k
    · subst h1
      rw [List.getElem?_set_self (by rw [List.length_set]; exact hk)] at z; cases e <;> cases z
    · rw [List.getElem?_set_ne (fun q => h1 q.symm)] at z
      by_cases h2 : i = j
      · subst h2
        rw [List.getElem?_set_self hj] at z; cases e <;> cases z
      · rw [List.getElem?_set_ne (fun q => h2 q.symm)] at z
        exact ⟨z, by simp [h1, h2]⟩⟩
end RW
namespace RW
open PySem PySem.Spec PyProof.Rows L2
/-- a loop that leaves at the first thing that is not right -/
theorem loopX_guard {α : Type} (p : α → Bool) (r : Res) : ∀ xs : List α, loopX (fun x (_ : Unit) => if p x = true then none else some r) (fun _ s => s) xs () = if xs.all p = true then .inl () else .inr r
  | [] => rfl
  | x :: xs => by
    rw [loopX_cons, List.all_cons]
    by_cases h : p x = true
    · rw [if_pos h, h, Bool.true_and]; exact loopX_guard p r xs
    · rw [if_neg h]
      have : p x = false := by cases z : p x <;> simp_all
      rw [this]; rfl
theorem guard_in {α : Type} {p : α → Bool} {r : Res} {xs : List α} {u : Unit} (h : loopX (fun x (_ : Unit) => if p x = true then none else some r) (fun _ s => s) xs () = .inl u) : xs.all p = true := by
  rw [loopX_guard] at h
  by_cases z : xs.all p = true
  · exact z
  · rw [if_neg z] at h; cases h
theorem guard_out {α : Type} {p : α → Bool} {r z : Res} {xs : List α} (h : loopX (fun x (_ : Unit) => if p x = true then none else some r) (fun _ s => s) xs () = .inr z) : ¬ xs.all p = true ∧ r = z := by
  rw [loopX_guard] at h
  by_cases q : xs.all p = true
  · rw [if_pos q] at h; cases h
  · rw [if_neg q] at h; exact ⟨q, by cases h; rfl⟩
end RW
namespace RW
open PySem PySem.Spec PyProof.Rows L2
section
variable {X : Cx} {W : WX} {ρ : List SD} {e : Expr} {pos p : Pos} {s1 s2 rest : List Stmt} {R : Po} {r : Res}
/-- if not f(..): where f may raise -/
theorem sds_ifNR (he : ER X W ρ e r) (hbl : ∀ d, r = .ok d → ∃ b, d = .bl b) (h1 : r = .ok (.bl false) → SDs X W ρ s1 { R with nx := fun ρ1 => SDs X W ρ1 rest R }) (h2 : r = .ok (.bl true) → SDs X W ρ s2 { R with nx := fun ρ1 => SDs X W ρ1 rest R }) (her : ∀ c fs, r = .er c fs → R.ex ρ c fs)
    (ht : ∀ whole, isTrue e X.env whole = (do let v ← whole; standAt e.pos; holding [v] (truthy v)) := by intro _; rfl) : SDs X W ρ (.If (.UnaryOp .Not e p) s1 s2 pos :: rest) R :=
  sds_k (ps_w (ps_if (pt_not (pt_val he ht)) (pss_fam (ι := Unit) (p := fun _ => r = .ok (.bl false)) (t := fun _ => tS X.K W ρ { R with nx := fun ρ1 => SDs X W ρ1 rest R }) fun _ hk => h1 hk) (pss_fam (ι := Unit) (p := fun _ => r = .ok (.bl true)) (t := fun _ => tS X.K W ρ { R with nx := fun ρ1 => SDs X W ρ1 rest R }) fun _ hk => h2 hk)) fun Dn σ H ⟨H0, M0, E, q1, q2, q3, q4, q5⟩ => by
    refine ⟨H0, M0, E, ?_⟩
    cases r with
    | er c fs => exact fun cls dd H1 e1 r1 => q5 ρ c fs cls dd σ H1 (her c fs rfl) (E.ext e1) (rpx_sub (fun a m => .inl (.inl m)) r1)
    | ok d =>
      obtain ⟨b, rfl⟩ := hbl d rfl
      intro v H1 e1 r1
      refine ⟨b, r1, ?_⟩
      cases b with
      | false => exact iteT ⟨(), rfl, H0, M0, E.ext e1, q1, q2, q3, q4, q5⟩
      | true => exact iteF ⟨(), rfl, H0, M0, E.ext e1, q1, q2, q3, q4, q5⟩)
end
end RW
namespace RW
open PySem
/-- a statement within a class of the text -/
def inCls (s : Stmt) (j : Nat) : Stmt := match s with
  | .ClassDef _ _ _ b _ _ _ _ _ _ _ => b.getD j (.Pass ⟨0, 0, 0, 0⟩)
  | s => s
end RW

end
section
/-! len of a set comprehension of keys -/
namespace RW
open PySem PySem.Spec PyProof.Rows L2
/-! ### how many differ -/
def nDist {α : Type} [DecidableEq α] (ks : List α) : Nat := (ks.foldl (fun (p : List α × Nat) k => (p.1 ++ [k], if k ∈ p.1 then p.2 else p.2 + 1)) ([], 0)).2
section
variable {α : Type} [DecidableEq α]
theorem nDist_run (ks : List α) : ∀ p : List α × Nat, (ks.foldl (fun (p : List α × Nat) k => (p.1 ++ [k], if k ∈ p.1 then p.2 else p.2 + 1)) p).1 = p.1 ++ ks := by
  induction ks with
  | nil => intro p; rw [List.foldl_nil, List.append_nil]
  | cons k r ih => intro p; rw [List.foldl_cons, ih, List.append_assoc]; rfl
theorem nDist_snoc (ks : List α) (k : α) : nDist (ks ++ [k]) = if k ∈ ks then nDist ks else nDist ks + 1 := by
  unfold nDist
  rw [List.foldl_append, List.foldl_cons, List.foldl_nil, nDist_run]
  rfl
theorem nDist_le : ∀ (n : Nat) (ks : List α), ks.length = n → nDist ks ≤ n ∧ (nDist ks = n ↔ ks.Nodup)
  | 0, ks, h => by
    rw [List.length_eq_zero_iff.mp h]
    exact ⟨Nat.le_refl _, fun _ => List.nodup_nil, fun _ => rfl⟩
  | n + 1, ks, h => by
    obtain ⟨as, a, e⟩ : ∃ as a, ks = as ++ [a] := ⟨ks.dropLast, ks.getLast (fun z => by rw [z] at h; cases h), (List.dropLast_concat_getLast _).symm⟩
    subst e
    rw [List.length_append] at h
    obtain ⟨h1, h2⟩ := nDist_le n as (by simpa using h)
    rw [nDist_snoc]
    have nd : (as ++ [a]).Nodup ↔ as.Nodup ∧ a ∉ as := by
      rw [List.nodup_append]
      constructor
      · rintro ⟨q1, _, q3⟩
        exact ⟨q1, fun z => q3 a z a (List.mem_singleton.mpr rfl) rfl⟩
      · rintro ⟨q1, q2⟩
        exact ⟨q1, by simp, fun x hx y hy e => by rw [List.mem_singleton.mp hy] at e; exact q2 (e ▸ hx)⟩
    by_cases z : a ∈ as
    · rw [if_pos z]
      exact ⟨by omega, fun q => by omega, fun q => absurd z (nd.mp q).2⟩
    · rw [if_neg z]
      exact ⟨by omega, fun q => nd.mpr ⟨h2.mp (by omega), z⟩, fun q => by rw [h2.mpr (nd.mp q).1]⟩
theorem nDist_lt (ks : List α) : nDist ks < ks.length ↔ ¬ ks.Nodup := by
  obtain ⟨h1, h2⟩ := nDist_le _ ks rfl
  constructor
  · intro h q; rw [h2.mpr q] at h; omega
  · intro h
    rcases Nat.lt_or_ge (nDist ks) ks.length with z | z
    · exact z
    · exact absurd (h2.mp (by omega)) h
end
/-! ### the comprehension's block -/
section
variable {X : Cx} {pins : List (Addr × Obj)} {σ : L2.St} {H : Hp} {s : Shared}
abbrev setObj (X : Cx) : Obj := { cls := .type "set", dict := none, data := .set #[] 0 (.fresh 0 0 (!X.w.params.followText "set-order")) }
abbrev keys0 : Key → Bool := fun _ => false
abbrev plusK (S : Key → Bool) (k : Key) : Key → Bool := fun j => S j || decide (j = k)
abbrev plusN (S : Key → Bool) (n : Nat) (k : Key) : Nat := if S k = true then n else n + 1
theorem fresh_set (X : Cx) (h : Heap) : (h.push (setObj X)).SetOf (mixKind X.prog X.w) h.objs.size keys0 0 := by
  refine ⟨setObj X, #[], 0, .fresh 0 0 (!X.w.params.followText "set-order"), Heap.get?_push_size h rfl, ⟨rfl, rfl, rfl⟩, rfl, ?_, ?_, by decide, rfl, rfl⟩
  · intro e z; cases (show e ∈ [] from z)
  · intro k; exact ⟨fun z => (nomatch z), fun ⟨_, z, _⟩ => (nomatch (show _ ∈ [] from z))⟩
/-- one key more -/
theorem sadd_run {E : Value → Shared → Prop} {D : Addr} {S : Key → Bool} {n : Nat} {k : Key} {z : Value} {Q : Value → Shared → Prop} (I : Inv X pins σ H s) (hD : H D = some (SetK X.prog X.w D S n)) (room : n + 1 < scanBound) (hz : RelV (kV k) z)
    (q : ∀ s', Inv X pins σ (upd H D (SetK X.prog X.w D (plusK S k) (plusN S n k))) s' → Q .none s') : wpAny (model X.prog X.w) X.A (call (.builtin "set.add") [.ref D, z]) Q E s :=
  call_set_add (kV_is hz) (key_scan hz) (setK_get I hD) room fun h' sb new =>
    have ⟨o, _, _, _, ho, _⟩ := new
    q _ (I.write (e := D) (t' := s.toks + 1) (by rw [hD]; trivial) (.inl rfl) (fun b u nb e => (sb.2 b nb).trans e) ⟨o, ho⟩ (setK_new new))
end
end RW
namespace RW
open PySem PySem.Spec PyProof.Rows L2
section
variable {X : Cx} {pins : List (Addr × Obj)} {σ : L2.St} {H : Hp} {s : Shared} {elt tg iter : Expr} {scope : Scope} {own : List (Str × Nat)} {pos : Pos}
/-- the iterator's own objects, seen from within the block -/
theorem fp_within {s0 : Shared} {H0 H' : Hp} {ce : Env} {fp : List Addr} {σ' : L2.St} {s' : Shared} (I : Inv (X.blk s0 H0 scope ce fp) [] σ' H' s') (n : ∀ b ∈ fp, H' b = none) : ∀ b ∈ fp, FpOk (X.blk s0 H0 scope ce fp) [] H' b := by
  intro b hb
  have p1 := I.ok.exf b hb
  refine ⟨n b hb, p1.1, I.ok.exfs b hb, Or.inl hb, p1.2, ?_⟩
  intro p hp
  exact nomatch hp
/-- {elt for tg in iter}: what stands while it is made is told by P, by the items done -/
def tSck (X : Cx) (wi : TI) (g : TG) (te : TE) (vs : List Nat) : TE := fun σ H Q =>
  wi σ H fun J H1 => ∀ D, H1 D = none → ∃ (m : Nat) (P : Nat → Hp → Prop), P 0 (upd H1 D (SetK X.prog X.w D keys0 0)) ∧ (∀ H2, P m H2 → J.stop m H2 ∧ Q (.ref D) H2) ∧
    ∀ i H2, i < m → P i H2 → J.go i H2 ∧ ∀ x H3, J.yld i H2 x H3 → g x (wipe σ vs) H3 fun σ4 H4 => wipe σ4 vs = wipe σ vs ∧
      te σ4 H4 fun y H5 => ∃ (k : Key) (S : Key → Bool) (n : Nat), y = kV k ∧ H5 D = some (SetK X.prog X.w D S n) ∧ n + 1 < scanBound ∧ P (i + 1) (upd H5 D (SetK X.prog X.w D (plusK S k) (plusN S n k)))
theorem pe_sck {wi : TI} {g : TG} {te : TE} (hc : X.calm = true) (hN : X.N.Nodup) (hi : PI X tg iter wi) (ok : BlkOk X.N X.env.scope scope own)
    (hg : ∀ s H C cl fp, PG (X.blk s H scope (compEnvC scope cl C X.env) fp) tg g)
    (he : ∀ s H C cl fp, PE (X.blk s H scope (compEnvC scope cl C X.env) fp) elt te)
    (hs : ∀ x, foldedSetIterable iter X.env x = pure x := by intro _; rfl) :
    PE X (.SetComp elt [⟨tg, iter, [], 0⟩] scope pos) (tSck X wi g te (own.map (·.2))) := by
  constructor
  intro pins s σ H Q I h
  rw [PpSet.eval_SetComp]
  have clo : closureFor scope X.env = pure (cloFrom X.env.cells scope.names []) := closure_ok fun y hy e => I.ok.has _ (ok.free y hy e)
  have loc : ∀ x ∈ scope.names, x.2 = .local → scope.names.lookup x.1 = some .local := fun x hx e => e ▸ ok.uniq x hx
  refine wpAny_comprehension_free (use := none) rfl hs clo ok.kind loc ?_
  refine thn (hi.run pins s σ H _ I h) fun v s1 h1 => thn h1 fun itv s2 h2 => ?_
  obtain ⟨it, fp, tn, J, H2, rfl, I2, T, t0, f2, q⟩ := h2
  refine PpSet.newSet_ok (newEnv_comp ?_)
  -- D: the set, C: the block's names
  let D : Addr := s2.heap.objs.size
  let s3 : Shared := { s2 with heap := s2.heap.push (setObj X) }
  let H3 : Hp := upd H2 D (SetK X.prog X.w D keys0 0)
  let C : Addr := s3.heap.objs.size
  let cl := cellsFrom (C + 1) scope.names (cloFrom X.env.cells scope.names [])
  let ce : Env := compEnvC scope cl C X.env
  let Y : Cx := X.blk s3 H3 scope ce fp
  obtain ⟨m, P, p0, pEnd, pTurn⟩ := q D (I2.hok.fresh (Nat.le_refl _))
  have keep3 : ∀ b u, s2.heap.get? b = some u → s3.heap.get? b = some u := fun b u e => Heap.get?_push_of_some _ e
  have I3 : Inv X pins σ H3 s3 := I2.laid (t' := s2.toks) keep3 (Nat.le_refl _) (setK_new (fresh_set X s2.heap))
  have young : ∀ b ∈ fp, b < D := fun b hb => Heap.lt_size (T.obj 0 _ t0 b hb).choose_spec.1
  have f3 : ∀ b ∈ fp, FpOk X pins H3 b ∧ b < s3.heap.objs.size := by
    intro b hb
    have lt := young b hb
    refine And.intro ⟨?_, (f2 b hb).2⟩ ?_
    · exact (upd_ne (Nat.ne_of_lt lt)).trans (f2 b hb).1
    · show b < (s2.heap.push (setObj X)).objs.size
      rw [Heap.size_push]; exact Nat.lt_succ_of_lt lt
  have I4 : Inv Y [] (wipe σ (own.map (·.2))) H3 { s3 with heap := pushCells (s3.heap.push { cls := .type "dict", data := .dict #[] }) scope.names } := block_start I3 ok hN f3
  have t4 : tn 0 (pushCells (s3.heap.push { cls := .type "dict", data := .dict #[] }) scope.names) := T.keep 0 _ _ t0 fun b _ u e => pushCells_keeps _ _ _ _ (Heap.get?_push_of_some _ (keep3 b u e))
  have G := hg s3 H3 C cl fp
  have Ee := he s3 H3 C cl fp
  -- between two turns
  let B : Nat → Shared → Prop := fun n t => ∃ i H', n + i = m ∧ Inv Y [] (wipe σ (own.map (·.2))) H' t ∧ tn i t.heap ∧ (∀ b ∈ fp, H' b = none) ∧ P i H'
  have b0 : B m { s3 with heap := pushCells (s3.heap.push { cls := .type "dict", data := .dict #[] }) scope.names } := ⟨0, H3, rfl, I4, t4, fun b hb => (f3 b hb).1.1, p0⟩
  have all : codeAny (model X.prog X.w) X.A (.compLoop (.SetComp elt [⟨tg, iter, [], 0⟩] scope pos) 0 (.ref it) (.ref D) ce) (compPost (model X.prog X.w) X.A X.xe none (EP X pins σ Q) (.ref D) C) { s3 with heap := pushCells (s3.heap.push { cls := .type "dict", data := .dict #[] }) scope.names } := by
    refine PpSet.compLoopS_any B (fun n t hB => ?_) m b0
    obtain ⟨i, H5, hm, I5, t5, n5, p5⟩ := hB
    have fy := fp_within I5 n5
    cases n with
    | zero =>
      have hm : i = m := by omega
      subst hm
      obtain ⟨stop, hQ⟩ := pEnd H5 p5
      refine thnF (T.done Y rfl rfl rfl hc i [] t _ H5 (fun _ _ => False) I5 fy t5 stop) ?_
      rintro r t6 ⟨rfl, I6⟩
      obtain ⟨mm, ns, _⟩ := I6.loc
      have Ib : Inv X pins σ H5 t6 := I3.call' (ch := fp) I6.os I6.base I6.hok I6.bare fun b hb => by
        obtain ⟨z1, z2, z3, z4, z5, z6⟩ := (f3 b hb).1
        exact ⟨z4, z2, z5, z6⟩
      obtain ⟨g0, g1, g2, g3, g4, g5⟩ := I3.fpOk (b := C) (Nat.le_refl _) (show H5 C = none from I6.free)
      exact ⟨mm, ns, fun h' sb => ⟨.ref D, H5, Ib.turned (t' := t6.toks) (fun b u nb e => (sb.2 b nb).trans e) g0 g1 g3 g4 g5, rfl, hQ⟩⟩
    | succ n =>
      obtain ⟨go, step⟩ := pTurn i H5 (by omega) p5
      refine thnF (T.item Y rfl rfl rfl hc i [] t _ H5 (fun _ _ => False) I5 fy t5 go) ?_
      rintro r t6 ⟨u, rfl, h6⟩
      refine thnF h6 ?_
      rintro _ t7 ⟨x, H7, I7, rx, y7, t7', n7⟩
      have Ip := I7.pinned (fp_within I7 n7) (T.obj _ _ t7')
      refine thnF (G.run _ t7 _ H7 x u _ Ip rx (step x H7 y7)) ?_
      rintro _ t8 ⟨σ8, H8, I8, w8, q8⟩
      refine thnF ((pts_nil (X := Y)).run _ t8 σ8 H8 (fun b H9 => b = true ∧ H9 = H8) I8 ⟨rfl, rfl⟩) ?_
      rintro _ t9 ⟨H9, I9, rfl, rfl⟩
      refine thnF (Ee.run _ t9 σ8 _ _ I9 q8) ?_
      rintro z t10 ⟨yv, H10, I10, rz, k, S, c, rfl, hD10, room, p10⟩
      refine sadd_run (X := Y) I10 hD10 room rz fun t11 I11 => ⟨n, Nat.lt_succ_self n, i + 1, _, by omega, ?_, ?_, ?_, p10⟩
      · refine I11.unpinned.weak ?_ fun j v e => ?_
        · rw [← w8, wipe_length]
        · exact (wipe_some (w8 ▸ e)).1
      · exact T.keep _ _ _ t7' fun b hb o e => (I11.pin (b, o) (List.mem_append_right _ (List.mem_append_right _ (mem_pinsAt hb e)))).1
      · intro b hb
        obtain ⟨o, e, _⟩ := T.obj _ _ t7' b hb
        exact (I11.pin (b, o) (List.mem_append_right _ (List.mem_append_right _ (mem_pinsAt hb e)))).2.1
  exact PpSet.codeAny_compStart_set all (T.self X.A 0 _ _ _ t4 all)
end
end RW
namespace RW
open PySem PySem.Spec PyProof.Rows L2
def memB {α : Type} [DecidableEq α] (k : α) (ks : List α) : Bool := decide (k ∈ ks)
theorem memB_snoc {α : Type} [DecidableEq α] (k j : α) (ks : List α) : memB k (ks ++ [j]) = (memB k ks || decide (k = j)) := by
  unfold memB
  rw [← Bool.decide_or]
  exact decide_eq_decide.mpr (by rw [List.mem_append, List.mem_singleton])
theorem nDist_snocB {α : Type} [DecidableEq α] (ks : List α) (k : α) : nDist (ks ++ [k]) = if memB k ks = true then nDist ks else nDist ks + 1 := by
  rw [nDist_snoc]
  unfold memB
  by_cases z : k ∈ ks
  · rw [if_pos z, if_pos (decide_eq_true z)]
  · rw [if_neg z, if_neg (fun q => z (of_decide_eq_true q))]
def keyD : Key → D
  | .inl i => .int i
  | .inr s => .str s
theorem keyD_v {K : PySem.W.Frag} {H : Hp} {M : MS} : ∀ {k : Key} {v : V}, Rp K H M (keyD k) v → v = kV k
  | .inl _, _, h => h
  | .inr _, _, h => h
section
variable {X : Cx} {ρ : List SD} {elt tg iter : Expr} {scope : Scope} {own : List (Str × Nat)} {pos p p2 : Pos}
theorem take_one {α : Type} {xs : List α} {i : Nat} (h : i < xs.length) : xs.take (i + 1) = xs.take i ++ [xs[i]] := by
  rw [List.take_add_one, List.getElem?_eq_getElem h]; rfl
theorem sck_ways {α : Type} {xs : List α} {enc : α → D} {f : List SD → D → List SD → Prop} {js : List Nat} (hjs : ∀ i ∈ js, i ∈ own.map (·.2)) (r2 : α → List SD) (g : α → Key)
    (hf : ∀ x ∈ xs, f (wipeR ρ (own.map (·.2))) (enc x) (r2 x)) (hz : xs.length < 4000) {σ : L2.St} {H : Hp} {Q : VK}
    (h : ∃ H0 M0, EnvOk X.K H0 M0 ρ σ H ∧ ∀ D H' S, Ex H H' → H' D = some (SetK X.prog X.w D S (nDist (xs.map g))) → Q (.ref D) H') :
    tSck X (tW X.K ρ (xs.map enc)) (tG X.K f js) (fun σ H Q => ∃ x : α, x ∈ xs ∧ tE X.K (r2 x) (keyD (g x)) σ H Q) (own.map (·.2)) σ H Q := by
  obtain ⟨H0, M0, E, q⟩ := h
  refine ⟨H0, M0, E, fun J Ha Hb ea eb Eb it D hD => ?_⟩
  have nD : Hb D = none := Eb.ex.back hD
  refine ⟨xs.length, fun i G => EnvOk X.K Hb M0 ρ σ G ∧ Ex Ha G ∧ ∃ S, G D = some (SetK X.prog X.w D S (nDist ((xs.take i).map g))) ∧ ∀ k : Key, S k = memB k ((xs.take i).map g),
    ⟨Eb.ext (Ex.new hD), Ex.new hD, _, upd_same, fun k => rfl⟩, fun G ⟨E1, e1, S, hS, _⟩ => ⟨?_, ?_⟩, fun i G hi ⟨E1, e1, S, hS, hm⟩ => ?_⟩
  · exact (it xs.length G E1.ex.n).1 (List.length_map ..).symm
  · rw [List.take_length] at hS
    exact q D G S (ea.trans e1) hS
  · have mem : xs[i] ∈ xs := List.getElem_mem hi
    obtain ⟨go, yl⟩ := (it i G E1.ex.n).2 (enc xs[i]) (by rw [List.getElem?_map, List.getElem?_eq_getElem hi]; rfl)
    refine ⟨go, fun x G1 hy => ?_⟩
    obtain ⟨e2, r2x⟩ := yl x G1 hy
    have Em := (Eb.extM hD e1 hS).wipe (own.map (·.2))
    have base : Le Hb M0 G (Mo (fun a => M0 a ∨ a = D) (wipeR ρ (own.map (·.2))) (wipe σ (own.map (·.2)))) := by
      refine Le.trans (M' := fun a => M0 a ∨ a = D) (fun a o ha m => ⟨?_, ?_⟩) Em.base_le
      · rw [upd_ne (ne_of_none ha nD)]; exact ha
      · rintro (z | z)
        · exact m z
        · rw [z, nD] at ha; cases ha
    have E3 := (Eb.extM hD (e1.trans e2) (e2 _ _ hS)).wipe (own.map (·.2))
    refine ⟨_, _, _, _, _, hf _ mem, E3, r2x _ base Em.dom, fun σ4 E4 l4 k4 => ⟨wipe_same l4 k4 hjs, xs[i], mem, _, _, E4, fun v G2 e3 rv => ?_⟩⟩
    have sz : (xs.take i).length < 4000 := by rw [List.length_take]; omega
    refine ⟨g xs[i], S, _, keyD_v rv, e3 _ _ (e2 _ _ hS), ?_, ?_⟩
    · have := (nDist_le _ ((xs.take i).map g) rfl).1
      rw [List.length_map] at this
      exact Nat.lt_of_le_of_lt (show _ ≤ 4000 by omega) (by decide)
    · have ex : Ex Ha (upd G2 D (SetK X.prog X.w D (plusK S (g xs[i])) (plusN S (nDist ((xs.take i).map g)) (g xs[i])))) := fun a u h => by
        rw [upd_ne (ne_of_none h hD)]; exact e3 _ _ (e2 _ _ (e1 _ _ h))
      refine ⟨Eb.ext ex, ex, plusK S (g xs[i]), ?_, fun k => ?_⟩
      · rw [upd_same, take_one hi, List.map_append, List.map_cons, List.map_nil, nDist_snocB]
        unfold plusN
        rw [hm]
      · show (S k || decide (k = g xs[i])) = _
        rw [hm, take_one hi, List.map_append, List.map_cons, List.map_nil, memB_snoc]
/-- len({elt for tg in iter}) -/
theorem call_len_setK : CallR X (.builtin "len") (fun xs H Q => ∃ a S n, xs = [V.ref a] ∧ H a = some (SetK X.prog X.w a S n) ∧ Q (.int n) H) := by
  intro pins s σ H xs us Q I r h
  obtain ⟨a, S, n, rfl, ha, q⟩ := h
  obtain ⟨u, rfl, ru⟩ := vals1 r
  cases ru
  obtain ⟨o, es, ep, t, ho, hex, hd, _, _, hb, hf, hn⟩ := setK_get I ha
  refine call_len_set ho hex hd hf (by have : (4096 : Nat) = scanBound := rfl; omega) ?_
  exact ⟨.int n, H, I.tok _, ⟨_, by rw [hn]⟩, q⟩
end
end RW
namespace RW
open PySem PySem.Spec PyProof.Rows L2
section
variable {X : Cx} {ρ : List SD} {elt tg iter : Expr} {scope : Scope} {pos p pos2 tpos : Pos} {x : Str}
def tSet (X : Cx) (ρ : List SD) (n : Nat) : TE := fun σ H Q => ∃ H0 M0, EnvOk X.K H0 M0 ρ σ H ∧ ∀ D H' S, Ex H H' → H' D = some (SetK X.prog X.w D S n) → Q (.ref D) H'
/-- len of a set -/
theorem ed_lenS {e : Expr} {n : Nat} (he : PE X e (tSet X ρ n)) (hg : Gl X "len") (hm : X.mg "len" = none) (hs : starEach [e] X.env = [(false, eval e X.env)] := by rfl) : ED X ρ (.Call (.Name "len" p) [e] [] pos2) (.int n) :=
  pe_w (pe_callB call_len_setK hg hm PySem.boot_len (pa_cons he pa_nil (by rw [hs]; rfl)) (by decide) (by decide) (by rw [hs]; rfl)) fun σ H Q ⟨H0, M0, E, q⟩ => ⟨H0, M0, E, fun D H' S e1 hS => ⟨D, S, n, rfl, hS, q _ H' e1 rfl⟩⟩
theorem es_sc1 {α : Type} {xs : List α} {enc : α → D} {y : Str} (j : Nat) {g : α → Key} (hc : X.calm = true) (hN : X.N.Nodup) (hi : WD X ρ (.Name x tpos) iter (xs.map enc)) (ok : BlkOk X.N X.env.scope scope [(y, j)])
    (hg : ∀ s H C cl fp, TD (X.blk s H scope (compEnvC scope cl C X.env) fp) (.Name x tpos) (setF j) [j]) (hl : j < ρ.length)
    (he : ∀ s H C cl fp, ∀ a ∈ xs, ED (X.blk s H scope (compEnvC scope cl C X.env) fp) (ρ.set j (.val (enc a))) elt (keyD (g a)))
    (hz : xs.length < 4000) (hs : ∀ x, foldedSetIterable iter X.env x = pure x := by intro _; rfl) :
    PE X (.SetComp elt [⟨.Name x tpos, iter, [], 0⟩] scope pos) (tSet X ρ (nDist (xs.map g))) :=
  pe_w (pe_sck hc hN hi ok (g := tG X.K (setF j) [j]) hg (te := fun σ H Q => ∃ a : α, a ∈ xs ∧ tE X.K (ρ.set j (.val (enc a))) (keyD (g a)) σ H Q) (fun s H C cl fp => pe_fam (he s H C cl fp)) hs)
    fun σ H Q h => sck_ways (own := [(y, j)]) (fun i hi => hi) _ g (fun a _ => ⟨by show j < (ρ.set j .no).length; rw [List.length_set]; exact hl, by show _ = (ρ.set j .no).set j _; rw [set_set']⟩) hz h
theorem es_sc2 {α : Type} {xs : List α} {u v : α → D} {y z : Str} (j k : Nat) {g : α → Key} (hc : X.calm = true) (hN : X.N.Nodup) (hi : WD X ρ tg iter (xs.map fun x => .tup [u x, v x])) (ok : BlkOk X.N X.env.scope scope [(y, j), (z, k)])
    (hg : ∀ s H C cl fp, TD (X.blk s H scope (compEnvC scope cl C X.env) fp) tg (tupF 2 (consF (setF j) [j] (consF (setF k) [k] nilF))) ([j] ++ ([k] ++ []))) (hjk : j ≠ k) (hl : j < ρ.length) (hl2 : k < ρ.length)
    (he : ∀ s H C cl fp, ∀ a ∈ xs, ED (X.blk s H scope (compEnvC scope cl C X.env) fp) (pr2 ρ j k (u a) (v a)) elt (keyD (g a)))
    (hz : xs.length < 4000) (hs : ∀ x, foldedSetIterable iter X.env x = pure x := by intro _; rfl) :
    PE X (.SetComp elt [⟨tg, iter, [], 0⟩] scope pos) (tSet X ρ (nDist (xs.map g))) :=
  pe_w (pe_sck hc hN hi ok (g := tG X.K _ _) hg (te := fun σ H Q => ∃ a : α, a ∈ xs ∧ tE X.K (pr2 ρ j k (u a) (v a)) (keyD (g a)) σ H Q) (fun s H C cl fp => pe_fam (he s H C cl fp)) hs)
    fun σ H Q h => sck_ways (own := [(y, j), (z, k)]) (fun i hi => hi) _ g (fun a _ => by
      rw [← pr2_wipe hjk]
      exact pairF (by show j < ((ρ.set k .no).set j .no).length; rw [List.length_set, List.length_set]; exact hl) (by show k < ((ρ.set k .no).set j .no).length; rw [List.length_set, List.length_set]; exact hl2)) hz h
end
end RW
namespace RW
open PySem PySem.Spec PyProof.Rows L2
theorem nodup_inr {α : Type} {F : α → Str} : ∀ {xs : List α}, (xs.map fun a => (Sum.inr (F a) : L2.Key)).Nodup ↔ (xs.map F).Nodup
  | [] => ⟨fun _ => List.nodup_nil, fun _ => List.nodup_nil⟩
  | x :: r => by
    rw [List.map_cons, List.map_cons, List.nodup_cons, List.nodup_cons, nodup_inr (xs := r)]
    have : (Sum.inr (F x) : L2.Key) ∈ (r.map fun a => (Sum.inr (F a) : L2.Key)) ↔ F x ∈ r.map F := by
      constructor
      · intro h
        obtain ⟨a, h1, h2⟩ := List.mem_map.mp h
        exact List.mem_map.mpr ⟨a, h1, Sum.inr.inj h2⟩
      · intro h
        obtain ⟨a, h1, h2⟩ := List.mem_map.mp h
        exact List.mem_map.mpr ⟨a, h1, by rw [h2]⟩
    rw [this]
theorem dist_keys {α : Type} {F : α → Str} {xs : List α} : (decide (((nDist (xs.map fun a => (Sum.inr (F a) : L2.Key)) : Nat) : Int) < (xs.length : Int)) = true → ¬ (xs.map F).Nodup) ∧ (decide (((nDist (xs.map fun a => (Sum.inr (F a) : L2.Key)) : Nat) : Int) < (xs.length : Int)) = false → (xs.map F).Nodup) := by
  have h := nDist_lt (xs.map fun a => (Sum.inr (F a) : L2.Key))
  rw [List.length_map, nodup_inr] at h
  constructor
  · intro q
    exact h.mp (by have := of_decide_eq_true q; omega)
  · intro q
    have q := of_decide_eq_false q
    exact Classical.byContradiction fun z => q (by have := h.mpr z; omega)
end RW

end
section
/-! enumerate and zip over lists and tuples, in any mixture -/
namespace RW
open PySem PySem.Spec PyProof.Rows L2
/-! ### a list (false) or a tuple (true) -/
def SqK (t : Bool) (K : PySem.W.Frag) (H : Hp) (a : Addr) (xs : List V) : Prop := if t = true then SqT K H a xs else SqL K H a xs
def HsK (t : Bool) (h : Heap) (a : Addr) (its : Array Value) : Prop := if t = true then h.IsTuple a its else h.IsList a its
def ItK (t : Bool) (h : Heap) (it a : Addr) (i : Nat) : Prop := if t = true then h.IsTupleIter it a i else h.IsListIter it a i
def seqName (t : Bool) : String := if t = true then "tuple" else "list"
def itName (t : Bool) : String := if t = true then "tuple_iterator" else "list_iterator"
theorem HsK.cls {t : Bool} {h : Heap} {a : Addr} {its : Array Value} (x : HsK t h a its) : ∃ o, h.get? a = some o ∧ o.cls = .type (seqName t) := by
  cases t with
  | true => obtain ⟨o, e, c, _⟩ := x; exact ⟨o, e, c⟩
  | false => obtain ⟨o, e, c, _⟩ := x; exact ⟨o, e, c⟩
theorem ItK.cls {t : Bool} {h : Heap} {it a : Addr} {i : Nat} (x : ItK t h it a i) : ∃ o, h.get? it = some o ∧ o.cls = .type (itName t) ∧ ∀ v, o.data ≠ .cell v := by
  cases t with
  | true => obtain ⟨o, e, c, d⟩ := x; exact ⟨o, e, c, fun v z => by rw [d] at z; cases z⟩
  | false => obtain ⟨o, e, c, d⟩ := x; exact ⟨o, e, c, fun v z => by rw [d] at z; cases z⟩
theorem ItK.at {t : Bool} {h h' : Heap} {it a : Addr} {i : Nat} (x : ItK t h it a i) (k : ∀ o, h.get? it = some o → h'.get? it = some o) : ItK t h' it a i := by
  cases t with
  | true => exact Heap.IsTupleIter.at x k
  | false => exact Heap.IsListIter.at x k
theorem apart_cls {h : Heap} {a b : Addr} {o u : Obj} {m n : String} (e : h.get? a = some o) (f : h.get? b = some u) (c : o.cls = .type m) (d : u.cls = .type n) (ne : m ≠ n) : a ≠ b := by
  intro z
  rw [z, f] at e
  cases e
  rw [c] at d
  exact ne (Value.type.inj d)
theorem it_seq {t u : Bool} {h : Heap} {it a b : Addr} {i : Nat} {its : Array Value} (x : ItK t h it a i) (y : HsK u h b its) : b ≠ it := by
  obtain ⟨o, e, c, _⟩ := x.cls
  obtain ⟨o2, e2, c2⟩ := y.cls
  exact apart_cls e2 e c2 c (by cases t <;> cases u <;> decide)
theorem drawsK {prog : Program} {w : World} {A : Around} (hh : A.handled = none) (t : Bool) (it a : Addr) (ne : a ≠ it) (its : Array Value) :
    Draws prog w A it [it, a] its.size (fun i v => its[i]? = some v) (fun i h => ItK t h it a i ∧ HsK t h a its) := by
  cases t with
  | true => exact Draws.tuple hh it a ne its
  | false => exact Draws.list hh it a ne its
section
variable {X : Cx} {pins : List (Addr × Obj)} {σ : L2.St} {H : Hp} {s : Shared}
theorem sq_here {t : Bool} {a : Addr} {xs : List V} (I : Inv X pins σ H s) (q : SqK t X.K H a xs) : ∃ its : List Value, Vals xs its ∧ HsK t s.heap a its.toArray := by
  cases t with
  | true => obtain ⟨its, r, p, _⟩ := I.tuple q; exact ⟨its, r, p⟩
  | false => obtain ⟨its, r, p, _⟩ := I.list q; exact ⟨its, r, p.isList⟩
theorem sq_one {t : Bool} {a : Addr} {xs ys : List V} (I : Inv X pins σ H s) (q : SqK t X.K H a xs) (q' : SqK t X.K H a ys) : xs = ys := by
  cases t with
  | true => exact I.tuple_inj q q'
  | false => exact I.list_inj q q'
end
def itObj (t : Bool) (a : Addr) : Obj := { cls := .type (itName t), data := .fields #[.ref a, .int 0 0] }
theorem beginsK (t : Bool) (a : Addr) (its : Array Value) : Begins (.ref a) (itObj t a) (fun h => HsK t h a its) := by
  cases t with
  | true => exact begins_tuple a its
  | false => exact begins_list a its
theorem it_new {t : Bool} {h : Heap} {it a : Addr} (e : h.get? it = some (itObj t a)) : ItK t h it a 0 := by
  cases t with
  | true => exact ⟨_, e, rfl, rfl⟩
  | false => exact ⟨_, e, rfl, rfl⟩
/-- a pair laid while the walker's own objects turned -/
theorem pair_laid {X : Cx} {pins : List (Addr × Obj)} {σ : L2.St} {H : Hp} {s : Shared} {h' : Heap} {tk : Nat} {ch : List Addr} {T : Addr} {x y : V} {u v : Value} (I : Inv X pins σ H s) (k : ∀ b o, b ∉ ch → s.heap.get? b = some o → h'.get? b = some o)
    (hf : ∀ b ∈ ch, FpOk X pins H b) (hT : s.heap.objs.size ≤ T) (rx : RelV x u) (ry : RelV y v) (ht : h'.IsTuple T #[u, v]) : Inv X pins σ (upd H T (.tup [x, y])) { s with heap := h', toks := tk } := by
  obtain ⟨o, e, c, n, d⟩ := ht
  exact I.turnedNew k hf hT ⟨show 2 ≤ sizeLine by decide, [u, v], .cons rx (.cons ry .nil), o, e, c, n, d⟩
theorem val_at {xs : List V} {us : List Value} {i : Nat} {x : V} {u : Value} (r : Vals xs us) (hx : xs[i]? = some x) (hu : us.toArray[i]? = some u) : RelV x u := by
  obtain ⟨z, hz, rz⟩ := r.get hx
  rw [List.getElem?_toArray, hz] at hu
  cases hu
  exact rz
/-! ### enumerate -/
def IteK (t : Bool) (K : PySem.W.Frag) (a : Addr) : It where
  go i H := ∃ xs x, SqK t K H a xs ∧ xs[i]? = some x
  yld i H v H' := ∃ T x, v = .ref T ∧ H T = none ∧ H' = upd H T (.tup [.int (i : Nat), x]) ∧ ∀ xs, SqK t K H a xs → xs[i]? = some x
  stop i H := ∃ xs, SqK t K H a xs ∧ xs.length = i
theorem turn_enumK {P : Program} {w : World} {K : PySem.W.Frag} {elts : List Expr} {kk : Nat} {tpos : Pos} (t : Bool) (a e it : Addr) :
    Turn P w K (.Tuple elts kk tpos) (IteK t K a) [e, it] e (fun i h => (∃ old, IsEnum h e it (0 + (i : Int)) old) ∧ ItK t h it a i) where
  mem := List.mem_cons_self
  obj := by
    rintro i h ⟨⟨old, he⟩, hi⟩ b hb
    rcases List.mem_cons.mp hb with rfl | hb
    · exact ⟨_, he, fun v z => nomatch z⟩
    · rw [List.mem_singleton.mp hb]
      obtain ⟨o, q, _, d⟩ := hi.cls
      exact ⟨o, q, d⟩
  keep := by
    rintro i h h' ⟨⟨old, he⟩, hi⟩ k
    exact ⟨⟨old, k e List.mem_cons_self _ he⟩, hi.at fun o q => k it (by simp) o q⟩
  item := by
    intro X hP hw hK hc i pins s σ H E I hf st hg
    subst hP; subst hw; subst hK
    obtain ⟨he, hi⟩ := st
    obtain ⟨xs, x, q, hx⟩ := hg
    obtain ⟨its, rv, hs⟩ := sq_here I q
    have ea : e ≠ it := by
      obtain ⟨old, he⟩ := he
      obtain ⟨o, e2, c, _⟩ := hi.cls
      exact apart_cls he e2 rfl c (by cases t <;> decide)
    have eb : e ≠ a := by
      obtain ⟨old, he⟩ := he
      obtain ⟨o, e2, c⟩ := hs.cls
      exact apart_cls he e2 rfl c (by cases t <;> decide)
    have W := WalksT.enumFrom 0 (drawsK (prog := X.prog) (w := X.w) (A := X.A.in1) (I.ok.hd hc) t it a (it_seq hi hs) its.toArray) e ea (by simp [ea, eb]) (by simp)
    have lt : i < its.toArray.size := by
      rw [List.size_toArray, ← rv.length]
      exact (List.getElem?_eq_some_iff.mp hx).1
    refine W.item i s _ E lt ⟨he, hi, hs⟩ fun T vals h1 tk hp hT ht hm k1 => ⟨_, rfl, ?_⟩
    refine W.go elts kk tpos i T _ _ E hm fun h2 st2 k2 => ?_
    obtain ⟨tt, u, hu, rfl⟩ := hp
    have ht2 : h2.IsTuple T #[.int (0 + (i : Int)) tt, u] := by
      obtain ⟨o, e1, r⟩ := ht
      exact ⟨o, k2 T o (W.apart i T h1 hm) e1, r⟩
    have rx : RelV x u := val_at rv hx hu
    have ri : RelV (.int (i : Nat)) (.int (0 + (i : Int)) tt) := ⟨tt, by rw [Int.zero_add]⟩
    have I2 := pair_laid (tk := tk) I (fun b o nb e1 => k2 b o nb (k1 b o nb e1)) hf hT ri rx ht2
    refine ⟨.ref T, _, I2, rfl, ⟨T, x, rfl, I.hok.fresh hT, rfl, fun ys hy => by rw [sq_one I hy q]; exact hx⟩, ⟨st2.1, st2.2.1⟩, fun b hb => ?_⟩
    have ne : b ≠ T := fun z => W.apart i T h1 hm (z ▸ hb)
    rw [upd_ne ne]
    exact (hf b hb).1
  done := by
    intro X hP hw hK hc i pins s σ H E I hf st hg
    subst hP; subst hw; subst hK
    obtain ⟨he, hi⟩ := st
    obtain ⟨xs, q, hx⟩ := hg
    obtain ⟨its, rv, hs⟩ := sq_here I q
    have ea : e ≠ it := by
      obtain ⟨old, he⟩ := he
      obtain ⟨o, e2, c, _⟩ := hi.cls
      exact apart_cls he e2 rfl c (by cases t <;> decide)
    have eb : e ≠ a := by
      obtain ⟨old, he⟩ := he
      obtain ⟨o, e2, c⟩ := hs.cls
      exact apart_cls he e2 rfl c (by cases t <;> decide)
    have W := WalksT.enumFrom 0 (drawsK (prog := X.prog) (w := X.w) (A := X.A.in1) (I.ok.hd hc) t it a (it_seq hi hs) its.toArray) e ea (by simp [ea, eb]) (by simp)
    have n : i = its.toArray.size := by rw [List.size_toArray, ← rv.length]; exact hx.symm
    subst n
    exact W.done s _ E ⟨he, hi, hs⟩ fun h' tk k => ⟨rfl, I.turnedL (t' := tk) (ch := [e, it]) k hf⟩
  self := by
    rintro A i s Q E ⟨⟨old, he⟩, _⟩ h
    exact wpAny_pyIter_enum he h

/-- enumerate(v): two new objects, v's iterator and the enumerate itself -/
abbrev enumObj (it : Addr) : Obj := { cls := .type "enumerate", data := .fields #[.none, .bool false, .ref it, rawInt 0, .none, .none] }
theorem enum1_meets {v : Value} {o : Obj} {H : Heap → Prop} (B : Begins v o H) : Meets (Builtin.«enumerate.__new__» ⟨[.type "enumerate", v], []⟩)
    (fun _ R s => H s.heap ∧ R (.ok (.ret (.ref (s.heap.push o).objs.size))) { s with heap := (s.heap.push o).push (enumObj s.heap.objs.size) }) := by
  refine .of_wp fun prog w A R s hs => ?_
  cases s with
  | mk hp g d tk os =>
    have walk : ∀ {A' : Around} {E : Value → Shared → Prop} {Q : Value → Shared → Prop}, Q (.ref hp.objs.size) ⟨hp.push o, g, d, tk, os⟩ → wpAny (model prog w) A' (pyIter v) Q E ⟨hp, g, d, tk, os⟩ := fun q => B.iter prog w _ _ ⟨hp, g, d, tk, os⟩ _ hs.1 q
    have sb := sub_enumerate
    wp_walk using walk
    refine wpAny_stack_any fun st => wpAny_pure ?_
    split
    case h_1 =>
      rename_i c _ _ _ _ _
      cases (c == Value.type "enumerate") <;> (wp_walk using walk; exact ⟨_, rfl, hs.2⟩)
    all_goals (wp_walk using walk; exact ⟨_, rfl, hs.2⟩)
theorem enum1_call {prog : Program} {w : World} {A : Around} {E : Value → Shared → Prop} {s : Shared} {v : Value} {o : Obj} {H : Heap → Prop} {Q : Value → Shared → Prop} (B : Begins v o H) (hs : H s.heap)
    (q : ∀ h', IsEnum h' (s.heap.objs.size + 1) s.heap.objs.size 0 .none → h'.get? s.heap.objs.size = some o → (∀ b u, s.heap.get? b = some u → h'.get? b = some u) → Q (.ref (s.heap.objs.size + 1)) { s with heap := h' }) :
    wpAny (model prog w) A (call (.type "enumerate") [v]) Q E s := by
  have sz : (s.heap.push o).objs.size = s.heap.objs.size + 1 := Heap.size_push ..
  have own : ((s.heap.push o).push (enumObj s.heap.objs.size)).get? (s.heap.objs.size + 1) = some (enumObj s.heap.objs.size) := sz ▸ Heap.get?_push_size (s.heap.push o) rfl
  refine callType_new F.called_enumerate (by decide) (F.typeCall_enumerate_1 v) (F.newCall_enumerate_1 v) (fun x => F.args_object_init_2 x v) F.entry_enumerate_new (enum1_meets B) ⟨hs, ?_⟩
  show _ ∧ _
  rw [sz]
  refine ⟨⟨_, own, rfl⟩, q _ own ?_ ?_⟩
  · exact Heap.get?_push_of_some _ (Heap.get?_push_size _ B.free)
  · intro b u e
    exact Heap.get?_push_of_some _ (Heap.get?_push_of_some _ e)
def iEnumK (K : PySem.W.Frag) (ta : TA) : TI := fun σ H R => ta σ H fun vs H1 => ∃ t a xs, vs = [.ref a] ∧ SqK t K H1 a xs ∧ R (IteK t K a) H1
theorem pi_enumK {X : Cx} {e : Expr} {ta : TA} {p pos tpos : Pos} {elts : List Expr} {kk : Nat} (hg : Gl X "enumerate") (hm : X.mg "enumerate" = none) (ha : PA X [e] ta) (hs : starEach [e] X.env = [(false, eval e X.env)] := by rfl) :
    PI X (.Tuple elts kk tpos) (.Call (.Name "enumerate" p) [e] [] pos) (iEnumK X.K ta) := by
  constructor
  intro pins s σ H R I h
  refine Call_ (ld_blt I hg hm boot_enumerate (PyProof.Rows.callWith_type1 (thn (ha.run pos pins s σ H _ I h) ?_) hs rfl))
  rintro us s1 ⟨vs, H1, I1, r1, t, a, xs, rfl, q, hR⟩
  cases r1 with
  | cons r rr =>
    cases rr; cases r
    obtain ⟨its, rv, hq⟩ := sq_here I1 q
    refine enum1_call (beginsK t a its.toArray) hq fun h' he hi hk => wpAny_pyIter_enum he ?_
    have fr : ∀ b ∈ [s1.heap.objs.size + 1, s1.heap.objs.size], FpOk X pins H1 b := by
      intro b hb
      have le : s1.heap.objs.size ≤ b := by
        rcases List.mem_cons.mp hb with z | z
        · rw [z]; exact Nat.le_succ _
        · rw [List.mem_singleton.mp z]; exact Nat.le_refl _
      exact I1.fpOk le (I1.hok.fresh le)
    exact ⟨s1.heap.objs.size + 1, _, _, _, H1, rfl, I1.kept (t' := s1.toks) hk, turn_enumK t a (s1.heap.objs.size + 1) s1.heap.objs.size, ⟨⟨.none, he⟩, it_new hi⟩, fr, hR⟩
end RW
namespace RW
open PySem PySem.Spec PyProof.Rows L2
/-! ### zip -/
def ItzK (t u : Bool) (K : PySem.W.Frag) (a b : Addr) : It where
  go i H := ∃ xs ys x y, SqK t K H a xs ∧ SqK u K H b ys ∧ xs[i]? = some x ∧ ys[i]? = some y
  yld i H v H' := ∃ T x y, v = .ref T ∧ H T = none ∧ H' = upd H T (.tup [x, y]) ∧ (∀ xs, SqK t K H a xs → xs[i]? = some x) ∧ ∀ ys, SqK u K H b ys → ys[i]? = some y
  stop i H := ∃ xs ys, SqK t K H a xs ∧ SqK u K H b ys ∧ min xs.length ys.length = i
abbrev ZipSt (t u : Bool) (a b z TI TO i1 i2 : Addr) (i : Nat) (h : Heap) : Prop := IsZip h z TI TO .none ∧ IsTupOf2 h TI (.ref i1) (.ref i2) ∧ (∃ a1 a2, IsTupOf2 h TO a1 a2) ∧ ItK t h i1 a i ∧ ItK u h i2 b i
theorem turn_zipK {P : Program} {w : World} {K : PySem.W.Frag} {elts : List Expr} {kk : Nat} {tpos : Pos} (t u : Bool) {a b z TI TO i1 i2 : Addr} (S : ZipSep2 z TI TO i1 i2 [i1, a] [i2, b]) :
    Turn P w K (.Tuple elts kk tpos) (ItzK t u K a b) [z, TI, TO, i1, i2] z (ZipSt t u a b z TI TO i1 i2) where
  mem := List.mem_cons_self
  obj := by
    rintro i h ⟨hz, hTI, ⟨a1, a2, hTO⟩, h1, h2⟩ c hc
    simp only [List.mem_cons, List.not_mem_nil, or_false] at hc
    rcases hc with rfl | rfl | rfl | rfl | rfl
    · exact ⟨_, hz, fun v q => nomatch q⟩
    · exact ⟨_, hTI, fun v q => nomatch q⟩
    · exact ⟨_, hTO, fun v q => nomatch q⟩
    · obtain ⟨o, q, _, d⟩ := h1.cls; exact ⟨o, q, d⟩
    · obtain ⟨o, q, _, d⟩ := h2.cls; exact ⟨o, q, d⟩
  keep := by
    rintro i h h' ⟨hz, hTI, ⟨a1, a2, hTO⟩, h1, h2⟩ k
    exact ⟨k z (by simp) _ hz, k TI (by simp) _ hTI, ⟨a1, a2, k TO (by simp) _ hTO⟩, h1.at fun o q => k i1 (by simp) o q, h2.at fun o q => k i2 (by simp) o q⟩
  item := by
    intro X hP hw hK hc i pins s σ H E I hf st hg
    subst hP; subst hw; subst hK
    obtain ⟨hz, hTI, hTO, h1, h2⟩ := st
    obtain ⟨xs, ys, x, y, q1, q2, hx, hy⟩ := hg
    obtain ⟨us, ru, hs1⟩ := sq_here I q1
    obtain ⟨vs, rv, hs2⟩ := sq_here I q2
    have hh : X.A.in1.handled = none := I.ok.hd hc
    have W := WalksT.zipD2 S (drawsK (prog := X.prog) (w := X.w) hh t i1 a (it_seq h1 hs1) us.toArray) (drawsK (prog := X.prog) (w := X.w) hh u i2 b (it_seq h2 hs2) vs.toArray)
    have lt : i < min us.toArray.size vs.toArray.size := by
      have e1 := (List.getElem?_eq_some_iff.mp hx).1
      have e2 := (List.getElem?_eq_some_iff.mp hy).1
      rw [List.size_toArray, List.size_toArray, ← ru.length, ← rv.length]
      omega
    refine W.item i s _ E lt ⟨hz, hTI, hTO, ⟨h1, hs1⟩, ⟨h2, hs2⟩⟩ fun T vals g1 tk hp hT ht hm k1 => ⟨_, rfl, ?_⟩
    refine W.go elts kk tpos i T _ _ E hm fun g2 st2 k2 => ?_
    obtain ⟨m, n, hm1, hn1, rfl⟩ := hp
    have sub : ∀ c, c ∉ [z, TI, TO, i1, i2] → c ∉ [z, TO, i1, i2] := fun c nc q => nc (by
      simp only [List.mem_cons, List.not_mem_nil, or_false] at q ⊢
      rcases q with q | q | q | q <;> simp [q])
    have ht2 : g2.IsTuple T #[m, n] := by
      obtain ⟨o, e1, r⟩ := ht
      exact ⟨o, k2 T o (W.apart i T g1 hm) e1, r⟩
    have I2 := pair_laid (tk := tk) I (fun c o nc e1 => k2 c o (sub c nc) (k1 c o (sub c nc) e1)) hf hT (val_at ru hx hm1) (val_at rv hy hn1) ht2
    refine ⟨.ref T, _, I2, rfl, ⟨T, x, y, rfl, I.hok.fresh hT, rfl, fun l hl => by rw [sq_one I hl q1]; exact hx, fun l hl => by rw [sq_one I hl q2]; exact hy⟩, ⟨st2.1, st2.2.1, st2.2.2.1, st2.2.2.2.1.1, st2.2.2.2.2.1⟩, fun c hcm => ?_⟩
    have old : c < s.heap.objs.size := by
      simp only [List.mem_cons, List.not_mem_nil, or_false] at hcm
      obtain ⟨a1, a2, hTO⟩ := hTO
      rcases hcm with rfl | rfl | rfl | rfl | rfl
      · exact Heap.lt_size hz
      · exact Heap.lt_size hTI
      · exact Heap.lt_size hTO
      · obtain ⟨o, e1, _⟩ := h1.cls; exact Heap.lt_size e1
      · obtain ⟨o, e1, _⟩ := h2.cls; exact Heap.lt_size e1
    rw [upd_ne (Nat.ne_of_lt (Nat.lt_of_lt_of_le old hT))]
    exact (hf c hcm).1
  done := by
    intro X hP hw hK hc i pins s σ H E I hf st hg
    subst hP; subst hw; subst hK
    obtain ⟨hz, hTI, hTO, h1, h2⟩ := st
    obtain ⟨xs, ys, q1, q2, hn⟩ := hg
    obtain ⟨us, ru, hs1⟩ := sq_here I q1
    obtain ⟨vs, rv, hs2⟩ := sq_here I q2
    have hh : X.A.in1.handled = none := I.ok.hd hc
    have W := WalksT.zipD2 S (drawsK (prog := X.prog) (w := X.w) hh t i1 a (it_seq h1 hs1) us.toArray) (drawsK (prog := X.prog) (w := X.w) hh u i2 b (it_seq h2 hs2) vs.toArray)
    have n : i = min us.toArray.size vs.toArray.size := by rw [List.size_toArray, List.size_toArray, ← ru.length, ← rv.length]; exact hn.symm
    subst n
    refine W.done s _ E ⟨hz, hTI, hTO, ⟨h1, hs1⟩, ⟨h2, hs2⟩⟩ fun h' tk k => ⟨rfl, I.turnedL (t' := tk) (ch := [z, TI, TO, i1, i2]) (fun c o nc e => k c o (fun q => nc ?_) e) hf⟩
    simp only [List.mem_cons, List.not_mem_nil, or_false] at q ⊢
    rcases q with q | q | q | q <;> simp [q]
  self := by
    intro A i s Q E st h
    exact wpAny_pyIter_zip st.1 h
def iZipK (K : PySem.W.Frag) (ta : TA) : TI := fun σ H R => ta σ H fun vs H1 => ∃ t u a b xs ys, vs = [.ref a, .ref b] ∧ SqK t K H1 a xs ∧ SqK u K H1 b ys ∧ R (ItzK t u K a b) H1
theorem pi_zipK {X : Cx} {e e2 : Expr} {ta : TA} {p pos tpos : Pos} {elts : List Expr} {kk : Nat} (hg : Gl X "zip") (hm : X.mg "zip" = none) (ha : PA X [e, e2] ta)
    (hs : starEach [e, e2] X.env = (false, eval e X.env) :: starEach [e2] X.env := by rfl) (hpl : (backTo pos (starEach [e2] X.env)).any (·.1) = false := by rfl) :
    PI X (.Tuple elts kk tpos) (.Call (.Name "zip" p) [e, e2] [] pos) (iZipK X.K ta) := by
  constructor
  intro pins s σ H R I h
  refine Call_ (ld_blt I hg hm PyProof.Rows.boot_zip (PyProof.Rows.callWith_type1 (thn (ha.run pos pins s σ H _ I h) ?_) hs hpl))
  rintro us s1 ⟨vs, H1, I1, r1, t, u, a, b, xs, ys, rfl, q1, q2, hR⟩
  cases r1 with
  | cons r rr => cases rr with
    | cons r' rr =>
      cases rr; cases r; cases r'
      obtain ⟨is, ru, hs1⟩ := sq_here I1 q1
      obtain ⟨js, rv, hs2⟩ := sq_here I1 q2
      have la : a < s1.heap.objs.size := by obtain ⟨o, e1, _⟩ := hs1.cls; exact Heap.lt_size e1
      have lb : b < s1.heap.objs.size := by obtain ⟨o, e1, _⟩ := hs2.cls; exact Heap.lt_size e1
      refine zip_begins2 (beginsK t a is.toArray) (beginsK u b js.toArray) hs1 hs2 fun h' hz hTI hTO h1 h2 hsz hk => wpAny_pyIter_zip hz ?_
      have fr : ∀ c ∈ [s1.heap.objs.size + 4, s1.heap.objs.size + 2, s1.heap.objs.size + 3, s1.heap.objs.size, s1.heap.objs.size + 1], FpOk X pins H1 c := by
        intro c hc
        have le : s1.heap.objs.size ≤ c := by
          simp only [List.mem_cons, List.not_mem_nil, or_false] at hc
          rcases hc with rfl | rfl | rfl | rfl | rfl
          · exact Nat.le_add_right _ _
          · exact Nat.le_add_right _ _
          · exact Nat.le_add_right _ _
          · exact Nat.le_refl _
          · exact Nat.le_add_right _ _
        exact I1.fpOk le (I1.hok.fresh le)
      exact ⟨s1.heap.objs.size + 4, _, _, _, H1, rfl, I1.kept (t' := s1.toks) hk, turn_zipK t u (zip_sep2 (fp1 := [a]) (fp2 := [b]) (fun c hc => List.mem_singleton.mp hc ▸ la) (fun c hc => List.mem_singleton.mp hc ▸ lb)),
        ⟨hz, hTI, ⟨_, _, hTO⟩, it_new h1, it_new h2⟩, fr, hR⟩
/-! ### data -/
/-- a list (false) or a tuple (true) of data -/
def sqD (t : Bool) (ds : List D) : D := if t = true then .tup ds else .lst ds
theorem sqD_rp {K : PySem.W.Frag} {H H1 : Hp} {M M0 : MS} {t : Bool} {ds : List D} {v : V} (r : Rp K H M (sqD t ds) v) (l : Le H M H1 M0) : ∃ a xs, v = .ref a ∧ SqK t K H a xs ∧ Rps K H M ds xs ∧ ∀ H2, ExN M0 H1 H2 → SqK t K H2 a xs := by
  cases t with
  | true =>
    obtain ⟨a, xs, e, ta, rx⟩ := r
    exact ⟨a, xs, e, ta.sq, rx, fun H2 e2 => ta.ex l e2⟩
  | false =>
    obtain ⟨a, xs, e, m, ho, rx⟩ := r
    exact ⟨a, xs, e, SqL.of ho, rx, fun H2 e2 => SqL.of (e2 _ _ (l _ _ ho m).1 (l _ _ ho m).2)⟩
section
variable {X : Cx} {ρ : List SD} {e e2 : Expr} {p pos tpos : Pos} {elts : List Expr} {kk : Nat}
def numbered : Nat → List D → List D
  | _, [] => []
  | n, d :: ds => .tup [.int (n : Int), d] :: numbered (n + 1) ds
theorem numbered_get : ∀ {ds : List D} {n i : Nat}, (numbered n ds)[i]? = ds[i]?.map fun d => .tup [.int ((n + i : Nat) : Int), d]
  | [], _, _ => by simp [numbered]
  | d :: ds, n, 0 => by simp [numbered]
  | d :: ds, n, i + 1 => by
    rw [numbered, List.getElem?_cons_succ, List.getElem?_cons_succ, numbered_get]
    rw [show n + 1 + i = n + (i + 1) by omega]
theorem numbered_len : ∀ {ds : List D} {n : Nat}, (numbered n ds).length = ds.length
  | [], _ => rfl
  | d :: ds, n => by rw [numbered, List.length_cons, List.length_cons, numbered_len]
theorem wd_enum {t : Bool} {ds : List D} (h : ED X ρ e (sqD t ds)) (hg : Gl X "enumerate") (hm : X.mg "enumerate" = none) (hs : starEach [e] X.env = (false, eval e X.env) :: starEach [] X.env := by rfl) :
    WD X ρ (.Tuple elts kk tpos) (.Call (.Name "enumerate" p) [e] [] pos) (numbered 0 ds) :=
  pi_w (pi_enumK hg hm (ea_cons h ea_nil hs) (by rw [hs]; rfl)) fun σ H R ⟨H0, M0, E, q⟩ => ⟨H0, M0, E, fun vs H' e1 r => by
    obtain ⟨H1, ex, E1, l⟩ := (E.ext e1).fixed
    obtain ⟨x, r, rfl, h1, h2⟩ := r
    cases h2
    obtain ⟨a, xs, rfl, sq, rx, later⟩ := sqD_rp h1 l
    refine ⟨t, a, xs, rfl, sq, q _ _ H1 e1 ex E1 fun i H2 e2 => ⟨fun hi => ⟨xs, later H2 e2, ?_⟩, fun d hd => ?_⟩⟩
    · rw [rx.length, hi, numbered_len]
    · rw [numbered_get] at hd
      cases hq : ds[i]? with
      | none => rw [hq] at hd; cases hd
      | some d0 =>
        rw [hq] at hd; cases hd
        obtain ⟨y, g1, k1⟩ := rx.get hq
        refine ⟨⟨xs, y, later H2 e2, g1⟩, fun v H3 ⟨T, z, hv, nT, hH, f1⟩ => ?_⟩
        have e3 := f1 _ (later H2 e2)
        rw [g1] at e3; cases e3
        subst hv; subst hH
        refine ⟨Ex.new nT, fun M lm dm => Rp.pair dm nT ?_ (Rp.le (l.trans lm) _ _ k1)⟩
        rw [Nat.zero_add]; rfl⟩
theorem wd_zip {t u : Bool} {ds es : List D} (h : ED X ρ e (sqD t ds)) (h' : ED X ρ e2 (sqD u es)) (hg : Gl X "zip") (hm : X.mg "zip" = none)
    (hs : starEach [e, e2] X.env = (false, eval e X.env) :: starEach [e2] X.env := by rfl) (hs2 : starEach [e2] X.env = (false, eval e2 X.env) :: starEach [] X.env := by rfl) (hpl : (backTo pos (starEach [e2] X.env)).any (·.1) = false := by rfl) :
    WD X ρ (.Tuple elts kk tpos) (.Call (.Name "zip" p) [e, e2] [] pos) (pairs ds es) :=
  pi_w (pi_zipK hg hm (ea_cons h (ea_cons h' ea_nil hs2) hs) hs hpl) fun σ H R ⟨H0, M0, E, q⟩ => ⟨H0, M0, E, fun vs H' e1 r => by
    obtain ⟨H1, ex, E1, l⟩ := (E.ext e1).fixed
    obtain ⟨x, r, rfl, h1, x2, r2, rfl, h2, h3⟩ := r
    cases h3
    obtain ⟨a, xs, rfl, sq1, rx, la⟩ := sqD_rp h1 l
    obtain ⟨b, ys, rfl, sq2, ry, lb⟩ := sqD_rp h2 l
    refine ⟨t, u, a, b, xs, ys, rfl, sq1, sq2, q _ _ H1 e1 ex E1 fun i H2 e2 => ⟨fun hi => ⟨xs, ys, la H2 e2, lb H2 e2, ?_⟩, fun d hd => ?_⟩⟩
    · rw [hi, rx.length, ry.length]
      unfold pairs
      rw [List.length_zipWith]
    · obtain ⟨da, db, ha, hb, rfl⟩ := zipWith_get hd
      obtain ⟨y1, g1, k1⟩ := rx.get ha
      obtain ⟨y2, g2, k2⟩ := ry.get hb
      refine ⟨⟨xs, ys, y1, y2, la H2 e2, lb H2 e2, g1, g2⟩, fun v H3 ⟨T, z1, z2, hv, nT, hH, f1, f2⟩ => ?_⟩
      have e3 := f1 _ (la H2 e2)
      have e4 := f2 _ (lb H2 e2)
      rw [g1] at e3; cases e3
      rw [g2] at e4; cases e4
      subst hv; subst hH
      exact ⟨Ex.new nT, fun M lm dm => Rp.pair dm nT (Rp.le (l.trans lm) _ _ k1) (Rp.le (l.trans lm) _ _ k2)⟩⟩
/-! typed -/
def enumL {α : Type} (xs : List α) : List (Int × α) := (rng 0 xs.length).zip xs
theorem rng_succ (lo : Int) (k : Nat) : rng lo (k + 1) = lo :: rng (lo + 1) k := by
  unfold rng
  rw [List.range_succ_eq_map, List.map_cons, List.map_map]
  congr 1
  · show lo + ((0 : Nat) : Int) = lo; omega
  · refine List.map_congr_left fun i _ => ?_
    show lo + ((i + 1 : Nat) : Int) = lo + 1 + (i : Int); omega
theorem numbered_map {α : Type} (f : α → D) : ∀ (xs : List α) (n : Nat), numbered n (xs.map f) = ((rng (n : Int) xs.length).zip xs).map fun q => .tup [.int q.1, f q.2]
  | [], n => rfl
  | x :: r, n => by
    rw [List.map_cons, numbered, numbered_map f r (n + 1), List.length_cons, rng_succ, List.zip_cons_cons, List.map_cons]
    rw [show ((n + 1 : Nat) : Int) = (n : Int) + 1 by omega]
theorem wd_enumT {α : Type} {f : α → D} {xs : List α} (h : ED X ρ e (.tup (xs.map f))) (hg : Gl X "enumerate") (hm : X.mg "enumerate" = none) (hs : starEach [e] X.env = (false, eval e X.env) :: starEach [] X.env := by rfl) :
    WD X ρ (.Tuple elts kk tpos) (.Call (.Name "enumerate" p) [e] [] pos) ((enumL xs).map fun q => .tup [.int q.1, f q.2]) := (show numbered 0 (xs.map f) = (enumL xs).map (fun q => .tup [.int q.1, f q.2]) from numbered_map f xs 0) ▸ wd_enum (t := true) h hg hm hs
theorem wd_enumLs {α : Type} {f : α → D} {xs : List α} (h : ED X ρ e (.lst (xs.map f))) (hg : Gl X "enumerate") (hm : X.mg "enumerate" = none) (hs : starEach [e] X.env = (false, eval e X.env) :: starEach [] X.env := by rfl) :
    WD X ρ (.Tuple elts kk tpos) (.Call (.Name "enumerate" p) [e] [] pos) ((enumL xs).map fun q => .tup [.int q.1, f q.2]) := (show numbered 0 (xs.map f) = (enumL xs).map (fun q => .tup [.int q.1, f q.2]) from numbered_map f xs 0) ▸ wd_enum (t := false) h hg hm hs
section
variable {α β : Type} {f : α → D} {g : β → D} {xs : List α} {ys : List β} 
theorem wd_zipTL (h : ED X ρ e (.tup (xs.map f))) (h' : ED X ρ e2 (.lst (ys.map g))) (hg : Gl X "zip") (hm : X.mg "zip" = none)
    (hs : starEach [e, e2] X.env = (false, eval e X.env) :: starEach [e2] X.env := by rfl) (hs2 : starEach [e2] X.env = (false, eval e2 X.env) :: starEach [] X.env := by rfl) (hpl : (backTo pos (starEach [e2] X.env)).any (·.1) = false := by rfl) :
    WD X ρ (.Tuple elts kk tpos) (.Call (.Name "zip" p) [e, e2] [] pos) ((xs.zip ys).map fun q => .tup [f q.1, g q.2]) := pairs_zip f g xs ys ▸ wd_zip (t := true) (u := false) h h' hg hm hs hs2 hpl
theorem wd_zipLT (h : ED X ρ e (.lst (xs.map f))) (h' : ED X ρ e2 (.tup (ys.map g))) (hg : Gl X "zip") (hm : X.mg "zip" = none)
    (hs : starEach [e, e2] X.env = (false, eval e X.env) :: starEach [e2] X.env := by rfl) (hs2 : starEach [e2] X.env = (false, eval e2 X.env) :: starEach [] X.env := by rfl) (hpl : (backTo pos (starEach [e2] X.env)).any (·.1) = false := by rfl) :
    WD X ρ (.Tuple elts kk tpos) (.Call (.Name "zip" p) [e, e2] [] pos) ((xs.zip ys).map fun q => .tup [f q.1, g q.2]) := pairs_zip f g xs ys ▸ wd_zip (t := false) (u := true) h h' hg hm hs hs2 hpl
end
end
end RW

end
section
/-! small things for loops that may leave, calls that do not raise -/
namespace RW
open PySem PySem.Spec PyProof.Rows L2
theorem loopX_any {α S : Type} (p : α → Bool) (r : Res) (nxt : α → S → S) : ∀ (xs : List α) (s : S), loopX (fun x (_ : S) => if p x = true then some r else none) nxt xs s = if xs.any p = true then .inr r else .inl (xs.foldl (fun s x => nxt x s) s)
  | [], s => rfl
  | x :: xs, s => by
    rw [loopX_cons, List.any_cons, List.foldl_cons]
    by_cases h : p x = true
    · rw [if_pos h, h, Bool.true_or]; rfl
    · have e : p x = false := by cases z : p x <;> simp_all
      rw [if_neg h, e, Bool.false_or]
      exact loopX_any p r nxt xs (nxt x s)
theorem any_in {α S : Type} {p : α → Bool} {r : Res} {nxt : α → S → S} {xs : List α} {s t : S} (h : loopX (fun x (_ : S) => if p x = true then some r else none) nxt xs s = .inl t) : ¬ xs.any p = true ∧ xs.foldl (fun s x => nxt x s) s = t := by
  rw [loopX_any] at h
  by_cases z : xs.any p = true
  · rw [if_pos z] at h; cases h
  · rw [if_neg z] at h; cases h; exact ⟨z, rfl⟩
theorem any_out {α S : Type} {p : α → Bool} {r q : Res} {nxt : α → S → S} {xs : List α} {s : S} (h : loopX (fun x (_ : S) => if p x = true then some r else none) nxt xs s = .inr q) : xs.any p = true ∧ r = q := by
  rw [loopX_any] at h
  by_cases z : xs.any p = true
  · rw [if_pos z] at h; cases h; exact ⟨z, rfl⟩
  · rw [if_neg z] at h; cases h
section
variable {X : Cx} {W : WX} {ρ : List SD} {e : Expr} {d : D}
theorem ed_of_er {r : Res} (h : ER X W ρ e r) (hr : r = .ok d) : ED X ρ e d := by
  subst hr
  exact pe_w h fun σ H Q ⟨H0, M0, E, q⟩ => ⟨H0, M0, E, fun v H' e1 r1 => q v H' e1 r1⟩
end
theorem zero_in {l : List Int} : inD (.int 0) (l.map D.int) = decide (0 ∈ l) := inD_ints
theorem flat_ints {l : List Int} : (l.map D.int).all flatD = true := by rw [List.all_map]; exact List.all_eq_true.mpr fun _ _ => rfl
/-- facts of a caught error's class, for isinstance -/
structure XC (K : PySem.W.Frag) (C W : Addr) : Prop where
  c : ExcC K C
  m : PySem.W.exmOne K (.ref C) (.ref W) = some true
end RW
namespace RW
open PySem PySem.Spec PyProof.Rows L2
theorem kit_self {K : PySem.W.Frag} {C : Addr} : PySem.W.kitOne K (.ref C) (.ref C) = some true := by
  unfold PySem.W.kitOne
  rw [if_pos (by simp)]
theorem kit_ref {K : PySem.W.Frag} {t : Value} {C : Addr} {b : Bool} (h0 : (t == Value.ref C) = false) (hd : PySem.W.hasDictIn K C = true) (ht : PySem.W.typeIn K (.ref C) = some (.type "type")) (hs : PySem.W.subIn K t (.ref C) = some b) : PySem.W.kitOne K t (.ref C) = some b := by
  obtain ⟨cd, hc, _⟩ := PySem.W.any_some hd
  have e2 : ((PySem.W.clsIn K C).isSome && PySem.W.typeIn K (.ref C) == some (.type "type")) = true := by rw [hc, ht] <;> rfl
  show (if (t == Value.ref C) = true then some true else (if ((PySem.W.clsIn K C).isSome && PySem.W.typeIn K (.ref C) == some (.type "type")) = true then PySem.W.subIn K t (.ref C) else none)) = some b
  rw [h0, e2]
  exact hs
end RW

end
section
/-! owned dicts; a list within a tuple that grows -/
namespace RW
open PySem PySem.Spec PyProof.Rows L2
section
variable {κ : Type} [DecidableEq κ]
def valD (kvs : List (κ × D)) (k : κ) : Option D := (kvs.find? fun q => decide (q.1 = k)).map (·.2)
def hasK (kvs : List (κ × D)) (k : κ) : Bool := (valD kvs k).isSome
def putKD (kvs : List (κ × D)) (k : κ) (d : D) : List (κ × D) := if (kvs.any fun q => decide (q.1 = k)) = true then kvs.map (fun q => if q.1 = k then (q.1, d) else q) else kvs ++ [(k, d)]
end
section
variable {K : PySem.W.Frag} {H : Hp} {M : MS}
theorem RpK.look {k : Key} : ∀ {ds : List (Key × D)} {vs : List (Key × V)}, RpK K H M ds vs → (valD ds k = none ∧ valV vs k = none) ∨ ∃ d v, valD ds k = some d ∧ valV vs k = some v ∧ Rp K H M d v
  | [], vs, h => by rw [show vs = [] from h]; exact .inl ⟨rfl, rfl⟩
  | (j, d) :: ds, vs, ⟨x, r, e, h1, h2⟩ => by
    subst e
    unfold valD valV
    rw [List.find?_cons, List.find?_cons]
    by_cases z : j = k
    · rw [decide_eq_true z]
      exact .inr ⟨d, x, rfl, rfl, h1⟩
    · rw [decide_eq_false z]
      exact RpK.look h2
theorem RpK.any {k : Key} : ∀ {ds : List (Key × D)} {vs : List (Key × V)}, RpK K H M ds vs → (vs.any fun q => decide (q.1 = k)) = ds.any fun q => decide (q.1 = k)
  | [], vs, h => by rw [show vs = [] from h]; rfl
  | (j, d) :: ds, vs, ⟨x, r, e, h1, h2⟩ => by subst e; rw [List.any_cons, List.any_cons, RpK.any h2]
theorem RpK.length : ∀ {ds : List (Key × D)} {vs : List (Key × V)}, RpK K H M ds vs → vs.length = ds.length
  | [], vs, h => by rw [show vs = [] from h]; rfl
  | (j, d) :: ds, vs, ⟨x, r, e, h1, h2⟩ => by rw [e, List.length_cons, List.length_cons, RpK.length h2]
theorem RpK.map {k : Key} {d : D} {v : V} (h : Rp K H M d v) : ∀ {ds : List (Key × D)} {vs : List (Key × V)}, RpK K H M ds vs → RpK K H M (ds.map fun q => if q.1 = k then (q.1, d) else q) (vs.map fun q => if q.1 = k then (q.1, v) else q)
  | [], vs, r => by rw [show vs = [] from r]; rfl
  | (j, e) :: ds, vs, ⟨x, r, ee, h1, h2⟩ => by
    subst ee
    rw [List.map_cons, List.map_cons]
    by_cases z : j = k
    · rw [if_pos z, if_pos z]; exact ⟨v, _, rfl, h, RpK.map h h2⟩
    · rw [if_neg z, if_neg z]; exact ⟨x, _, rfl, h1, RpK.map h h2⟩
theorem RpK.snoc {k : Key} {d : D} {v : V} (h : Rp K H M d v) : ∀ {ds : List (Key × D)} {vs : List (Key × V)}, RpK K H M ds vs → RpK K H M (ds ++ [(k, d)]) (vs ++ [(k, v)])
  | [], vs, r => by rw [show vs = [] from r]; exact ⟨v, [], rfl, h, rfl⟩
  | (j, e) :: ds, vs, ⟨x, r, ee, h1, h2⟩ => by subst ee; exact ⟨x, _, rfl, h1, RpK.snoc h h2⟩
theorem RpK.put {k : Key} {d : D} {v : V} (h : Rp K H M d v) {ds : List (Key × D)} {vs : List (Key × V)} (r : RpK K H M ds vs) : RpK K H M (putKD ds k d) (putK vs k v) := by
  unfold putKD putK
  rw [r.any]
  split
  · exact RpK.map h r
  · exact RpK.snoc h r
end
section
variable {X : Cx} {W : WX} {ρ ρ' : List SD} {e ke : Expr} {d : D} {k : Key} {kvs : List (Key × D)} {pos p pos' p2 : Pos} {x : Str} {rest : List Stmt} {R : Po}
/-- {} -/
theorem eo_dk : EO X ρ (.Dict [] [] pos) (.dk []) := pe_w pe_dnewK fun σ H Q ⟨H0, M0, E, q⟩ => fun a na => q a _ na (Ex.new na) ⟨[], upd_same, rfl⟩
/-- k in d, d owned -/
theorem ed_inK (i : Nat) (hu : X.A.units + 1 < cLine) (hρ : ρ[i]? = some (.own (.dk kvs))) (hk : ED X ρ ke (keyD k)) (hN : X.N[i]? = some x) (hv : Vis X.env.scope x) (hd : (x == ("__debug__" : Str)) = false := by decide) (hcd : (x == ("__classdict__" : Str)) = false := by decide) : ED X ρ (.Compare ke [.In] [.Name x p] pos) (.bl (hasK kvs k)) :=
  pe_w (pe_cmp (pc_din hu hk (ed_own i hρ hN hv hd hcd)) (by rfl)) fun σ H Q ⟨H0, M0, E, q⟩ => ⟨H0, M0, E, fun y H1 e1 r1 => ⟨H0, M0, E.ext e1, fun a ha hO => by
    obtain ⟨vs, ho, rk⟩ := hO
    refine ⟨a, valV vs k, rfl, by rw [keyD_v r1]; exact DGet.k ho, ?_⟩
    have e2 : (valV vs k).isSome = hasK kvs k := by
      unfold hasK
      rcases rk.look (k := k) with ⟨z1, z2⟩ | ⟨d0, v0, z1, z2, _⟩ <;> rw [z1, z2] <;> rfl
    rw [e2]
    exact q _ H1 e1 rfl⟩⟩
theorem et_inK (i : Nat) (hu : X.A.units + 1 < cLine) (hρ : ρ[i]? = some (.own (.dk kvs))) (hk : ED X ρ ke (keyD k)) (hN : X.N[i]? = some x) (hv : Vis X.env.scope x) (hd : (x == ("__debug__" : Str)) = false := by decide) (hcd : (x == ("__classdict__" : Str)) = false := by decide) : ET X ρ (.Compare ke [.In] [.Name x p] pos) (hasK kvs k) :=
  pt_w (pt_cmp (pc_din hu hk (ed_own i hρ hN hv hd hcd)) (by rfl)) fun σ H Q ⟨H0, M0, E, q⟩ => ⟨H0, M0, E, fun y H1 e1 r1 => ⟨H0, M0, E.ext e1, fun a ha hO => by
    obtain ⟨vs, ho, rk⟩ := hO
    refine ⟨a, valV vs k, rfl, by rw [keyD_v r1]; exact DGet.k ho, _, rfl, ?_⟩
    have e2 : (valV vs k).isSome = hasK kvs k := by
      unfold hasK
      rcases rk.look (k := k) with ⟨z1, z2⟩ | ⟨d0, v0, z1, z2, _⟩ <;> rw [z1, z2] <;> rfl
    rw [e2]
    exact q H1 e1⟩⟩
/-- d[k] = v, d owned -/
theorem sds_putK (i : Nat) (hu : X.A.units + 1 < cLine) (hρ : ρ[i]? = some (.own (.dk kvs))) (he : ED X ρ e d) (hk : ED X ρ ke (keyD k)) (hN : X.N[i]? = some x) (hv : Vis X.env.scope x) (hz : kvs.length < 100000) (h : SDs X W (ρ.set i (.own (.dk (putKD kvs k d)))) rest R)
    (hd : (x == ("__debug__" : Str)) = false := by decide) (hcd : (x == ("__classdict__" : Str)) = false := by decide)
    (hs : swapsWith e (some (.Subscript (.Name x p) ke pos')) pos.line X.env = pure false := by rfl) : SDs X W ρ (.Assign [.Subscript (.Name x p) ke pos'] e pos :: rest) R :=
  sds_cons (R1 := fun ρ1 => ρ1 = ρ.set i (.own (.dk (putKD kvs k d)))) (ps_w (ps_dput hu (ed_own i hρ hN hv hd hcd) hk he hs) fun Dn σ H ⟨H0, M0, E, q1, _⟩ => ⟨H0, M0, E, fun v H1 e1 r1 => ⟨H0, M0, E.ext e1, fun a ha hO => ⟨H0, M0, E.ext e1, fun y H2 e2 r2 => by
    obtain ⟨vs, ho, rk⟩ := hO
    have E2 := (E.ext e1).ext e2
    have ho2 := e2 _ _ ho
    refine ⟨a, _, rfl, by rw [keyD_v r2]; exact DPut.k ho2 (small' (by rw [rk.length]; exact hz)), q1 _ _ _ rfl (E2.write hρ ha ⟨_, upd_same, ?_⟩)⟩
    have l2 : Le H2 (Mo M0 ρ σ) (upd H2 a (.dK (putK vs k v))) (Mo M0 ρ σ) := fun b o q m => ⟨by
      rw [upd_ne (fun z => m (.inr ⟨i, ⟨_, hρ⟩, by rw [z]; exact ha⟩))]; exact q, m⟩
    exact RpK.le l2 _ _ (RpK.put (Rp.le (Le.ex e2) _ _ r1) (RpK.le (Le.ex e2) _ _ rk))⟩⟩⟩) fun _ z => by rw [z]; exact h
end
/-! ### what a list that grows does not touch -/
mutual
def solid : D → Bool
  | .non => true | .bl _ => true | .int _ => true | .str _ => true | .adr _ => true | .ty _ => true | .scr _ => true
  | .tup ds => solids ds
  | .obj _ fs => solidF fs
  | .lst _ => false | .me _ _ _ => false | .dk _ => false | .dt _ => false | .xc _ _ _ => false | .tag _ _ => false
termination_by structural d => d
def solids : List D → Bool
  | [] => true
  | d :: ds => solid d && solids ds
termination_by structural d => d
def solidF : List (Str × D) → Bool
  | [] => true
  | (_, d) :: ds => solid d && solidF ds
termination_by structural d => d
end
section
variable {K : PySem.W.Frag} {H : Hp} {M M' : MS} {a : Addr} {xs ys : List V}
theorem TupA.other {t : Addr} {zs : List V} (ha : H a = some (.lst xs)) (s : ∀ b, M' b → M b) (h : TupA K H M t zs) : TupA K (upd H a (.lst ys)) M' t zs := ⟨fun z => h.1 (s _ z), by
  have h2 := h.2
  rw [upd_ne (fun z => by rw [z, ha] at h2; cases h2)]; exact h2⟩
mutual
theorem Rp.other (ha : H a = some (.lst xs)) (s : ∀ b, M' b → M b) : ∀ (d : D) (v : V), solid d = true → Rp K H M d v → Rp K (upd H a (.lst ys)) M' d v
  | .non, _, _, h => h
  | .bl _, _, _, h => h
  | .int _, _, _, h => h
  | .str _, _, _, h => h
  | .adr _, _, _, h => h
  | .ty _, _, _, h => h
  | .scr _, _, _, ⟨b, e, t⟩ => ⟨b, e, t.imp (fun ⟨o, m, t⟩ => ⟨o, fun z => m (s _ z), by rw [upd_ne (fun z => by rw [z, ha] at t; cases t)]; exact t⟩) id⟩
  | .tup ds, _, z, ⟨b, zs, e, t, r⟩ => ⟨b, zs, e, t.other ha s, Rps.other ha s ds zs z r⟩
  | .obj _ fs, _, z, ⟨b, dx, vs, e, m, t, r⟩ => ⟨b, dx, vs, e, fun z => m (s _ z), by rw [upd_ne (fun z => by rw [z, ha] at t; cases t)]; exact t, RpF.other ha s fs vs z r⟩
  | .lst _, _, z, _ => by cases z
  | .me _ _ _, _, z, _ => by cases z
  | .dk _, _, z, _ => by cases z
  | .dt _, _, z, _ => by cases z
  | .xc _ _ _, _, z, _ => by cases z
  | .tag _ _, _, z, _ => by cases z
theorem Rps.other (ha : H a = some (.lst xs)) (s : ∀ b, M' b → M b) : ∀ (ds : List D) (vs : List V), solids ds = true → Rps K H M ds vs → Rps K (upd H a (.lst ys)) M' ds vs
  | [], _, _, h => h
  | d :: ds, _, z, ⟨x, r, e, h1, h2⟩ => by
    have z := Bool.and_eq_true_iff.mp (show (solid d && solids ds) = true from z)
    exact ⟨x, r, e, Rp.other ha s d x z.1 h1, Rps.other ha s ds r z.2 h2⟩
theorem RpF.other (ha : H a = some (.lst xs)) (s : ∀ b, M' b → M b) : ∀ (ds : List (Str × D)) (vs : List (Str × V)), solidF ds = true → RpF K H M ds vs → RpF K (upd H a (.lst ys)) M' ds vs
  | [], _, _, h => h
  | (_, d) :: ds, _, z, ⟨x, r, e, h1, h2⟩ => by
    have z := Bool.and_eq_true_iff.mp (show (solid d && solidF ds) = true from z)
    exact ⟨x, r, e, Rp.other ha s d x z.1 h1, RpF.other ha s ds r z.2 h2⟩
end
end
/-- slots that are kept are solid, and as they were -/
def Firm (ρ ρ' : List SD) : Prop := ρ'.length = ρ.length ∧ ∀ (i : Nat) s, ρ'[i]? = some s → s = .no ∨ ∃ d, s = .val d ∧ ρ[i]? = some (.val d) ∧ solid d = true
theorem Firm.nil : Firm [] [] := ⟨rfl, fun i s h => by simp at h⟩
theorem Firm.no {s : SD} {ρ ρ' : List SD} (h : Firm ρ ρ') : Firm (s :: ρ) (.no :: ρ') := ⟨by rw [List.length_cons, List.length_cons, h.1], fun i u q => by
  cases i with
  | zero => rw [List.getElem?_cons_zero] at q; cases q; exact .inl rfl
  | succ i => rw [List.getElem?_cons_succ] at q; exact h.2 i u q⟩
theorem Firm.keep {d : D} {ρ ρ' : List SD} (z : solid d = true) (h : Firm ρ ρ') : Firm (.val d :: ρ) (.val d :: ρ') := ⟨by rw [List.length_cons, List.length_cons, h.1], fun i u q => by
  cases i with
  | zero => rw [List.getElem?_cons_zero] at q; cases q; exact .inr ⟨d, rfl, rfl, z⟩
  | succ i => rw [List.getElem?_cons_succ] at q; exact h.2 i u q⟩
/-- no list stands at the beginning -/
def NoL (H0 : Hp) : Prop := ∀ a xs, H0 a ≠ some (.lst xs)
theorem EnvOk.other {K : PySem.W.Frag} {H0 H : Hp} {M0 : MS} {ρ ρ' : List SD} {σ : L2.St} {a : Addr} {xs ys : List V} (E : EnvOk K H0 M0 ρ σ H) (nl : NoL H0) (ha : H a = some (.lst xs)) (f : Firm ρ ρ') : EnvOk K H0 M0 ρ' σ (upd H a (.lst ys)) := by
  have noOwn : ∀ i b, ¬ Ow ρ' σ i b := fun i b ⟨⟨d, h⟩, _⟩ => by
    rcases f.2 i _ h with z | ⟨_, z, _⟩ <;> cases z
  have nst : ∀ (i : Nat) μ, ρ'[i]? ≠ some (.st μ) := fun i μ h => by
    rcases f.2 i _ h with z | ⟨_, z, _⟩ <;> cases z
  have noSt : ∀ b, ¬ Stt ρ' b := fun b ⟨i, μ, _, h, _⟩ => nst i μ h
  have s : ∀ b, Mo M0 ρ' σ b → Mo M0 ρ σ b := fun b m => m.elim (fun m => m.elim (fun m => .inl (.inl m)) fun m => absurd m (noSt b)) (fun ⟨i, m⟩ => absurd m (noOwn i b))
  refine ⟨f.1.trans E.len, fun b o h => ?_, E.m0, fun i b h => absurd h (noOwn i b), fun i j b h => absurd h (noOwn i b), fun i d h => ?_, fun i d h => ?_, fun b h => absurd h (noSt b), fun i b _ => noSt b, fun i μ h => absurd h (nst i μ), fun i j μ μ' h => absurd h (nst i μ)⟩
  · have hb := E.ex b o h
    rw [upd_ne (fun z => by rw [z] at h hb; rw [ha] at hb; cases hb; exact nl a xs h)]
    exact hb
  · rcases f.2 i _ h with z | ⟨d', z, h2, h3⟩
    · cases z
    · cases z
      obtain ⟨v, q1, q2⟩ := E.val i d h2
      exact ⟨v, q1, Rp.other ha s d v h3 q2⟩
  · rcases f.2 i _ h with z | ⟨_, z, _⟩ <;> cases z
/-! ### statements whose beginning has no list -/
def tSN (K : PySem.W.Frag) (W : WX) (ρ : List SD) (R : Po) : TS := fun Dn σ H => ∃ H0 M0, NoL H0 ∧ EnvOk K H0 M0 ρ σ H ∧
  (∀ ρ' σ' H', R.nx ρ' → EnvOk K H0 M0 ρ' σ' H' → Dn.nx σ' H') ∧ (∀ ρ' d v σ' H', R.rt ρ' d → EnvOk K H0 M0 ρ' σ' H' → Rp K H' (Mo M0 ρ' σ') d v → Dn.rt v H') ∧
  (∀ ρ' σ' H', R.bk ρ' → EnvOk K H0 M0 ρ' σ' H' → Dn.bk σ' H') ∧ (∀ ρ' σ' H', R.ct ρ' → EnvOk K H0 M0 ρ' σ' H' → Dn.ct σ' H') ∧
  ∀ ρ' c fs cls dd σ' H', R.ex ρ' c fs → EnvOk K H0 M0 ρ' σ' H' → RpX K H' M0 c fs cls dd → W cls dd σ' H'
abbrev SDN (X : Cx) (W : WX) (ρ : List SD) (st : List Stmt) (R : Po) : Prop := PSs X st (tSN X.K W ρ R)
section
variable {X : Cx} {W : WX} {ρ ρ' : List SD} {st : Stmt} {rest : List Stmt} {R : Po}
theorem sdn_of (h : SDs X W ρ rest R) : SDN X W ρ rest R := pss_w h fun Dn σ H ⟨H0, M0, _, E, q⟩ => ⟨H0, M0, E, q⟩
theorem execs_one (st : Stmt) (env : Env) : execs [st] env = exec st env := by
  have e : execs [st] env = (exec st env >>= fun f => match f with | .next => execs [] env | f => pure f) := by
    rw [execs.eq_def]; rfl
  rw [e]
  have e2 : (fun f : Flow => (match f with | .next => execs [] env | f => pure f : Sem Flow)) = pure := by
    funext f
    cases f with
    | next => show execs [] env = pure .next; rw [execs.eq_def]
    | _ => rfl
  rw [e2, bind_pure]
theorem ps_of_one {t : TS} (h : PSs X [st] t) : PS X st t := ⟨fun pins s σ H D I q => by
  have := h.run pins s σ H D I q
  rw [execs_one] at this
  exact this⟩
/-- one statement by the usual rules, then the rest -/
theorem sdn_step (h : SDs X W ρ [st] { R with nx := fun ρ1 => SDN X W ρ1 rest R }) : SDN X W ρ (st :: rest) R :=
  pss_w (pss_cons (ps_of_one h) (pss_fam (p := fun ρ1 => SDN X W ρ1 rest R) (t := fun ρ1 => tSN X.K W ρ1 R) fun ρ1 h1 => h1)) fun Dn σ H ⟨H0, M0, nl, E, q1, q2, q3, q4, q5⟩ =>
    ⟨H0, M0, E, fun ρ1 σ1 H1 r1 E1 => ⟨ρ1, r1, H0, M0, nl, E1, q1, q2, q3, q4, q5⟩, q2, q3, q4, q5⟩
/-- the ways of a statement joined -/
theorem sds_join {R1 : List SD → Prop} (h1 : SDs X W ρ [st] { R with nx := R1 }) (h2 : ∀ ρ1, R1 ρ1 → SDs X W ρ1 rest R) : SDs X W ρ (st :: rest) R := sds_cons (ps_of_one h1) h2
theorem sdn_join {R1 : List SD → Prop} (h1 : SDs X W ρ [st] { R with nx := R1 }) (h2 : ∀ ρ1, R1 ρ1 → SDN X W ρ1 rest R) : SDN X W ρ (st :: rest) R :=
  pss_w (pss_cons (ps_of_one h1) (pss_fam (p := R1) (t := fun ρ1 => tSN X.K W ρ1 R) h2)) fun Dn σ H ⟨H0, M0, nl, E, q1, q2, q3, q4, q5⟩ =>
    ⟨H0, M0, E, fun ρ1 σ1 H1 r1 E1 => ⟨ρ1, r1, H0, M0, nl, E1, q1, q2, q3, q4, q5⟩, q2, q3, q4, q5⟩
theorem sdn_nil (h : R.nx ρ') (w : Wk ρ ρ') : SDN X W ρ [] R := sdn_of (sds_nil h w)
/-- xs[j].append(e), xs a tuple of lists -/
theorem sdn_appIn {e : Expr} {d : D} {ds es : List D} {j : Int} {jj : Nat} {x : Str} {p apos cpos p2 p3 p4 : Pos} (i : Nat) (hρ : ρ[i]? = some (.val (.tup ds))) (hj : atI ds j = some (.lst es)) (he : ED X ρ e d) (hN : X.N[i]? = some x) (hv : Vis X.env.scope x) (hz : es.length < 100000) (f : Firm ρ ρ') (h : SDN X W ρ' rest R)
    (hd : (x == ("__debug__" : Str)) = false := by decide) (hcd : (x == ("__classdict__" : Str)) = false := by decide)
    (hbase : attributeBase (.Subscript (.Name x p) (.Constant (.int j) jj p3) p4) ("append" : Str) X.env (eval (.Subscript (.Name x p) (.Constant (.int j) jj p3) p4) X.env) = eval (.Subscript (.Name x p) (.Constant (.int j) jj p3) p4) X.env := by rfl)
    (hfew : ((backTo cpos (starEach (e :: []) X.env)).all (fun x => !x.1) && (backToKw cpos (keywordEach [] X.env)).all (fun x => x.1.isSome)
      && decide ((e :: []).length + ([] : List Keyword).length + (if ([] : List Keyword).isEmpty then 0 else 1) < 30)) = true := by rfl)
    (hline : (apos.endLine == cpos.line) = true := by rfl) (hs0 : starEach (e :: []) X.env = (false, eval e X.env) :: starEach [] X.env := by rfl) (hplain : (backTo cpos (starEach [] X.env)).any (·.1) = false := by rfl)
    (hs : swapsWith (.Call (.Attribute (.Subscript (.Name x p) (.Constant (.int j) jj p3) p4) ("append" : Str) apos) [e] [] cpos) none p2.line X.env = pure false := by rfl)
    (hpx : PlainIx (.Constant (.int j) jj p3) := by intro _ _; rfl) :
    SDN X W ρ (.Expr (.Call (.Attribute (.Subscript (.Name x p) (.Constant (.int j) jj p3) p4) ("append" : Str) apos) [e] [] cpos) p2 :: rest) R := by
  have ho : ED X ρ (.Subscript (.Name x p) (.Constant (.int j) jj p3) p4) (.lst es) := ed_ix (ed_var i hρ hN hv hd hcd) ed_int (ixd_tup hj) hpx
  refine pss_w (pss_cons (ps_expr (pe_bm PySem.F.plainAttrs_list PySem.F.slot_list_append PySem.F.type_list_append mt_append ho (pa_cons he pa_nil hs0) hbase hfew hline hs0 hplain) hs) h) fun Dn σ H ⟨H0, M0, nl, E, q1, q2, q3, q4, q5⟩ => ?_
  refine ⟨H0, M0, E, fun v H1 e1 r1 => ?_⟩
  obtain ⟨a, xs, rfl, m, ha, rx⟩ := r1
  refine ⟨.inl ⟨rfl, _, SqL.of ha⟩, H0, M0, E.ext e1, fun u H2 e2 r2 => ?_⟩
  refine ⟨a, xs, u, rfl, rfl, e2 _ _ ha, small' (by rw [rx.length]; exact hz), ?_⟩
  exact ⟨H0, M0, nl, ((E.ext e1).ext e2).other nl (e2 _ _ ha) f, q1, q2, q3, q4, q5⟩
end
end RW
namespace RW
open PySem PySem.Spec PyProof.Rows L2
section
variable {P : Program} {w : World} {K : PySem.W.Frag} {mg : Str → Option Value} {base : Heap}
def spN (K : PySem.W.Frag) (n : Nat) (S : List D → Res → Prop) : Sp := fun vs H Q E => NoL H ∧ spP K n S vs H Q E
/-- as fn_of, for a beginning without lists -/
theorem fn_ofN {x qual : Str} {st : Stmt} {f : Addr} {fd : FuncData} {N ps : List Str} {k : Nat} {S : List D → Res → Prop} (F : Fun K x qual st f fd) (sc : FnScope N ps (defScope st)) (hlen : ps.length ≤ N.length)
    (body : ∀ (cdv : Value) (A : Around) (outer : List Env) (s : Shared) (H : Hp) (E : XK) (ds : List D) (r : Res), Room k (A.deeper (envOfC qual (defScope st) s.heap.objs.size f cdv)) → ds.length = ps.length → S ds r →
      SDN (cxOf (L2.CX P w) P w K mg base N qual (defScope st) f cdv A outer s H E) (fun cls d _ H => E cls d H) (args N ds) (defBody st) { nx := fun _ => r = .ok .non, rt := fun _ d => r = .ok d, ex := fun _ c fs => r = .er c fs }) :
    FnOk P w K mg base (L2.CX P w) (k + 1) f fd ps (spN K ps.length S) :=
  F.okX sc (fun vs H Q E ⟨_, _, _, _, _, h2, h3, _⟩ => h2.length.trans h3) fun cdv A outer s H vs Q E hr ⟨nl, M, ds, r, dm, h2, h3, h4, h5⟩ =>
    ⟨_, body cdv A outer s H E ds r hr h3 h4, H, M, nl, EnvOk.start dm h2 (by rw [h3]; exact hlen), fun ρ' σ' H' e E' => by subst e; exact h5 .non H' E'.ex rfl, fun ρ' d v σ' H' e E' r' => by subst e; exact h5 v H' E'.ex (Rp.le (Le.sub fun a m => .inl (.inl m)) _ _ r'),
      fun _ _ _ z => z.elim, fun _ _ _ z => z.elim, fun ρ' c fs cls dd σ' H' e E' r' => by subst e; exact h5 cls dd H' E'.ex r'⟩
end
theorem law_spN {K : PySem.W.Frag} {H : Hp} {a : Addr} {ns : List Int} (hO : Only H) (hS : SqL K H a (ns.map V.int)) : spN K 1 S_law [.ref a] H (fun v _ => v = .bl true) fun _ _ _ => False :=
  And.intro (fun b xs z => by
    rcases hO b with q | ⟨o, ys, q⟩
    · rw [q] at z; cases z
    · rw [q] at z; cases z) (law_sp hO hS)
end RW

end
section
/-! exceptions with an __init__ of their own, which calls the one above -/
namespace RW
open PySem PySem.Spec PyProof.Rows L2

/-- the context of an __init__ that bears the cell of its class -/
def cxS (CX : CXT) (P : Program) (w : World) (K : PySem.W.Frag) (mg : Str → Option Value) (base : Heap) (N : List Str) (qual : Str) (scope : Scope) (f : Addr) (cd : Value) (cc : Addr) (A : Around) (outer : List Env) (s : Shared) (H : Hp) (E : XK) : Cx where
  prog := P
  w := w
  K := K
  mg := mg
  base := base
  A := A.deeper (PySem.W.ksEnv qual scope s.heap.objs.size f cd cc)
  N := N
  s_0 := s
  H_0 := H
  env := PySem.W.ksEnv qual scope s.heap.objs.size f cd cc
  outer := outer
  stack := PySem.W.ksEnv qual scope s.heap.objs.size f cd cc :: outer
  ex := []
  calm := true
  fn := fun x => !(x == ("__class__" : Str))
  pn := []
  xe := fun e s' => wpAny (model P w) (A.deeper (PySem.W.ksEnv qual scope s.heap.objs.size f cd cc)) (leaving (PySem.W.ksEnv qual scope s.heap.objs.size f cd cc) e) (fun _ s'' => CX outer H s E e s'') (fun e' s'' => CX outer H s E e' s'') s'

section
variable {CX : CXT} {P : Program} {w : World} {K : PySem.W.Frag} {mg : Str → Option Value} {base : Heap} {qual : Str} {scope : Scope} {f cc : Addr} {cd : Value} {A : Around} {outer : List Env} {s : Shared} {H : Hp} {E : XK}
theorem inv_startS {n0 n1 : Str} {u0 u1 : Value} {v0 v1 : V} {oc : Obj} {cv : Option Value} {h₁ : Heap} {t : Nat} (ne : n0 ≠ n1) (k0 : scope.names.lookup n0 = some .local) (k1 : scope.names.lookup n1 = some .local) (hkind : scope.kind = .function)
    (hfree : ∀ x, (scope.names.lookup x = some .cell ∨ scope.names.lookup x = some .free) → x = "__class__") (hd : A.handled = none) (e0 : Env0 P w K mg base A outer s H) (r0 : RelV v0 u0) (r1 : RelV v1 u1) (hcc : base.get? cc = some oc) (hoc : oc.data = .cell cv)
    (hns : h₁.Ns s.heap.objs.size (fun x => ([n0, n1].zip [u0, u1]).reverse.lookup x)) (hk : ∀ b o, s.heap.get? b = some o → h₁.get? b = some o) :
    Inv (cxS CX P w K mg base [n0, n1] qual scope f cd cc A outer s H E) [] [some v0, some v1] H { s with heap := h₁, toks := t } := by
  have noA : ∀ b : Addr, b ∉ (cxS CX P w K mg base [n0, n1] qual scope f cd cc A outer s H E).ex := fun b z => absurd (show b ∈ ([] : List Addr) from z) (by simp)
  have one : ∀ {x : Str} {c : Addr}, List.lookup x [(("__class__" : Str), cc)] = some c → x = "__class__" ∧ c = cc := fun {x c} h => by
    by_cases e : x = ("__class__" : Str)
    · subst e; rw [List.lookup_cons_self] at h; cases h; exact ⟨rfl, rfl⟩
    · have e' : (x == ("__class__" : Str)) = false := by simpa using e
      rw [List.lookup_cons, e'] at h; cases h
  refine ⟨⟨e0.mod, hkind, rfl, rfl, Nat.le_refl _, fun y z c h1 h2 => ?_, fun y hy => ?_, fun y c h0 h => ?_, fun _ => hd, Around.frames_deeper e0.frames, .inr ⟨rfl, rfl⟩, fun b z => absurd z (noA b), e0.bs, e0.bsz, fun b _ _ => noA b, fun b z => absurd z (noA b), e0.funs, e0.frf⟩,
    rfl, e0.bare, Un.kept hk, ⟨_, hns, fun i y v h1 h2 h3 => ?_⟩, fun y c h => ?_, e0.hok.fresh (Nat.le_refl _), fun y c h => ?_, fun p hp => absurd (show p ∈ ([] : List (Addr × Obj)) from hp) (by simp), e0.hok.kept hk, rfl⟩
  · rw [(one h1).1, (one h2).1]
  · exact ⟨cc, by rw [hfree y hy]; rfl⟩
  · rw [(one h).1] at h0
    exact absurd (show (!(("__class__" : Str) == ("__class__" : Str))) = true from h0) (by decide)
  · match i with
    | 0 =>
      cases h1; cases h2
      refine ⟨u0, r0, .inl ⟨k0, ?_⟩⟩
      have e : (n0 == n1) = false := by simpa using ne
      show List.lookup n0 [(n1, u1), (n0, u0)] = some u0
      rw [List.lookup_cons, e, List.lookup_cons_self]
    | 1 =>
      cases h1; cases h2
      refine ⟨u1, r1, .inl ⟨k1, ?_⟩⟩
      show List.lookup n1 [(n1, u1), (n0, u0)] = some u1
      rw [List.lookup_cons_self]
    | i + 2 => cases h1
  · rw [(one h).2]
    exact ⟨cv, oc, hk _ _ (e0.bs _ _ hcc).1, hoc⟩
  · rw [(one h).2]
    exact (e0.bs _ _ hcc).2
end

/-! ### super().__init__(e) -/
section
variable {X : Cx} {ρ : List SD} {pins : List (Addr × Obj)} {σ : L2.St} {H : Hp} {s : Shared} {a C f cc cda : Addr}
/-- what the written part says of the class at C and its __init__ at f -/
structure SupC (K : PySem.W.Frag) (prog : Program) (C f cc cda : Addr) (n0 : Str) : Prop where
  own : OexC K C
  fn : ∃ oc od fd osl ar, K.lookup f = some ⟨oc, od, .func fd, osl⟩ ∧ (fd.params.posonlyargs ++ fd.params.args).head? = some ar ∧ ar.arg = n0
  code : ∃ ccl cdd vs ccs file tf, K.lookup cda = some ⟨ccl, cdd, .fields vs, ccs⟩ ∧ vs[2]? = some (.str file tf) ∧ ((prog.main.file : Str) == file) = true
  cell : ∃ cl cld csl, K.lookup cc = some ⟨cl, cld, .cell (some (.ref C)), csl⟩
  sub : PySem.W.mroIn K C (.ref C) = some true
  subV : PySem.W.subIn K (.ref C) (.type "ValueError") = some true
  sup : PySem.W.ks_superIn K C C "__init__" = some (some (.builtin "ValueError.__init__"))
  opq : PySem.W.nsIn K cStatics "thirdparty.any" = some none
  top : (prog.main.scope.names.lookup ("super" : Str)).isSome = false
theorem at_super {e : Expr} {n0 : Str} {p0 p1 p2 pos : Pos} {body : List Stmt} {n : Nat} {Q : Value → Shared → Prop} (S : SupC X.K X.prog C f cc cda n0) (hks : Gl X "super") (hms : X.mg "super" = none) (hkc : X.env.kindOf "__class__" = some .free)
    (hcl : X.env.cells.lookup ("__class__" : Str) = some cc) (hfu : X.env.func = some f) (hco : X.env.code = .ref cda) (h0 : X.N[0]? = some n0) (hk0 : X.env.kindOf n0 = some .local) (I : Inv X [] σ H s) (e0 : σ[0]? = some (some (.ref a))) (ea : H a = some (exo a C none))
    (he : EStr X ρ n e) (E : ∃ H0 M0, EnvOk X.K H0 M0 ρ σ H) (hq : ∀ H' s', Ex H H' → Inv X [] σ H' s' → Q .none s') {pl : Sem Bool} (hs : starEach [e] X.env = [(false, eval e X.env)] := by rfl)
    (hc : eval (.Call (.Attribute (.Call (.Name "super" p0) [] [] p1) "__init__" p2) [e] [] pos) X.env = (do
      let ov ← attributeBase (.Call (.Name "super" p0) [] [] p1) "__init__" X.env (eval (.Call (.Name "super" p0) [] [] p1) X.env)
      standAt p2.atName
      let (f, first) ← holding [ov] (getMethod ov "__init__" pl)
      callWith pos f first (backTo pos (starEach [e] X.env)) []) := by rfl) :
    PySem.wpAt (model X.prog X.w) X.A (.func body X.env) (eval (.Call (.Attribute (.Call (.Name "super" p0) [] [] p1) "__init__" p2) [e] [] pos) X.env) Q X.xe s := by
  refine PySem.ks_wpAt_MethodCall (pl := pl) ?_ hc
  obtain ⟨oc, od, fd, osl, ar, lkf, hp0, har⟩ := S.fn
  obtain ⟨ccl, cdd, vsc, ccs, file, tf, hcode, hvs, hfile⟩ := S.code
  obtain ⟨cl, cld, csl, hcell⟩ := S.cell
  obtain ⟨nm, q, N, bs, bm, sn, sub, ab, col, dd, k0, k1, k2, k3, k5, hC, hbm⟩ := S.own.cls
  have hcd : PySem.W.clsIn X.K C = some { name := nm, bases := bs, mro := .ref C :: bm, ns := N, qualname := q, hasDict := true, slotNames := sn, subclasses := sub, abstract := ab, collection := col, hasDel := false } := by unfold PySem.W.clsIn; rw [hC] <;> rfl
  refine PySem.ks_wpAt_super_base hks hkc rfl hfu (I.kIn _ _ lkf) rfl hp0 hco (I.kIn _ _ hcode) rfl hvs hfile S.top ?_
  obtain ⟨mb, b1, b2⟩ := I.mod.blt
  refine PySem.W.ks_loadName_global I.ok.kind hks (Calls.loadGlobal_builtin (by rw [I.ok.glob]; exact I.mod.glob.keeps I.bk) hms (by rw [I.ok.blt]; exact b1.keeps I.bk) ((b2 "super" (by decide)).trans (by kernel_rfl)) ⟨rfl, ?_⟩)
  refine wpAny_loadName_free I.ok.kind hkc hcl ⟨_, I.kIn _ _ hcell, rfl⟩ ?_
  rw [har]
  obtain ⟨m, hn, hl⟩ := I.loc
  obtain ⟨u, r, l⟩ := hl 0 n0 (.ref a) h0 e0 (.inl hk0)
  obtain rfl : u = Value.ref a := r
  have hm0 : m n0 = some (.ref a) := by
    rcases l with ⟨_, l⟩ | ⟨l, _⟩
    · exact l
    · rw [hk0] at l
      rcases l with l | l <;> cases l
  refine wpAny_loadName_local I.ok.kind hk0 hn hm0 ?_
  refine PySem.ks_wpAny_isType_cls (I.kIn _ _ hC) rfl ⟨rfl, ?_⟩
  obtain ⟨t1, ho⟩ := exo_at I.hok ea
  obtain ⟨hp, g, d, t, os⟩ := s
  refine PySem.ks_wpAny_call_super (I.kIn _ _ hC) rfl ho rfl (fun c e => by cases e) (PySem.W.looks_mroIn I.kIn S.sub) fun h' hso k => ?_
  have I1 : Inv X [] σ H ⟨h', g, d, t, os⟩ := I.kept (t' := t) k
  have ho1 := k _ _ ho
  have hmr : PySem.W.Looks (model X.prog X.w) h' (mroOf (.ref C)) (.ref C :: bm) := fun A Q E s k q => wpAny_bind ((PySem.W.looks_clsIn I1.kIn hcd) A _ E s k (wpAny_pure q))
  have IA : PySem.W.InstAt h' a { cls := .ref C, dict := none, data := .fields #[.ref t1, .none, .none, .none, .bool false, .none] } C none := ⟨ho1, rfl, rfl, trivial⟩
  have hI : PySem.W.Looks (model X.prog X.w) h' (isInstance (.ref a) (.type "ValueError")) true := IA.type.andThen (PySem.W.looks_subIn I1.kIn S.subV)
  have hsup := S.sup
  unfold PySem.W.ks_superIn at hsup
  rw [hcd] at hsup
  refine PySem.W.kxs_getMethod PySem.W.kxs_ValueError hso (PySem.W.looks_opaque I1.kIn S.opq) hmr rfl I1.kIn hsup hI (PySem.W.ks_ne I1.kIn IA hcd) (by decide) ?_
  have kp : ∀ b o, h'.get? b = some o → (h'.push (PySem.W.kxs_mw "ValueError.__init__" a)).get? b = some o := fun b o e => Heap.get?_push_of_some _ e
  have I2 : Inv X [] σ H ⟨h'.push (PySem.W.kxs_mw "ValueError.__init__" a), g, d, t + 1, os⟩ := I1.kept (t' := t + 1) kp
  have hq1 : (h'.push (PySem.W.kxs_mw "ValueError.__init__" a)).get? h'.objs.size = some (PySem.W.kxs_mw "ValueError.__init__" a) := Heap.get?_push_at rfl rfl
  have I3 : Inv X [(h'.objs.size, PySem.W.kxs_mw "ValueError.__init__" a)] σ H ⟨h'.push (PySem.W.kxs_mw "ValueError.__init__" a), g, d, t + 1, os⟩ := I2.pins_of fun p hp => by
    obtain rfl := List.mem_singleton.mp hp
    exact ⟨hq1, I1.hok.fresh (Nat.le_refl _), fun z => absurd I1.lt (by rw [← z]; exact Nat.lt_irrefl _), I1.nofs (Nat.le_refl _), fun v z => by cases z⟩
  show wpAny _ _ (callWith pos (.ref h'.objs.size) [] (backTo pos (starEach [e] X.env)) []) _ _ _
  have ha := ea_one_str he hs
  have hb : backTo pos (starEach [e] X.env) = [(false, eval e X.env)] := by rw [hs]; rfl
  rw [hb]
  refine PySem.W.kxs_callWith (i := "ValueError.__init__") (x := a) (by rfl) (Calls.evalArgs_plain ?_)
  rw [← hb]
  obtain ⟨H0, M0, E⟩ := E
  refine thn (ha.run pos _ _ σ H (fun vs H1 => ∃ y, vs = [.str y] ∧ Ex H H1) I3 ⟨H0, M0, E, fun y H' e1 _ => ⟨y, rfl, e1⟩⟩) fun us s3 ⟨vs, H3, J, r3, y, ev, e3⟩ => ?_
  subst ev
  have P3 := J.pin (h'.objs.size, PySem.W.kxs_mw "ValueError.__init__" a) (List.mem_append_right _ (List.mem_singleton.mpr rfl))
  have ea3 := e3 _ _ ea
  obtain ⟨t3, ho3⟩ := exo_at J.hok ea3
  have hlen : us.length ≤ sizeLine := by rw [← Paired.length r3, sizeLine_eq]; show 1 ≤ 16777216; decide
  refine ⟨P3.1, ?_⟩
  have J' : Inv X [] σ H3 s3 := J.pins_of fun p hp => absurd hp (by simp)
  obtain ⟨h3, g3, d3, tk3, os3⟩ := s3
  have fin : ∀ h4, (∀ b o, b ≠ a → h3.get? b = some o → h4.get? b = some o) → h4.get? a = some ({ cls := .ref C, dict := none, data := .fields #[.ref h3.objs.size, .none, .none, .none, .bool false, .none] } : Obj) → Q .none ⟨h4, g3, d3, tk3, os3⟩ := fun h4 k4 hx => by
    have J4 := J'.write (t' := tk3) (x := a) (e := a) (o := exo a C none) (by rw [ea3]; exact True.intro) (.inl rfl) k4 ⟨_, hx⟩ (exo_ok hx)
    have eu : upd H3 a (exo a C none) = H3 := by
      funext b
      by_cases hb : b = a
      · rw [hb, upd_same, ea3]
      · rw [upd_ne hb]
    rw [eu] at J4
    exact hq H3 _ e3 J4
  show wpAny _ _ (call (.ref h'.objs.size) us) _ _ _
  refine wpAny_call (codeAny_of_tree ?_)
  show wpAny _ X.A.in1 (callAny (.ref h'.objs.size) ⟨us, []⟩) _ _ _
  simp only [callAny]
  refine wpAny_bind (wpAny_load P3.1 ?_)
  simp only [PySem.W.kxs_mw, show (Value.type "method-wrapper" == Value.type "method" || Value.type "method-wrapper" == Value.type "builtin_function_or_method" || Value.type "method-wrapper" == Value.type "method-wrapper") = true by decide, if_true]
  refine PySem.W.KFB.if_so (by decide) ?_
  have FB := PySem.F.excBase_ValueError
  refine wpAny_bind (PySem.W.check_bound_init FB.toExcCallFacts (J'.kIn _ _ hC) ho3 rfl ?_)
  refine wpAny_bind (wpAny_pure (wpAny_pure ?_))
  refine ⟨plainId_quiet FB.init.plain _, codeAny_builtin FB.initEntry ?_⟩
  exact PySem.W.exc_init_tree (cls := .ref C) (t0 := t3) (dv := none) (c2 := .none) (c3 := .none) (b4 := .bool false) ho3 hlen fun h4 k4 hx _ => fin h4 k4 hx
end

/-! ### the promise of such a class: C(i) bears i under the name fld -/
def Sml (i : Int) : Prop := i.natAbs.log2 < 1920 ∧ (toString i : Str).length ≤ 100000
def spX (K : PySem.W.Frag) (C : Addr) (fld : Str) : Sp := fun vs H Q E => ∃ (a : Addr) (i : Int), vs = [.ref a, .int i] ∧ H a = some (exo a C none) ∧ Sml i ∧ ∀ H' d, Ex H H' → H' d = none → d ≠ a → Q .non (upd (upd H' d (exd d [(fld, .int i)])) a (exo a C (some d)))
structure XP (P : Program) (w : World) (K : PySem.W.Frag) (mg : Str → Option Value) (base : Heap) (k : Nat) (x : Str) (C : Addr) (fld : Str) : Prop where
  g : mg x = some (.ref C)
  ex : ∃ (f : Addr) (fd : FuncData) (ps : List Str), OexC K C ∧ PySem.W.findIn K (.ref C) "__init__" = some (some (.ref f)) ∧ PySem.W.typeIn K (.ref f) = some (.type "function") ∧ Binds K fd ps [] ∧ FnOk P w K mg base (L2.CX P w) k f fd ps (spX K C fld)
theorem XP.mono {P : Program} {w : World} {K : PySem.W.Frag} {mg : Str → Option Value} {base : Heap} {k k' : Nat} {x fld : Str} {C : Addr} (F : XP P w K mg base k x C fld) (h : k ≤ k') : XP P w K mg base k' x C fld :=
  let ⟨f, fd, ps, h1, h2, h3, h4, h5⟩ := F.ex
  ⟨F.g, f, fd, ps, h1, h2, h3, h4, h5.mono h⟩
section
variable {X : Cx} {W : WX} {ρ : List SD} {R : Po} {x fld : Str} {C : Addr} {k : Nat}
theorem sds_raiseP {i : Int} {a : Expr} {rest : List Stmt} {p pos spos : Pos} (hc : X.calm = true) (tk : Takes X W) (F : XP X.prog X.w X.K X.mg X.base k x C fld) (hr : Room (k + 1) X.A) (hg : Gl X x) (he : ED X ρ a (.int i)) (hi : Sml i) (h : R.ex ρ (.ref C) (some [(fld, .int i)]))
    (hs : starEach (a :: []) X.env = (false, eval a X.env) :: starEach [] X.env := by rfl) (hdb : (x == ("__debug__" : Str)) = false := by decide) : SDs X W ρ (.Raise (some (.Call (.Name x p) [a] [] pos)) none spos :: rest) R := by
  obtain ⟨f, fd, ps, h1, h2, h3, h4, h5⟩ := F.ex
  refine pss_w (pss_cons (ps_raise hc tk (pmk_oex h1 h2 h3 h5 hr h4 .nil passL hg F.g (pa_cons he pa_nil hs) hdb hs)) pss_never) fun Dn σ H ⟨H0, M0, E, q1, q2, q3, q4, q5⟩ => ?_
  refine ⟨H0, M0, E, fun v H1 e1 r1 => ⟨(by decide : 1 ≤ 1000), fun c nc => ?_⟩⟩
  have r1 : v = .int i := r1
  subst r1
  refine ⟨c, i, rfl, upd_same, hi, fun H' d e2 nd ne => ⟨rfl, d, [(fld, .int i)], upd_same, by rw [upd_ne ne, upd_same], ?_, ?_⟩⟩
  · cases z : H1 d with
    | none => rfl
    | some o =>
      have z2 := e2 d o (by rw [upd_ne ne]; exact z)
      rw [nd] at z2; cases z2
  · have nd1 : H1 d = none := by
      cases z : H1 d with
      | none => rfl
      | some o =>
        have z2 := e2 d o (by rw [upd_ne ne]; exact z)
        rw [nd] at z2; cases z2
    have e3 : Ex H1 (upd (del (upd (upd H' d (exd d [(fld, .int i)])) c (exo c C (some d))) c) d (.xd [(fld, .int i)])) := fun b o hb => by
      have bc : b ≠ c := ne_of_none hb nc
      have bd : b ≠ d := ne_of_none hb nd1
      rw [upd_ne bd, del_ne bc, upd_ne bc, upd_ne bd]
      exact e2 b o (by rw [upd_ne bc]; exact hb)
    exact q5 ρ (.ref C) (some [(fld, .int i)]) (.ref C) (some d) σ _ h ((E.ext e1).ext e3) ⟨rfl, d, [(fld, .int i)], rfl, fun m => ((E.ext e1).m0 d m).ne ((E.ext e1).ex.back nd1), upd_same, ⟨.int i, [], rfl, rfl, rfl⟩⟩
end
/-- the __init__ as it stands -/
structure FunS (K : PySem.W.Frag) (x qual : Str) (st : Stmt) (f cc cda : Addr) (fd : FuncData) : Prop where
  ex : ∃ (oc : Value) (od : Option Addr) (kV doc pm : Value) (an : Option Addr) (ct : Value) (osl : Array (Option Value)),
    fd = PySem.W.ksFn x qual (defArgs st) (defBody st) (defScope st) .none kV doc pm an (.ref cda) ct cc ∧ K.lookup f = some ⟨oc, od, .func fd, osl⟩ ∧ PySem.W.codeIn K (.ref cda) qual = true
section
variable {P : Program} {w : World} {K : PySem.W.Frag} {mg : Str → Option Value} {base : Heap}
theorem xp_of {x qual n1 fld : Str} {st : Stmt} {f C cc cda : Addr} {fd : FuncData} {e : Expr} {p0 p1 p2 pos pos' q0 q1 q2 q3 : Pos} {pl : Addr → Sem Bool} (g : mg x = some (.ref C)) (F : FunS K "__init__" qual st f cc cda fd) (S : SupC K P C f cc cda "self")
    (iC : PySem.W.findIn K (.ref C) "__init__" = some (some (.ref f))) (tI : PySem.W.typeIn K (.ref f) = some (.type "function")) (hb : Binds K fd [("self" : Str), n1] []) (hms : mg "super" = none) (hno : PySem.W.findIn K (.ref C) fld = some none)
    (ne : ("self" : Str) ≠ n1) (hd1 : (n1 == ("__debug__" : Str)) = false) (hd2 : (n1 == ("__classdict__" : Str)) = false) (k0 : (defScope st).names.lookup ("self" : Str) = some .local) (k1 : (defScope st).names.lookup n1 = some .local) (hkind : (defScope st).kind = .function) (hks : (defScope st).names.lookup ("super" : Str) = some .globalImplicit) (hkc : (defScope st).names.lookup ("__class__" : Str) = some .free)
    (hfree : ∀ x, ((defScope st).names.lookup x = some .cell ∨ (defScope st).names.lookup x = some .free) → x = "__class__") (hcells : ∀ x ∈ (defScope st).names, x.2 ≠ .cell) (hco : (defScope st).isCoroutine = false) (hgen : (defScope st).isGenerator = false)
    (hbody : defBody st = [.Expr (.Call (.Attribute (.Call (.Name "super" p0) [] [] p1) "__init__" p2) [e] [] pos) pos', .Assign [.Attribute (.Name "self" q0) fld q1] (.Name n1 q2) q3])
    (he : ∀ (A : Around) (outer : List Env) (s : Shared) (H : Hp) (E : XK) (a : Addr) (i : Int), Sml i → EStr (cxS (L2.CX P w) P w K mg base [("self" : Str), n1] qual (defScope st) f (.ref cda) cc A outer s H E) [.val (.adr a), .val (.int i)] 1000000 e)
    (hi : ∀ L, interactive (PySem.W.ksEnv qual (defScope st) L f (.ref cda) cc) = false)
    (hsw : ∀ L, swapsWith (.Call (.Attribute (.Call (.Name "super" p0) [] [] p1) "__init__" p2) [e] [] pos) none pos'.line (PySem.W.ksEnv qual (defScope st) L f (.ref cda) cc) = pure false)
    (hsw2 : ∀ L, swapsWith (.Name n1 q2) (some (.Attribute (.Name "self" q0) fld q1)) q3.line (PySem.W.ksEnv qual (defScope st) L f (.ref cda) cc) = pure false)
    (hs : ∀ L, starEach [e] (PySem.W.ksEnv qual (defScope st) L f (.ref cda) cc) = [(false, eval e (PySem.W.ksEnv qual (defScope st) L f (.ref cda) cc))])
    (hc : ∀ L, eval (.Call (.Attribute (.Call (.Name "super" p0) [] [] p1) "__init__" p2) [e] [] pos) (PySem.W.ksEnv qual (defScope st) L f (.ref cda) cc) = (do
      let ov ← attributeBase (.Call (.Name "super" p0) [] [] p1) "__init__" (PySem.W.ksEnv qual (defScope st) L f (.ref cda) cc) (eval (.Call (.Name "super" p0) [] [] p1) (PySem.W.ksEnv qual (defScope st) L f (.ref cda) cc))
      standAt p2.atName
      let (f0, first) ← holding [ov] (getMethod ov "__init__" (pl L))
      callWith pos f0 first (backTo pos (starEach [e] (PySem.W.ksEnv qual (defScope st) L f (.ref cda) cc))) [])) :
    XP P w K mg base 1 x C fld := by
  obtain ⟨oc, od, kV, doc, pm, an, ct, osl, rfl, lk, hcd⟩ := F.ex
  obtain ⟨cl, cld, csl, hcell⟩ := S.cell
  refine ⟨g, f, _, [("self" : Str), n1], S.own, iC, tI, hb, fun vs H Q E ⟨a, i, h, _⟩ => by rw [h]; rfl, fun A outer s H args us vs Q E hr e0 hbd r hsp => ?_⟩
  obtain ⟨a, i, rfl, ea, hsm, hq⟩ := hsp
  obtain ⟨u0, u1, rfl, r0, r1⟩ : ∃ u0 u1, us = [u0, u1] ∧ RelV (.ref a) u0 ∧ RelV (.int i) u1 := by
    cases r with
    | cons r0 r =>
      cases r with
      | cons r1 r => cases r; exact ⟨_, _, rfl, r0, r1⟩
  have KX : K.In s.heap := e0.mod.kin.keeps fun b o e => (e0.bs b o e).1
  have lim : s.heap.NoLimit := e0.mod.nolimit.keeps fun b o e => (e0.bs b o e).1
  have hloc : ∀ y ∈ [("self" : Str), n1].zip [u0, u1], (defScope st).names.lookup y.1 = some .local := fun y hy => by
    rcases List.mem_cons.mp hy with rfl | hy
    · exact k0
    · rcases List.mem_cons.mp hy with rfl | hy
      · exact k1
      · cases hy
  refine PySem.ks_codeAny_call_defAt (fd := PySem.W.ksFn "__init__" qual (defArgs st) (defBody st) (defScope st) .none kV doc pm an (.ref cda) ct cc) (body := defBody st) (binds := [("self" : Str), n1].zip [u0, u1]) hr.depth (KX _ _ lk) rfl lim (PySem.W.codeRec_of KX hcd) rfl hbd hcells hloc (fun h₁ hns hk => ?_) hco hgen hkind
  have I := inv_startS (CX := L2.CX P w) (qual := qual) (f := f) (cc := cc) (cd := .ref cda) (E := E) (t := s.toks + ([("self" : Str), n1].zip [u0, u1]).length) ne k0 k1 hkind hfree hr.hd e0 r0 r1 (e0.mod.kin _ _ hcell) rfl hns hk
  have EO : EnvOk K H (fun _ => False) [.val (.adr a), .val (.int i)] [some (.ref a), some (.int i)] H :=
    EnvOk.start (N := [("self" : Str), n1]) (ds := [.adr a, .int i]) (vs := [.ref a, .int i]) (fun _ z => z.elim) ⟨_, _, rfl, rfl, _, _, rfl, rfl, rfl⟩ (Nat.le_refl 2)
  rw [hbody]
  refine PySem.ks_wpAt_execs_cons (PySem.ks_wpAt_Expr_any ?_ (hi _) (hsw _))
  refine at_super (X := cxS (L2.CX P w) P w K mg base [("self" : Str), n1] qual (defScope st) f (.ref cda) cc A outer s H E) (pl := pl s.heap.objs.size) S hks hms hkc rfl rfl rfl rfl k0 I rfl ea (he A outer s H E a i hsm) ⟨H, _, EO⟩ (fun H' s' e1 J => ?_) (hs _) (hc _)
  show PySem.wpAt _ _ _ (execs [_] _) _ _ s'
  refine PySem.wpAt_of_wpAny ?_
  have ea1 := e1 _ _ ea
  have st2 := pss_cons (ps_ost (X := cxS (L2.CX P w) P w K mg base [("self" : Str), n1] qual (defScope st) f (.ref cda) cc A outer s H E) (f := fld) (p' := q1) (pos := q3) (pe_var (i := 0) (pos := q0) rfl (.inl k0)) (pe_var (i := 1) (pos := q2) rfl (.inl k1) hd1 hd2) (hsw2 _)) pss_nil
  refine wpAny_mono (st2.run [] s' _ H' { nx := fun _ H'' => Q .non H'', rt := fun _ _ => False } J ?_) (fun fl s'' hh => ?_) fun e s'' hh => hh
  · exact ⟨.int i, rfl, .ref a, rfl, a, C, rfl, S.own, hno, .inl ⟨ea1, fun dx nd ne => hq H' dx e1 nd ne⟩⟩
  · cases fl with
    | ret u =>
      obtain ⟨v, σ', H'', J, rv, q⟩ := hh
      exact q.elim
    | next =>
      obtain ⟨σ', H'', J2, q⟩ := hh
      exact ⟨.non, H'', J2.os, J2.bare, J2.base, J2.hok, rfl, q⟩
    | brk =>
      obtain ⟨_, _, _, q⟩ := hh
      exact q.elim
    | cont =>
      obtain ⟨_, _, _, q⟩ := hh
      exact q.elim
end

/-! ### a caught exception that bears a dict -/
/-- the caught exception as data -/
def xcD (a : Addr) : Option Addr → Option (List (Str × D)) → D
  | some d, some fs => .xc a d fs
  | _, _ => .adr a
section
variable {X : Cx} {ρ : List SD}
def rIsX (K : PySem.W.Frag) (C a d : Addr) : List V → Hp → VK → Prop := fun xs H Q => ∃ (c : V) (cv : Value) (b : Bool) (vs : List (Str × V)), xs = [.ref a, c] ∧ H d = some (.xd vs) ∧ (∀ u, RelV c u → u = cv) ∧ PySem.W.kitOne K (.ref C) cv = some b ∧ Q (.bl b) H
theorem call_isX {a C d : Addr} {oe : Obj} {pn : List (Addr × Obj)} (F : ExcC X.K C) (hz : Zc (.ref C) (some d) oe) (hf : ∃ vs, oe.data = .fields vs) : CallR (X.suite a ((a, oe) :: pn)) (.builtin "isinstance") (rIsX X.K C a d) := fun pins s σ H xs us Q I r h => by
  obtain ⟨c, cv, b, fs, hx, hd, hc, hk, hQ⟩ := h
  subst hx
  obtain ⟨u0, r, r0, e0⟩ : ∃ u0 us', RelV (.ref a) u0 ∧ us = u0 :: us' ∧ Vals [c] us' := by cases r with | cons p q => exact ⟨_, _, p, rfl, q⟩
  obtain ⟨e0, r1⟩ := e0
  obtain ⟨u1, r2, e1⟩ : ∃ u1, RelV c u1 ∧ r = [u1] := by
    cases r1 with
    | cons p q => cases q; exact ⟨_, p, rfl⟩
  subst e0; subst e1
  obtain rfl : u0 = .ref a := r0
  obtain rfl : u1 = cv := hc _ r2
  obtain ⟨mA, hns, _⟩ := (show ObjOk X.prog X.w H s.heap d (.xd fs) from I.hok d _ hd)
  obtain ⟨od, hod, _⟩ := lookIn_ns hns
  have ha := (I.pin (a, oe) (List.mem_append_left _ List.mem_cons_self)).1
  obtain ⟨vs, hv⟩ := hf
  have J : PySem.W.InstAt s.heap a oe C (some od) := ⟨ha, hz.1, by unfold PySem.W.notCls; rw [hv] <;> rfl, by rw [hz.2]; exact hod⟩
  have hsome : (PySem.W.clsIn X.K C).isSome = true := by obtain ⟨cd, z, _⟩ := PySem.W.any_some F.hd; rw [z]; rfl
  exact PySem.W.kia_one (PySem.W.kitx_exc hsome F.hg F.hk F.hs F.ha F.hn F.ht F.hm) I.kIn J hk (fun z => nomatch z) fun tk => ⟨.bl b, H, I.kept (t' := tk) fun _ _ z => z, rfl, hQ⟩
theorem cd_isX {a C C2 d : Addr} {fs : List (Str × D)} {oe : Obj} {pn : List (Addr × Obj)} {b : Bool} (F : ExcC X.K C) (hz : Zc (.ref C) (some d) oe) (hf : ∃ vs, oe.data = .fields vs) (h : PySem.W.kitOne X.K (.ref C) (.ref C2) = some b) : CallD (X.suite a ((a, oe) :: pn)) (.builtin "isinstance") [.xc a d fs, .adr C2] (.bl b) :=
  ⟨_, call_isX F hz hf, fun H M vs dm r Q q => by
    obtain ⟨x1, r1, rfl, h1, x2, r2, rfl, h2, rfl⟩ := r
    obtain ⟨h1, xs, _, hd, _⟩ := h1
    rw [h1, show x2 = .ref C2 from h2]
    exact ⟨.ref C2, .ref C2, b, xs, rfl, hd, fun u hu => hu, h, q _ H (Ex.refl H) rfl⟩⟩
/-- err.f -/
theorem ed_xf {a C d : Addr} {fs : List (Str × D)} {oe : Obj} {pn : List (Addr × Obj)} {e : Expr} {n : Str} {pos : Pos} {y : D} (T : XfC X.K C) (hno : PySem.W.findIn X.K (.ref C) n = some none) (hz : Zc (.ref C) (some d) oe) (hf : ∃ vs, oe.data = .fields vs)
    (he : ED (X.suite a ((a, oe) :: pn)) ρ e (.xc a d fs)) (hl : fs.lookup n = some y) (hb : attributeBase e n X.env (eval e X.env) = eval e X.env := by rfl) : ED (X.suite a ((a, oe) :: pn)) ρ (.Attribute e n pos) y :=
  pe_w (pe_xf T hno hz hf he hb) fun σ H Q ⟨H0, M0, E, q⟩ => ⟨H0, M0, E, fun v H1 e1 r => by
    obtain ⟨rv, vs, m, hd, rf⟩ := r
    obtain ⟨v, lv, ry⟩ := rf.look hl
    exact ⟨rv, rfl, d, vs, v, rfl, hd, lv, q v H1 e1 ry⟩⟩
end
section
variable {X : Cx} {W : WX} {ρ : List SD} {x n : Str} {c : Value} {i : Nat} {body suite rest : List Stmt} {b₀ : Stmt} {np pos pos' : Pos} {R : Po}
/-- what an exception of the body leads to; its dict, if it has one, bears an int -/
def CaughtG (X : Cx) (c : Value) (i : Nat) (sts : List Stmt) (R : Po) (ρ' : List SD) (c1 : Value) (fs : Option (List (Str × D))) : Prop := PySem.W.exmOne X.K c1 c = some true ∧ i < ρ'.length ∧
  ∀ (a : Addr) (dd : Option Addr) (oe : Obj) (pn : List (Addr × Obj)), (dd = none ↔ fs = none) → Zc c1 dd oe → (∃ vs, oe.data = .fields vs) → SDs (X.suite a ((a, oe) :: pn)) WF (ρ'.set i (.val (xcD a dd fs))) sts { nx := fun ρ'' => R.nx (ρ''.set i .no), rt := R.rt }
def IntF (fs : Option (List (Str × D))) : Prop := fs = none ∨ ∃ f k, fs = some [(f, .int k)]
theorem xd_no {K : PySem.W.Frag} {H : Hp} {M : MS} {d : Addr} {vs : List (Str × V)} {y : D} (h : H d = some (.xd vs)) (q2 : OwnAt K H M d y) : False := by
  cases y with
  | lst _ => obtain ⟨xs, q, _⟩ := q2; rw [h] at q; cases q
  | obj _ _ => obtain ⟨dx, xs, q, _⟩ := q2; rw [h] at q; cases q
  | me _ _ _ => obtain ⟨_, dx, xs, q, _⟩ := q2; rw [h] at q; cases q
  | dk _ => obtain ⟨xs, q, _⟩ := q2; rw [h] at q; cases q
  | dt _ => obtain ⟨xs, q, _⟩ := q2; rw [h] at q; cases q
  | _ => exact q2
theorem xd_free {K : PySem.W.Frag} {H0 H : Hp} {M0 : MS} {ρ : List SD} {σ : L2.St} {d : Addr} {vs : List (Str × V)} (E : EnvOk K H0 M0 ρ σ H) (h : H d = some (.xd vs)) (m : ¬ M0 d) : ¬ Mo M0 ρ σ d := fun z => by
  rcases z with (z | ⟨j, μ, y, h1, h2⟩) | ⟨j, ⟨y, h1⟩, h2⟩
  · exact m z
  · exact xd_no h (E.st j μ h1 d y h2)
  · obtain ⟨b, q1, q2⟩ := E.own j y h1
    rw [h2] at q1; cases q1
    exact xd_no h q2
theorem sd1_tryAsG (hs : X.stack = X.env :: X.outer) (hf : X.env.frame = some X.env.locals) (hN : X.N.Nodup) (hi : X.N[i]? = some n) (hln : X.env.kindOf n = some .local) (hc : Names X x c) (tk : Takes X W) {Ex1 : List SD → Value → Option (List (Str × D)) → Prop}
    (hb : ∀ (W' : WX) (pn : List (Addr × Obj)) (xe : Value → Shared → Prop), Takes (X.tr pn xe) W' → PassesOwn (model X.prog X.w) X.A X.env xe → SDs (X.tr pn xe) W' ρ body { nx := R.nx, rt := R.rt, ex := Ex1 })
    (hx : ∀ ρ' c1 fs, Ex1 ρ' c1 fs → IntF fs ∧ (CaughtG X c i (b₀ :: suite) R ρ' c1 fs ∨ PySem.W.exmOne X.K c1 c = some false ∧ R.ex ρ' c1 fs)) :
    SD1 X W ρ (.Try body [.ExceptHandler (some (.Name x np)) (some n) (b₀ :: suite) pos'] [] [] pos) R := by
  refine ps_w (ps_try_as (i := i) (tb := fun W' => tS X.K W' ρ { nx := R.nx, rt := R.rt, ex := Ex1 })
    (ts := fun a cls d Dn σ H => ∃ q : List SD × Value × Option (List (Str × D)), (CaughtG X c i (b₀ :: suite) R q.1 q.2.1 q.2.2 ∧ cls = q.2.1 ∧ (d = none ↔ q.2.2 = none)) ∧ tS X.K WF (q.1.set i (.val (xcD a d q.2.2))) { nx := fun ρ'' => R.nx (ρ''.set i .no), rt := R.rt } Dn σ H)
    hs hf hN hi hln hc tk hb (fun a oe cls d pn hz hv => pss_fam (p := fun q : List SD × Value × Option (List (Str × D)) => CaughtG X c i (b₀ :: suite) R q.1 q.2.1 q.2.2 ∧ cls = q.2.1 ∧ (d = none ↔ q.2.2 = none)) fun q hq => ?_)) fun Dn σ H ⟨H0, M0, E, q1, q2, q3, q4, q5⟩ => ?_
  · obtain ⟨h1, e1, e2⟩ := hq
    subst e1
    exact h1.2.2 a d oe pn e2 hz hv
  · refine ⟨H0, M0, E, q1, q2, fun _ _ _ z => z.elim, fun _ _ _ z => z.elim, fun ρ' c1 fs cls dd σ' H' h1 E1 r1 => ?_⟩
    obtain ⟨hi1, h2⟩ := hx ρ' c1 fs h1
    have er : cls = c1 := r1.1
    subst er
    rcases h2 with h2 | ⟨h2, h3⟩
    · have key : (dd = none ↔ fs = none) ∧ ∀ a : Addr, Rp X.K H' (Mo M0 ρ' σ') (xcD a dd fs) (.ref a) := by
        rcases hi1 with z | ⟨f, k, z⟩
        · subst z
          have z2 : dd = none := r1.2
          subst z2
          exact ⟨⟨fun _ => rfl, fun _ => rfl⟩, fun a => rfl⟩
        · subst z
          obtain ⟨d, vs, z2, m, hd, rf⟩ := r1.2
          subst z2
          refine ⟨⟨(fun z => nomatch z), (fun z => nomatch z)⟩, fun a => ⟨rfl, vs, xd_free E1 hd m, hd, ?_⟩⟩
          obtain ⟨v, r, e1, r1, e2⟩ := rf
          exact ⟨v, r, e1, r1, e2⟩
      refine ⟨true, h2.1, fun _ a _ => ⟨(ρ', cls, fs), ⟨h2, rfl, key.1⟩, H0, M0, E1.set (by rw [← E1.len]; exact h2.2.1) (key.2 a), fun ρ5 σ5 H5 z E5 => q1 _ _ _ z E5.clear, q2, fun _ _ _ z => z.elim, fun _ _ _ z => z.elim, fun _ _ _ _ _ _ _ z => z.elim⟩, fun z => nomatch z⟩
    · exact ⟨false, h2, fun z => (nomatch z), fun _ => q5 ρ' cls fs cls dd σ' H' h3 E1 r1⟩
theorem sds_tryAsG (hs : X.stack = X.env :: X.outer) (hf : X.env.frame = some X.env.locals) (hN : X.N.Nodup) (hi : X.N[i]? = some n) (hln : X.env.kindOf n = some .local) (hc : Names X x c) (tk : Takes X W) {Ex1 : List SD → Value → Option (List (Str × D)) → Prop}
    (hb : ∀ (W' : WX) (pn : List (Addr × Obj)) (xe : Value → Shared → Prop), Takes (X.tr pn xe) W' → PassesOwn (model X.prog X.w) X.A X.env xe → SDs (X.tr pn xe) W' ρ body { nx := fun ρ1 => SDs X W ρ1 rest R, rt := R.rt, ex := Ex1 })
    (hx : ∀ ρ' c1 fs, Ex1 ρ' c1 fs → IntF fs ∧ (CaughtG X c i (b₀ :: suite) { R with nx := fun ρ1 => SDs X W ρ1 rest R } ρ' c1 fs ∨ PySem.W.exmOne X.K c1 c = some false ∧ R.ex ρ' c1 fs)) :
    SDs X W ρ (.Try body [.ExceptHandler (some (.Name x np)) (some n) (b₀ :: suite) pos'] [] [] pos :: rest) R :=
  sds_k (sd1_tryAsG hs hf hN hi hln hc tk hb hx)
end
end RW
namespace RW
open PySem PySem.Spec PyProof.Rows L2
theorem free_of {l : List (Str × NameKind)} (h : l.all (fun y => !(decide (y.2 = .cell) || decide (y.2 = .free)) || decide (y.1 = ("__class__" : Str))) = true) (x : Str) (hx : l.lookup x = some .cell ∨ l.lookup x = some .free) : x = ("__class__" : Str) := by
  rcases hx with hx | hx
  all_goals
    have h2 := List.all_eq_true.mp h _ (PySem.mem_of_lookup hx)
    simpa using h2
end RW

end
section
/-! except (A, B, C): without a name; enumerate and for over a list or a tuple -/
namespace RW
open PySem PySem.Spec PyProof.Rows L2
theorem up_grow {h h' : Heap} (k : ∀ b o, h.get? b = some o → h'.get? b = some o) : h.UpToSlots h' := fun b o q _ => ⟨o.slots, k b o q⟩
theorem fly_grow {B h h' : Heap} {l : List Env} {a : Addr} {Z : Obj → Prop} (k : ∀ b o, h.get? b = some o → h'.get? b = some o) (f : HandSPX.FlyingZ B l a Z h) : HandSPX.FlyingZ B l a Z h' := by
  obtain ⟨f1, f2, f3, oe, vs, T, oT, ts, g1, g2, g3, g4, g5, g6, g7, g8, g9⟩ := f
  exact ⟨fun b o q => k b o (f1 b o q), f2, f3.of_keeps fun b o q _ => ⟨o, k b o q, rfl⟩, oe, vs, T, oT, ts, k _ _ g1, g2, g3, g4, g5, g6, k _ _ g7, g8, g9⟩
/-- an exception that lies before the clauses; sI: the state without it -/
structure Air (X : Cx) (pins : List (Addr × Obj)) (σ : L2.St) (H : Hp) (B : Heap) (sI : Shared) (a : Addr) (cls : Value) (d : Option Addr) (s : Shared) : Prop where
  stk : X.stack = X.env :: X.outer
  fr : X.env.frame = some X.env.locals
  inv : Inv X pins σ H sI
  nb : ∀ b o, sI.heap.get? b = some o → b ∉ frs X.stack → B.get? b = some o
  up : sI.heap.UpToSlots s.heap
  na : H a = none
  os : s.os = sI.os
  ag : AllBare s.gens
  fl : HandSPX.FlyingZ B (X.env :: X.outer) a (Zc cls d) s.heap
section
variable {X : Cx} {pins : List (Addr × Obj)} {σ : L2.St} {H : Hp} {B : Heap} {sI s : Shared} {a : Addr} {cls : Value} {d : Option Addr} {D : Ends} {W : WX} {ts : TS} {b₀ : Stmt} {suite : List Stmt}
theorem Air.grow {h' : Heap} {t : Nat} (x : Air X pins σ H B sI a cls d s) (k : ∀ b o, s.heap.get? b = some o → h'.get? b = some o) : Air X pins σ H B sI a cls d { s with heap := h', toks := t } :=
  ⟨x.stk, x.fr, x.inv, x.nb, x.up.trans (up_grow k), x.na, x.os, x.ag, fly_grow k x.fl⟩
theorem Air.at {h' : Heap} (x : Air X pins σ H B sI a cls d s) (f : HandSPX.FlyingZ B (X.env :: X.outer) a (Zc cls d) h') (u : s.heap.UpToSlots h') : Air X pins σ H B sI a cls d { s with heap := h' } :=
  ⟨x.stk, x.fr, x.inv, x.nb, x.up.trans u, x.na, x.os, x.ag, f⟩
theorem Air.kept (x : Air X pins σ H B sI a cls d s) : Inv X pins σ H s := x.inv.landed x.nb x.fl.1 x.up x.os x.ag
theorem Air.held (x : Air X pins σ H B sI a cls d s) : ∃ oe vs, s.heap.get? a = some oe ∧ Zc cls d oe ∧ oe.data = .fields vs ∧ Inv (X.suite a ((a, oe) :: (X.pn ++ pins))) [] σ H s := by
  obtain ⟨oe, vs, h1, h2, h3⟩ := x.fl.there
  have out : a ∉ frs (X.env :: X.outer) := fun m => by
    obtain ⟨_, o2, e2, n2⟩ := x.fl.2.2.1.mem m
    rw [h1] at e2; cases e2
    exact n2 _ h3
  refine ⟨oe, vs, h1, h2, h3, x.kept.suite h1 h3 x.na (fun z => out ?_) fun m => out ?_⟩
  · exact List.mem_filterMap.mpr ⟨X.env, List.mem_cons_self, by rw [x.fr, z]⟩
  · obtain ⟨y, y1, y2⟩ := List.mem_filterMap.mp m
    exact List.mem_filterMap.mpr ⟨y, List.mem_cons_of_mem _ y1, y2⟩
/-- the suite runs -/
theorem Air.run {E E' : Value → Shared → Prop} (x : Air X pins σ H B sI a cls d s) (hsu : ∀ oe, Zc cls d oe → (∃ vs, oe.data = .fields vs) → PSs (X.suite a ((a, oe) :: (X.pn ++ pins))) (b₀ :: suite) ts) (q : ts D σ H) :
    wpAny (model X.prog X.w) (X.A.mark (some (.ref a))) (setFlight (.ref a) none) (fun _ s₁ => wpAny (model X.prog X.w) (X.A.mark (some (.ref a))) (execs (b₀ :: suite) X.env) (fun f s₂ => SP X pins D f s₂) E s₁) E' s :=
  HandSPX.lands_againZ x.fl fun h4 f4 u4 => by
    obtain ⟨oe, vs, _, h2, h3, S⟩ := (x.at f4 u4).held
    refine wpAny_mono ((hsu oe h2 ⟨_, h3⟩).run [] _ _ H D S q) (fun f s6 y => ?_) fun _ _ z => False.elim z
    have ok := x.inv.ok
    cases f with
    | next => obtain ⟨σ6, H6, S6, q6⟩ := y; exact ⟨σ6, H6, S6.unsuite ok, q6⟩
    | brk => obtain ⟨σ6, H6, S6, q6⟩ := y; exact ⟨σ6, H6, S6.unsuite ok, q6⟩
    | cont => obtain ⟨σ6, H6, S6, q6⟩ := y; exact ⟨σ6, H6, S6.unsuite ok, q6⟩
    | ret u => obtain ⟨v6, σ6, H6, S6, r6, q6⟩ := y; exact ⟨v6, σ6, H6, S6.unsuite ok, r6, q6⟩
/-- no clause takes it -/
theorem Air.pass (x : Air X pins σ H B sI a cls d s) (tk : Takes X W) (w : W cls d σ H) : wpAny (model X.prog X.w) X.A (handleBy (.ref a) X.env []) (SP X pins D) X.xe s := by
  refine wpAny_handleBy_nil ?_
  obtain ⟨_, _, _, oe, vs, T, oT, tr, he, hz, hd, h1, _⟩ := id x.fl
  have last : wpAny (model X.prog X.w) X.A (setFlight (.ref a) X.env.frame) (fun _ s4 => wpAny (model X.prog X.w) X.A (throw (.ref a) : Sem Flow) (SP X pins D) X.xe s4) X.xe s := by
    rw [x.fr]
    refine HandSPX.setFlight_upZ x.fl fun h4 f4 u4 => wpAny_throw (tk _ _ ?_)
    exact ⟨a, B, sI, pins, σ, H, cls, d, rfl, x.inv, x.nb, x.up.trans u4, .inr (.inr (by rw [x.stk]; exact f4)), x.na, x.os, x.ag, w⟩
  unfold PySem.passOn
  refine wpAny_bind (wpAny_field he hd h1 ?_)
  rw [if_neg (show ¬ ((Value.ref T == Value.none) = true) by simp)]
  first | exact wpAny_bind (wpAny_pure (wpAny_bind last)) | exact wpAny_bind last
end
/-- what 'except (A, B, C)' makes of an exception of the body -/
def wTup (K : PySem.W.Frag) (cs : List Value) (ts : Addr → Value → Option Addr → TS) (W : WX) (D : Ends) : WX := fun cls d σ H => ∃ b, PySem.W.exmAny K cls cs = some b ∧ (b = true → ∀ a, H a = none → ts a cls d D σ H) ∧ (b = false → W cls d σ H)
section
variable {X : Cx} {W : WX} {x1 x2 x3 : Str} {c1 c2 c3 : Value} {p1 p2 p3 tpos pos pos' : Pos} {kk : Nat} {body suite : List Stmt} {b₀ : Stmt} {tb : WX → TS} {ts : Addr → Value → Option Addr → TS}
theorem ps_try_tup3 (hs : X.stack = X.env :: X.outer) (hf : X.env.frame = some X.env.locals) (g1 : Gl X x1) (g2 : Gl X x2) (g3 : Gl X x3) (m1 : X.mg x1 = some c1) (m2 : X.mg x2 = some c2) (m3 : X.mg x3 = some c3) (tk : Takes X W)
    (hb : ∀ (W' : WX) (pn : List (Addr × Obj)) (xe : Value → Shared → Prop), Takes (X.tr pn xe) W' → PassesOwn (model X.prog X.w) X.A X.env xe → PSs (X.tr pn xe) body (tb W'))
    (hsu : ∀ (a : Addr) (oe : Obj) (cls : Value) (d : Option Addr) (pn : List (Addr × Obj)), Zc cls d oe → (∃ vs, oe.data = .fields vs) → PSs (X.suite a ((a, oe) :: pn)) (b₀ :: suite) (ts a cls d))
    (s1 : starEach [.Name x1 p1, .Name x2 p2, .Name x3 p3] X.env = [(false, eval (.Name x1 p1) X.env), (false, eval (.Name x2 p2) X.env), (false, eval (.Name x3 p3) X.env)] := by rfl)
    (d1 : (x1 == ("__debug__" : Str)) = false := by decide) (d2 : (x2 == ("__debug__" : Str)) = false := by decide) (d3 : (x3 == ("__debug__" : Str)) = false := by decide) :
    PS X (.Try body [.ExceptHandler (some (.Tuple [.Name x1 p1, .Name x2 p2, .Name x3 p3] kk tpos)) none (b₀ :: suite) pos'] [] [] pos) (fun D σ H => tb (wTup X.K [c1, c2, c3] ts W D) D σ H) := ⟨fun pins s σ H D I h => by
  have ok := I.ok
  have fr : X.A.frames = some (X.env :: X.outer) := by rw [ok.frames, hs]
  refine wpAny_Try_except (wpAny_mono ((hb (wTup X.K [c1, c2, c3] ts W D) (X.pn ++ pins) (fun e s₁ => wpAny (model X.prog X.w) X.A (noteFrame e X.env) (fun _ s₂ => wpAny (model X.prog X.w) X.A (setFlight e none) (fun _ s₃ =>
    wpAny (model X.prog X.w) X.A (handleBy e X.env [.ExceptHandler (some (.Tuple [.Name x1 p1, .Name x2 p2, .Name x3 p3] kk tpos)) none (b₀ :: suite) pos']) (SP X pins D) X.xe s₃) X.xe s₂) X.xe s₁) (fun u s' xx => ?_) PassesOwn.looking).run [] s σ H D (I.toTry _) h) (fun f s1 y => ?_) fun e s1 y => y)
  · obtain ⟨a, B, sI, _, σ', H', cls, d, rfl, J', nb, up, sky, na, os, ag, b, hx, yes, no⟩ := xx
    have sk : Sky B (X.env :: X.outer) a (Zc cls d) X.env.locals s'.heap := by rw [← hs]; exact sky
    show wpAny (model X.prog X.w) X.A (noteFrame (.ref a) X.env) _ _ _
    refine Sky.land Zc.steady fr hf sk fun h3 f3 u3 => ?_
    have y3 : Air X pins σ' H' B sI a cls d { s' with heap := h3 } := ⟨hs, hf, J'.ofTry ok, nb, up.trans u3, na, os, ag, f3⟩
    obtain ⟨oe, vs, he, hz, hd, S3⟩ := y3.held
    refine wpAny_handleBy_cons (codeAny_handlers_test ?_) (by intro q; cases q)
    refine wpAny_Tuple_spliced ?_
    have hbk : backTo tpos (starEach [.Name x1 p1, .Name x2 p2, .Name x3 p3] X.env) = [(false, eval (.Name x1 p1) X.env), (false, eval (.Name x2 p2) X.env), (false, eval (.Name x3 p3) X.env)] := by rw [s1]; rfl
    rw [hbk]
    refine Calls.spliced_cons (ld_glob (X := X.suite a ((a, oe) :: (X.pn ++ pins))) S3 g1 m1 ?_ d1)
    refine Calls.spliced_cons (ld_glob (X := X.suite a ((a, oe) :: (X.pn ++ pins))) S3 g2 m2 ?_ d2)
    refine Calls.spliced_cons (ld_glob (X := X.suite a ((a, oe) :: (X.pn ++ pins))) S3 g3 m3 ?_ d3)
    refine Calls.spliced_nil ⟨by show 3 ≤ sizeLine; rw [sizeLine_eq]; decide, ?_⟩
    have kg : ∀ b o, h3.get? b = some o → (h3.push { cls := .type "tuple", data := .seq [c1, c2, c3].toArray }).get? b = some o := fun b o q => Heap.get?_push_of_some _ q
    have x4 := y3.grow (t := s'.toks) kg
    obtain ⟨oe4, vs4, he4, hz4, hd4, S4⟩ := x4.held
    have LT : PySem.W.Looks (model X.prog X.w) (h3.push { cls := .type "tuple", data := .seq [c1, c2, c3].toArray }) (typeOf (.ref a)) cls := fun A Q E s k q => wpAny_typeOf_ref (k _ _ he4) (by rw [hz4.1]; exact q)
    have LM := PySem.W.exm_tup3 (M := model X.prog X.w) x4.kept.kIn LT (Heap.get?_push_at rfl rfl) hx
    refine LM.here ?_
    cases b with
    | true =>
      refine codeAny_handlers_suite ?_
      exact x4.run (fun oe hz hd => hsu a oe cls d (X.pn ++ pins) hz hd) (yes rfl a na)
    | false => exact x4.pass tk (no rfl)
  · cases f with
    | next => obtain ⟨σ', H', J', q⟩ := y; exact wpAny_execs_nil ⟨σ', H', J'.ofTry ok, q⟩
    | brk => obtain ⟨σ', H', J', q⟩ := y; exact ⟨σ', H', J'.ofTry ok, q⟩
    | cont => obtain ⟨σ', H', J', q⟩ := y; exact ⟨σ', H', J'.ofTry ok, q⟩
    | ret u => obtain ⟨v, σ', H', J', r, q⟩ := y; exact ⟨v, σ', H', J'.ofTry ok, r, q⟩⟩
end
section
variable {X : Cx} {W : WX} {ρ : List SD} {x1 x2 x3 : Str} {c1 c2 c3 : Value} {p1 p2 p3 tpos pos pos' : Pos} {kk : Nat} {body suite rest : List Stmt} {b₀ : Stmt} {R : Po}
/-- each exception of the body is taken -/
theorem sd1_tryTup3 (hs : X.stack = X.env :: X.outer) (hf : X.env.frame = some X.env.locals) (g1 : Gl X x1) (g2 : Gl X x2) (g3 : Gl X x3) (m1 : X.mg x1 = some c1) (m2 : X.mg x2 = some c2) (m3 : X.mg x3 = some c3) (tk : Takes X W) {Ex1 : List SD → Value → Option (List (Str × D)) → Prop}
    (hb : ∀ (W' : WX) (pn : List (Addr × Obj)) (xe : Value → Shared → Prop), Takes (X.tr pn xe) W' → PassesOwn (model X.prog X.w) X.A X.env xe → SDs (X.tr pn xe) W' ρ body { nx := R.nx, rt := R.rt, ex := Ex1 })
    (hx : ∀ ρ' c fs, Ex1 ρ' c fs → PySem.W.exmAny X.K c [c1, c2, c3] = some true ∧ ∀ (a : Addr) (dd : Option Addr) (oe : Obj) (pn : List (Addr × Obj)), Zc c dd oe → (∃ vs, oe.data = .fields vs) → SDs (X.suite a ((a, oe) :: pn)) WF ρ' (b₀ :: suite) { nx := R.nx, rt := R.rt })
    (s1 : starEach [.Name x1 p1, .Name x2 p2, .Name x3 p3] X.env = [(false, eval (.Name x1 p1) X.env), (false, eval (.Name x2 p2) X.env), (false, eval (.Name x3 p3) X.env)] := by rfl)
    (d1 : (x1 == ("__debug__" : Str)) = false := by decide) (d2 : (x2 == ("__debug__" : Str)) = false := by decide) (d3 : (x3 == ("__debug__" : Str)) = false := by decide) :
    SD1 X W ρ (.Try body [.ExceptHandler (some (.Tuple [.Name x1 p1, .Name x2 p2, .Name x3 p3] kk tpos)) none (b₀ :: suite) pos'] [] [] pos) R := by
  refine ps_w (ps_try_tup3 (tb := fun W' => tS X.K W' ρ { nx := R.nx, rt := R.rt, ex := Ex1 })
    (ts := fun a cls d Dn σ H => ∃ q : List SD × Value × Option (List (Str × D)), (Ex1 q.1 q.2.1 q.2.2 ∧ cls = q.2.1) ∧ tS X.K WF q.1 { nx := R.nx, rt := R.rt } Dn σ H)
    hs hf g1 g2 g3 m1 m2 m3 tk hb (fun a oe cls d pn hz hv => pss_fam (p := fun q : List SD × Value × Option (List (Str × D)) => Ex1 q.1 q.2.1 q.2.2 ∧ cls = q.2.1) fun q hq => ?_) s1 d1 d2 d3) fun Dn σ H ⟨H0, M0, E, q1, q2, q3, q4, q5⟩ => ?_
  · obtain ⟨h1, e1⟩ := hq
    subst e1
    exact (hx _ _ _ h1).2 a d oe pn hz hv
  · refine ⟨H0, M0, E, q1, q2, fun _ _ _ z => z.elim, fun _ _ _ z => z.elim, fun ρ' c fs cls dd σ' H' h1 E1 r1 => ?_⟩
    have ec : cls = c := r1.1
    subst ec
    exact ⟨true, (hx _ _ _ h1).1, fun _ a _ => ⟨(ρ', cls, fs), ⟨h1, rfl⟩, H0, M0, E1, q1, q2, fun _ _ _ z => z.elim, fun _ _ _ z => z.elim, fun _ _ _ _ _ _ _ z => z.elim⟩, fun z => nomatch z⟩
theorem sds_tryTup3 (hs : X.stack = X.env :: X.outer) (hf : X.env.frame = some X.env.locals) (g1 : Gl X x1) (g2 : Gl X x2) (g3 : Gl X x3) (m1 : X.mg x1 = some c1) (m2 : X.mg x2 = some c2) (m3 : X.mg x3 = some c3) (tk : Takes X W) {Ex1 : List SD → Value → Option (List (Str × D)) → Prop}
    (hb : ∀ (W' : WX) (pn : List (Addr × Obj)) (xe : Value → Shared → Prop), Takes (X.tr pn xe) W' → PassesOwn (model X.prog X.w) X.A X.env xe → SDs (X.tr pn xe) W' ρ body { nx := fun ρ1 => SDs X W ρ1 rest R, rt := R.rt, ex := Ex1 })
    (hx : ∀ ρ' c fs, Ex1 ρ' c fs → PySem.W.exmAny X.K c [c1, c2, c3] = some true ∧ ∀ (a : Addr) (dd : Option Addr) (oe : Obj) (pn : List (Addr × Obj)), Zc c dd oe → (∃ vs, oe.data = .fields vs) → SDs (X.suite a ((a, oe) :: pn)) WF ρ' (b₀ :: suite) { nx := fun ρ1 => SDs X W ρ1 rest R, rt := R.rt })
    (s1 : starEach [.Name x1 p1, .Name x2 p2, .Name x3 p3] X.env = [(false, eval (.Name x1 p1) X.env), (false, eval (.Name x2 p2) X.env), (false, eval (.Name x3 p3) X.env)] := by rfl)
    (d1 : (x1 == ("__debug__" : Str)) = false := by decide) (d2 : (x2 == ("__debug__" : Str)) = false := by decide) (d3 : (x3 == ("__debug__" : Str)) = false := by decide) :
    SDs X W ρ (.Try body [.ExceptHandler (some (.Tuple [.Name x1 p1, .Name x2 p2, .Name x3 p3] kk tpos)) none (b₀ :: suite) pos'] [] [] pos :: rest) R :=
  sds_k (sd1_tryTup3 hs hf g1 g2 g3 m1 m2 m3 tk hb hx s1 d1 d2 d3)
theorem exmAny3 {K : PySem.W.Frag} {t : Value} {b1 b2 b3 : Bool} (h1 : PySem.W.exmOne K t c1 = some b1) (h2 : PySem.W.exmOne K t c2 = some b2) (h3 : PySem.W.exmOne K t c3 = some b3) (h : (b1 || (b2 || (b3 || false))) = true) : PySem.W.exmAny K t [c1, c2, c3] = some true := by
  simp only [PySem.W.exmAny, h1, h2, h3]
  rw [h]
end
section
variable {X : Cx} {ρ : List SD} {tg e : Expr} {elts : List Expr} {kk : Nat} {p pos tpos : Pos}
theorem wd_sq {t : Bool} {ds : List D} (h : ED X ρ e (sqD t ds)) : WD X ρ tg e ds := by
  cases t with
  | true => exact wd_tup h
  | false => exact wd_list h
theorem wd_enumS {α : Type} {f : α → D} {xs : List α} {t : Bool} (h : ED X ρ e (sqD t (xs.map f))) (hg : Gl X "enumerate") (hm : X.mg "enumerate" = none) (hs : starEach [e] X.env = (false, eval e X.env) :: starEach [] X.env := by rfl) :
    WD X ρ (.Tuple elts kk tpos) (.Call (.Name "enumerate" p) [e] [] pos) ((enumL xs).map fun q => .tup [.int q.1, f q.2]) := (show numbered 0 (xs.map f) = (enumL xs).map (fun q => .tup [.int q.1, f q.2]) from numbered_map f xs 0) ▸ wd_enum (t := t) h hg hm hs
end
/-- the last one -/
theorem atI_last {α : Type} {f : α → D} {xs : List α} {d : α} (h : xs ≠ []) : atI (xs.map f) (-1) = some (f (xs.getLastD d)) := by
  obtain ⟨ys, y, rfl⟩ : ∃ ys y, xs = ys ++ [y] := ⟨xs.dropLast, xs.getLast h, (List.dropLast_concat_getLast h).symm⟩
  unfold atI ixN
  rw [if_neg (by decide), if_pos (by rw [List.length_map, List.length_append]; show -((_ + 1 : Nat) : Int) ≤ -1; omega)]
  have e : (-1 + (((ys ++ [y]).map f).length : Int)).toNat = ys.length := by rw [List.length_map, List.length_append]; show (-1 + ((ys.length + 1 : Nat) : Int)).toNat = _; omega
  rw [Option.bind_some, e]
  simp
theorem atI_app1 {ds : List D} {d : D} : atI (ds ++ [d]) (-1) = some d := by
  unfold atI ixN
  rw [if_neg (by decide), if_pos (by rw [List.length_append]; show -((_ + 1 : Nat) : Int) ≤ -1; omega)]
  have e : (-1 + ((ds ++ [d]).length : Int)).toNat = ds.length := by rw [List.length_append]; show (-1 + ((ds.length + 1 : Nat) : Int)).toNat = _; omega
  rw [Option.bind_some, e]
  simp
section
variable {X : Cx} {ρ : List SD} {x : Str} {ds : List D} {p p2 pos : Pos} {i j : Int}
theorem cd_max2 (hc : X.calm = true) : CallD X (.builtin "max") [.int i, .int j] (.int (if j > i then j else i)) := ⟨_, call_max2 hc, fun H M vs dm r Q q => by
  obtain ⟨x1, r1, rfl, h1, x2, r2, rfl, h2, rfl⟩ := r
  exact ⟨i, j, by rw [show x1 = .int i from h1, show x2 = .int j from h2], q _ H (Ex.refl H) rfl⟩⟩
theorem cd_min2 (hc : X.calm = true) : CallD X (.builtin "min") [.int i, .int j] (.int (if j < i then j else i)) := ⟨_, call_min2 hc, fun H M vs dm r Q q => by
  obtain ⟨x1, r1, rfl, h1, x2, r2, rfl, h2, rfl⟩ := r
  exact ⟨i, j, by rw [show x1 = .int i from h1, show x2 = .int j from h2], q _ H (Ex.refl H) rfl⟩⟩
/-- len(xs), xs owned -/
theorem ed_lenO (k : Nat) (hρ : ρ[k]? = some (.own (.lst ds))) (hN : X.N[k]? = some x) (hv : Vis X.env.scope x) (hg : Gl X "len") (hm : X.mg "len" = none) (hd : (x == ("__debug__" : Str)) = false := by decide) (hcd : (x == ("__classdict__" : Str)) = false := by decide)
    (he : starEach (.Name x p2 :: []) X.env = (false, eval (.Name x p2) X.env) :: starEach [] X.env := by rfl) (hpl : (backTo pos (starEach [] X.env)).any (·.1) = false := by rfl) : ED X ρ (.Call (.Name "len" p) [.Name x p2] [] pos) (.int (ds.length : Nat)) :=
  pe_w (pe_callB call_len_seq hg hm PySem.boot_len (pa_cons (ed_own k hρ hN hv hd hcd) pa_nil he) (by decide) (by decide) he hpl) fun σ H Q ⟨H0, M0, E, q⟩ => ⟨H0, M0, E, fun a hp hO => by
    obtain ⟨xs, hx, rx⟩ := hO
    exact ⟨a, xs, rfl, .inl (SqL.of hx), by rw [rx.length]; exact q _ H (Ex.refl H) rfl⟩⟩
theorem ed_lenOM {α : Type} {f : α → D} {xs : List α} (k : Nat) (hρ : ρ[k]? = some (.own (.lst (xs.map f)))) (hN : X.N[k]? = some x) (hv : Vis X.env.scope x) (hg : Gl X "len") (hm : X.mg "len" = none) (hd : (x == ("__debug__" : Str)) = false := by decide) (hcd : (x == ("__classdict__" : Str)) = false := by decide)
    (he : starEach (.Name x p2 :: []) X.env = (false, eval (.Name x p2) X.env) :: starEach [] X.env := by rfl) (hpl : (backTo pos (starEach [] X.env)).any (·.1) = false := by rfl) : ED X ρ (.Call (.Name "len" p) [.Name x p2] [] pos) (.int (xs.length : Nat)) := by
  have := ed_lenO (X := X) (ρ := ρ) (x := x) (ds := xs.map f) (p := p) (p2 := p2) (pos := pos) k hρ hN hv hg hm hd hcd he hpl
  rw [List.length_map] at this
  exact this
end
end RW

end
section
/-! data that is known to stand at an address; two new lists in a tuple, one of them grown while others are kept -/
namespace RW
open PySem PySem.Spec PyProof.Rows L2
section
variable {X : Cx} {W : WX} {ρ ρ' : List SD} {e e1 e2 : Expr} {d d' d1 d2 : D} {a b : Addr} {rest : List Stmt} {R : Po} {pos : Pos}
theorem ed_tag (h : ED X ρ e (.tag a d)) : ED X ρ e d := pe_w h fun σ H Q ⟨H0, M0, E, q⟩ => ⟨H0, M0, E, fun v H' e r => q v H' e r.2⟩
theorem ed_tag2 (h : ED X ρ e (.tup [.tag a d1, .tag b d2])) : ED X ρ e (.tup [d1, d2]) := pe_w h fun σ H Q ⟨H0, M0, E, q⟩ => ⟨H0, M0, E, fun v H' e r => q v H' e (by
  obtain ⟨p, xs, z, t, x1, r1, z1, ⟨_, h1⟩, x2, r2, z2, ⟨_, h2⟩, z3⟩ := r
  exact ⟨p, xs, z, t, x1, r1, z1, h1, x2, r2, z2, h2, z3⟩)⟩
theorem st_keep {σ : L2.St} {i : Nat} {u : Option V} (h : σ[i]? = some u) : σ.set i u = σ := by
  refine List.ext_getElem? fun j => ?_
  by_cases z : i = j
  · subst z
    rw [List.getElem?_set_self (List.getElem?_eq_some_iff.mp h).1, h]
  · rw [List.getElem?_set_ne z]
theorem EnvOk.tagged {K : PySem.W.Frag} {H0 H : Hp} {M0 : MS} {σ : L2.St} {ds : List D} (E : EnvOk K H0 M0 ρ σ H) {i : Nat} (h : ρ[i]? = some (.val (.lst ds))) : ∃ b, EnvOk K H0 M0 (ρ.set i (.val (.tag b (.lst ds)))) σ H := by
  obtain ⟨v, h1, h2⟩ := E.val i _ h
  obtain ⟨b, xs, rfl, r⟩ := id h2
  refine ⟨b, ?_⟩
  have := E.set (i := i) (d := .tag b (.lst ds)) (v := .ref b) (by rw [← E.len]; exact (List.getElem?_eq_some_iff.mp h).1) ⟨rfl, h2⟩
  rw [st_keep h1] at this
  exact this
theorem sds_tag (i : Nat) {ds : List D} (hρ : ρ[i]? = some (.val (.lst ds))) (h : ∀ b, SDs X W (ρ.set i (.val (.tag b (.lst ds)))) rest R) : SDs X W ρ rest R :=
  pss_w (pss_fam (ι := Addr) (p := fun _ => True) (t := fun b => tS X.K W (ρ.set i (.val (.tag b (.lst ds)))) R) fun b _ => h b) fun Dn σ H ⟨H0, M0, E, q⟩ => by
    obtain ⟨b, E'⟩ := E.tagged hρ
    exact ⟨b, trivial, H0, M0, E', q⟩
theorem sdn_tag (i : Nat) {ds : List D} (hρ : ρ[i]? = some (.val (.lst ds))) (h : ∀ b, SDN X W (ρ.set i (.val (.tag b (.lst ds)))) rest R) : SDN X W ρ rest R :=
  pss_w (pss_fam (ι := Addr) (p := fun _ => True) (t := fun b => tSN X.K W (ρ.set i (.val (.tag b (.lst ds)))) R) fun b _ => h b) fun Dn σ H ⟨H0, M0, nl, E, q⟩ => by
    obtain ⟨b, E'⟩ := E.tagged hρ
    exact ⟨b, trivial, H0, M0, nl, E', q⟩
/-- a tuple of two new objects -/
def t2N (K : PySem.W.Frag) (ρ : List SD) (d1 d2 : D) : TE := fun σ H Q => ∃ H0 M0, EnvOk K H0 M0 ρ σ H ∧ ∀ a b p H', H a = none → H b = none → a ≠ b → Ex H H' → Rp K H' (Mo M0 ρ σ) (.tup [.tag a d1, .tag b d2]) (.ref p) → Q (.ref p) H'
theorem ed_two {k : Nat} (h1 : EO X ρ e1 d1) (h2 : EO X ρ e2 d2) (hs1 : starEach [e1, e2] X.env = (false, eval e1 X.env) :: starEach [e2] X.env := by rfl) (hs2 : starEach [e2] X.env = (false, eval e2 X.env) :: starEach [] X.env := by rfl) : PE X (.Tuple [e1, e2] k pos) (t2N X.K ρ d1 d2) :=
  pe_w (pe_tup (pa_cons h1 (pa_cons h2 pa_nil hs2) hs1)) fun σ H Q ⟨H0, M0, E, q⟩ => ⟨H0, M0, E, fun a H1 na x1 r1 => ⟨H0, M0, E.ext x1, fun b H2 nb x2 r2 => ⟨(by decide : (2 : Nat) ≤ sizeLine), fun p np => by
    have ne : a ≠ b := fun z => r1.there (by rw [z]; exact nb)
    have nm : ¬ Mo M0 ρ σ a := fun m => E.dom a m na
    have nm2 : ¬ Mo M0 ρ σ b := fun m => (E.ext x1).dom b m nb
    have p1 : Rp X.K H1 (Mo M0 ρ σ) d1 (.ref a) := OwnAt.rp nm (r1.le (Le.sub fun a m => .inl m) fun _ q => q)
    have p2 : Rp X.K H2 (Mo M0 ρ σ) d2 (.ref b) := OwnAt.rp nm2 (r2.le (Le.sub fun a m => .inl m) fun _ q => q)
    exact q a b p _ na (x1.back nb) ne (x1.trans (x2.trans (Ex.new np))) (Rp.new_tup ((E.ext x1).ext x2).dom np ⟨_, _, rfl, ⟨rfl, Rp.le (Le.ex x2) _ _ p1⟩, _, _, rfl, ⟨rfl, p2⟩, rfl⟩)⟩⟩⟩
theorem sds_two (i i0 i1 : Nat) {b0 b1 : Addr} {l0 l1 : List D} {x : Str} {pos' : Pos} (h0 : ρ[i0]? = some (.val (.tag b0 (.lst l0)))) (h1 : ρ[i1]? = some (.val (.tag b1 (.lst l1)))) (he : PE X e (t2N X.K ρ d1 d2)) (hN : X.N.Nodup) (hi : X.N[i]? = some x) (hx : Loc X.env.scope x)
    (h : ∀ a b, a ≠ b → b0 ≠ a → b1 ≠ a → b0 ≠ b → b1 ≠ b → SDs X W (ρ.set i (.val (.tup [.tag a d1, .tag b d2]))) rest R) (hl : i < ρ.length := by decide) (hs : swapsWith e (some (.Name x pos')) pos.line X.env = pure false := by rfl)
    (hf : X.fn x = true ∨ X.env.scope.names.lookup x = some .local := by first | exact .inl rfl | exact .inr rfl | assumption) : SDs X W ρ (.Assign [.Name x pos'] e pos :: rest) R :=
  sds_cons (R1 := fun ρ1 => ∃ a b, a ≠ b ∧ b0 ≠ a ∧ b1 ≠ a ∧ b0 ≠ b ∧ b1 ≠ b ∧ ρ1 = ρ.set i (.val (.tup [.tag a d1, .tag b d2]))) (ps_w (ps_set hN hi hx he hs hf) fun Dn σ H ⟨H0, M0, E, q1, _⟩ => ⟨H0, M0, E, fun a b p H' na nb ne e r => by
    obtain ⟨v0, _, z0, a0, xs0, y0, _, g0, _⟩ := E.val i0 _ h0
    obtain ⟨v1, _, z1, a1, xs1, y1, _, g1, _⟩ := E.val i1 _ h1
    rw [z0] at y0; cases y0
    rw [z1] at y1; cases y1
    have k0 : ∀ c, H c = none → b0 ≠ c := fun c n z => by rw [← z, g0] at n; cases n
    have k1 : ∀ c, H c = none → b1 ≠ c := fun c n z => by rw [← z, g1] at n; cases n
    exact q1 _ _ _ ⟨a, b, ne, k0 a na, k1 a na, k0 b nb, k1 b nb, rfl⟩ ((E.ext e).set (by rw [← E.len]; exact hl) r)⟩) fun _ ⟨a, b, n, n1, n2, n3, n4, z⟩ => by rw [z]; exact h a b n n1 n2 n3 n4
end
/-- what is known of data when the list at a has changed -/
inductive Keep (a : Addr) : D → D → Prop
  | same {d : D} : solid d = true → Keep a d d
  | tag {b : Addr} {ds : List D} : b ≠ a → solids ds = true → Keep a (.tag b (.lst ds)) (.tag b (.lst ds))
  | drop {d : D} : Keep a (.tag a d) (.adr a)
  | two {x y x' y' : D} : Keep a x x' → Keep a y y' → Keep a (.tup [x, y]) (.tup [x', y'])
theorem Keep.rp {K : PySem.W.Frag} {H : Hp} {M M' : MS} {a : Addr} {xs ys : List V} (ha : H a = some (.lst xs)) (s : ∀ b, M' b → M b) : ∀ {d d' : D}, Keep a d d' → ∀ v, Rp K H M d v → Rp K (upd H a (.lst ys)) M' d' v
  | _, _, .same z, v, h => Rp.other ha s _ v z h
  | _, _, .tag ne z, v, ⟨e, b, zs, e2, m, t, r⟩ => by
    rw [e] at e2; cases e2
    exact ⟨e, _, zs, e, fun q => m (s _ q), by rw [upd_ne ne]; exact t, Rps.other ha s _ zs z r⟩
  | _, _, .drop, v, ⟨e, _⟩ => e
  | _, _, .two k1 k2, v, ⟨b, zs, e, t, x1, r1, z1, h1, x2, r2, z2, h2, z3⟩ => ⟨b, zs, e, t.other ha s, x1, r1, z1, k1.rp ha s x1 h1, x2, r2, z2, k2.rp ha s x2 h2, z3⟩
def FirmA (a : Addr) (ρ ρ' : List SD) : Prop := ρ'.length = ρ.length ∧ ∀ (i : Nat) s, ρ'[i]? = some s → s = .no ∨ ∃ d d', s = .val d' ∧ ρ[i]? = some (.val d) ∧ Keep a d d'
theorem FirmA.nil {a : Addr} : FirmA a [] [] := ⟨rfl, fun i s h => by simp at h⟩
theorem FirmA.no {a : Addr} {s : SD} {ρ ρ' : List SD} (h : FirmA a ρ ρ') : FirmA a (s :: ρ) (.no :: ρ') := ⟨by rw [List.length_cons, List.length_cons, h.1], fun i u q => by
  cases i with
  | zero => rw [List.getElem?_cons_zero] at q; cases q; exact .inl rfl
  | succ i => rw [List.getElem?_cons_succ] at q; exact h.2 i u q⟩
theorem FirmA.keep {a : Addr} {d d' : D} {ρ ρ' : List SD} (z : Keep a d d') (h : FirmA a ρ ρ') : FirmA a (.val d :: ρ) (.val d' :: ρ') := ⟨by rw [List.length_cons, List.length_cons, h.1], fun i u q => by
  cases i with
  | zero => rw [List.getElem?_cons_zero] at q; cases q; exact .inr ⟨d, d', rfl, rfl, z⟩
  | succ i => rw [List.getElem?_cons_succ] at q; exact h.2 i u q⟩
theorem EnvOk.otherA {K : PySem.W.Frag} {H0 H : Hp} {M0 : MS} {ρ ρ' : List SD} {σ : L2.St} {a : Addr} {xs ys : List V} (E : EnvOk K H0 M0 ρ σ H) (nl : NoL H0) (ha : H a = some (.lst xs)) (f : FirmA a ρ ρ') : EnvOk K H0 M0 ρ' σ (upd H a (.lst ys)) := by
  have noOwn : ∀ i b, ¬ Ow ρ' σ i b := fun i b ⟨⟨d, h⟩, _⟩ => by
    rcases f.2 i _ h with z | ⟨_, _, z, _⟩ <;> cases z
  have nst : ∀ (i : Nat) μ, ρ'[i]? ≠ some (.st μ) := fun i μ h => by
    rcases f.2 i _ h with z | ⟨_, _, z, _⟩ <;> cases z
  have noSt : ∀ b, ¬ Stt ρ' b := fun b ⟨i, μ, _, h, _⟩ => nst i μ h
  have s : ∀ b, Mo M0 ρ' σ b → Mo M0 ρ σ b := fun b m => m.elim (fun m => m.elim (fun m => .inl (.inl m)) fun m => absurd m (noSt b)) (fun ⟨i, m⟩ => absurd m (noOwn i b))
  refine ⟨f.1.trans E.len, fun b o h => ?_, E.m0, fun i b h => absurd h (noOwn i b), fun i j b h => absurd h (noOwn i b), fun i d h => ?_, fun i d h => ?_, fun b h => absurd h (noSt b), fun i b _ => noSt b, fun i μ h => absurd h (nst i μ), fun i j μ μ' h => absurd h (nst i μ)⟩
  · have hb := E.ex b o h
    rw [upd_ne (fun z => by rw [z] at h hb; rw [ha] at hb; cases hb; exact nl a xs h)]
    exact hb
  · rcases f.2 i _ h with z | ⟨d0, d', z, h2, h3⟩
    · cases z
    · cases z
      obtain ⟨v, q1, q2⟩ := E.val i d0 h2
      exact ⟨v, q1, h3.rp ha s v q2⟩
  · rcases f.2 i _ h with z | ⟨_, _, z, _⟩ <;> cases z
section
variable {X : Cx} {W : WX} {ρ ρ' : List SD} {st : Stmt} {rest : List Stmt} {R : Po}
/-- xs[j].append(e), the list known by its address -/
theorem sdn_appTag {a : Addr} {e : Expr} {d : D} {ds es : List D} {j : Int} {jj : Nat} {x : Str} {p apos cpos p2 p3 p4 : Pos} (i : Nat) (hρ : ρ[i]? = some (.val (.tup ds))) (hj : atI ds j = some (.tag a (.lst es))) (he : ED X ρ e d) (hN : X.N[i]? = some x) (hv : Vis X.env.scope x) (hz : es.length < 100000) (f : FirmA a ρ ρ') (h : SDN X W ρ' rest R)
    (hd : (x == ("__debug__" : Str)) = false := by decide) (hcd : (x == ("__classdict__" : Str)) = false := by decide)
    (hbase : attributeBase (.Subscript (.Name x p) (.Constant (.int j) jj p3) p4) ("append" : Str) X.env (eval (.Subscript (.Name x p) (.Constant (.int j) jj p3) p4) X.env) = eval (.Subscript (.Name x p) (.Constant (.int j) jj p3) p4) X.env := by rfl)
    (hfew : ((backTo cpos (starEach (e :: []) X.env)).all (fun x => !x.1) && (backToKw cpos (keywordEach [] X.env)).all (fun x => x.1.isSome)
      && decide ((e :: []).length + ([] : List Keyword).length + (if ([] : List Keyword).isEmpty then 0 else 1) < 30)) = true := by rfl)
    (hline : (apos.endLine == cpos.line) = true := by rfl) (hs0 : starEach (e :: []) X.env = (false, eval e X.env) :: starEach [] X.env := by rfl) (hplain : (backTo cpos (starEach [] X.env)).any (·.1) = false := by rfl)
    (hs : swapsWith (.Call (.Attribute (.Subscript (.Name x p) (.Constant (.int j) jj p3) p4) ("append" : Str) apos) [e] [] cpos) none p2.line X.env = pure false := by rfl)
    (hpx : PlainIx (.Constant (.int j) jj p3) := by intro _ _; rfl) :
    SDN X W ρ (.Expr (.Call (.Attribute (.Subscript (.Name x p) (.Constant (.int j) jj p3) p4) ("append" : Str) apos) [e] [] cpos) p2 :: rest) R := by
  have ho : ED X ρ (.Subscript (.Name x p) (.Constant (.int j) jj p3) p4) (.tag a (.lst es)) := ed_ix (ed_var i hρ hN hv hd hcd) ed_int (ixd_tup hj) hpx
  refine pss_w (pss_cons (ps_expr (pe_bm PySem.F.plainAttrs_list PySem.F.slot_list_append PySem.F.type_list_append mt_append ho (pa_cons he pa_nil hs0) hbase hfew hline hs0 hplain) hs) h) fun Dn σ H ⟨H0, M0, nl, E, q1, q2, q3, q4, q5⟩ => ?_
  refine ⟨H0, M0, E, fun v H1 e1 r1 => ?_⟩
  obtain ⟨e0, b, xs, rfl, m, ha, rx⟩ := r1
  cases e0
  refine ⟨.inl ⟨rfl, _, SqL.of ha⟩, H0, M0, E.ext e1, fun u H2 e2 r2 => ?_⟩
  refine ⟨a, xs, u, rfl, rfl, e2 _ _ ha, small' (by rw [rx.length]; exact hz), ?_⟩
  exact ⟨H0, M0, nl, ((E.ext e1).ext e2).otherA nl (e2 _ _ ha) f, q1, q2, q3, q4, q5⟩
end
end RW
namespace RW
open PySem PySem.Spec PyProof.Rows L2
section
variable {X : Cx} {ds : List D} {k : Int} {x : Str}
theorem Rps.rep {K : PySem.W.Frag} {H : Hp} {M : MS} {ds : List D} {xs : List V} (h : Rps K H M ds xs) : ∀ n : Nat, Rps K H M (List.replicate n ds).flatten (List.replicate n xs).flatten
  | 0 => rfl
  | n + 1 => by
    rw [List.replicate_succ, List.replicate_succ, List.flatten_cons, List.flatten_cons]
    exact Rps.append h (Rps.rep h n)
/-- a list times a number -/
theorem opd_rep (h : (-1000000 ≤ k ∧ k ≤ 1000) ∧ ds.length ≤ 1000) : OpD X (binaryOp .Mult) (.lst ds) (.int k) (.lst (List.replicate k.toNat ds).flatten) := ⟨_, op_rep, fun H M x y dm rx ry Q q => by
  obtain ⟨a, xs, rfl, ma, ta, rx⟩ := rx
  refine ⟨a, k, xs, rfl, ry, ta, by omega, by omega, ?_, fun p np => q _ _ (Ex.new np) ⟨p, _, rfl, fun m => dm p m np, upd_same, Rps.le (Le.ex (Ex.new np)) _ _ (rx.rep _)⟩⟩
  have h1 : xs.length ≤ 1000 := by rw [rx.length]; exact h.2
  exact Nat.le_trans (Nat.mul_le_mul h1 (show k.toNat ≤ 1000 by omega)) (by decide)⟩
theorem flat_one {d : D} (n : Nat) : (List.replicate n [d]).flatten = List.replicate n d := by
  induction n with
  | zero => rfl
  | succ n ih => rw [List.replicate_succ, List.flatten_cons, ih, List.replicate_succ]; rfl
/-- a text times a number -/
def repS (x : Str) (n : Int) : Str := if n < 1 then Str.empty else if (n == 1 || x.length == 0) = true then x else ⟨(List.replicate n.toNat x.cps).foldl (· ++ ·) #[]⟩
theorem op_mulS (hl : (repS x k).length ≤ 1000) (h : (-1000 ≤ k ∧ k ≤ 1000) ∧ x.length ≤ 1000) : OpR X (binaryOp .Mult) (fun u v H Q => u = .str x ∧ v = .int k ∧ Q (.str (repS x k)) H) := by
  intro pins s σ H u v cu cv Q I ru rv hq
  obtain ⟨rfl, rfl, q⟩ := hq
  obtain ⟨t, rfl⟩ := ru
  obtain ⟨t', rfl⟩ := rv
  have hb : ¬ k < 1 → ¬ ((x.length : Int) > (2 ^ 63 - 1) / k) := fun z y => by
    have h1 : (1000 : Int) ≤ (2 ^ 63 - 1) / k := (Int.le_ediv_iff_mul_le (by omega)).mpr (by omega)
    omega
  refine PySem.P.mul_str (by
    rw [decide_eq_false (by omega), decide_eq_false (by omega)]; rfl) (fun z _ => hb z) (fun z _ => ?_) ?_
  · refine decide_eq_false (fun y => ?_)
    have := Nat.mul_le_mul h.2 (show k.toNat ≤ 1000 by omega)
    have : (1000 * 1000 : Nat) ≤ sizeLine := by decide
    omega
  · unfold repS at q hl
    by_cases z : k < 1
    · rw [if_pos z] at q ⊢
      exact ⟨by decide, V.str Str.empty, H, I.tok _, ⟨_, rfl⟩, q⟩
    · rw [if_neg z] at q hl ⊢
      by_cases y : (k == 1 || x.length == 0) = true
      · rw [if_pos y] at q ⊢
        exact ⟨V.str x, H, I, ⟨_, rfl⟩, q⟩
      · rw [if_neg y] at q hl ⊢
        exact ⟨Nat.le_trans hl (by decide), V.str ⟨_⟩, H, I.tok _, ⟨_, rfl⟩, q⟩
theorem opd_mulS (h : (repS x k).length ≤ 1000 ∧ (-1000 ≤ k ∧ k ≤ 1000) ∧ x.length ≤ 1000) : OpD X (binaryOp .Mult) (.str x) (.int k) (.str (repS x k)) := ⟨_, op_mulS h.1 h.2, fun H M u v dm ru rv Q q => ⟨ru, rv, q _ H (Ex.refl H) rfl⟩⟩
end
end RW
namespace RW
open PySem PySem.Spec PyProof.Rows L2
theorem boot_ValueError : bootBuiltins "ValueError" = some (.type "ValueError") := by decide +kernel
theorem eqD_refl {n : Nat} {d : D} (h : plainD n d = true) : eqD d d = true := PySem.SeqAt.eqv_refl _ (plain_shaped n d h).1
theorem plain_mapM {α : Type} {enc : α → D} {n : Nat} {xs : List α} (h : ∀ x ∈ xs, plainD n (enc x) = true) : plainDs n (xs.map enc) = true := by
  induction xs with
  | nil => rfl
  | cons x xs ih =>
    rw [List.map_cons, plainDs, h x List.mem_cons_self, ih fun y hy => h y (List.mem_cons_of_mem _ hy)]; rfl
theorem solids_map {α : Type} {enc : α → D} {xs : List α} (h : ∀ x, solid (enc x) = true) : solids (xs.map enc) = true := by
  induction xs with
  | nil => rfl
  | cons x xs ih =>
    show (solid (enc x) && solids (xs.map enc)) = true
    rw [h x, ih]; rfl
theorem inD_strs {n : Str} {ns : List Str} : inD (.str n) (ns.map D.str) = decide (n ∈ ns) := by
  unfold inD inV
  rw [List.map_map]
  induction ns with
  | nil => rfl
  | cons m ns ih =>
    rw [List.map_cons, List.any_cons, ih]
    show (m == n || _) = _
    by_cases h : m = n
    · subst h; simp
    · have h2 : ¬ n = m := fun z => h z.symm
      simp [h, h2]
end RW
namespace RW
open PySem PySem.Spec PyProof.Rows L2
theorem kit_tyq {K : PySem.W.Frag} {t : Value} {n : String} {b : Bool} (h0 : (t == Value.type n) = false) (hs : PySem.W.subIn K t (.type n) = some b) (hm : PySem.W.kitMeta n = true := by decide +kernel) : PySem.W.kitOne K t (.type n) = some b := by
  show (if (t == Value.type n) = true then some true else (if PySem.W.kitMeta n = true then PySem.W.subIn K t (.type n) else none)) = some b
  rw [h0, hm]
  exact hs
end RW

end
section
/-! xs.extend(e); a tuple times a number; defs with keyword-only parameters -/
namespace RW
open PySem PySem.Spec PyProof.Rows L2
section
variable {X : Cx} {W : WX} {ρ ρ' : List SD} {e : Expr} {d : D} {ds es' : List D} {rest : List Stmt} {R : Po} {pos p : Pos} {x : Str}
/-- xs.extend(e), xs owned, e a list -/
theorem sds_ext (i : Nat) {apos cpos p2 : Pos} (hρ : ρ[i]? = some (.own (.lst ds))) (he : ED X ρ e (.lst es')) (hN : X.N[i]? = some x) (hv : Vis X.env.scope x) (hz : ds.length + es'.length ≤ 100000) (h : SDs X W (ρ.set i (.own (.lst (ds ++ es')))) rest R)
    (hd : (x == ("__debug__" : Str)) = false := by decide) (hcd : (x == ("__classdict__" : Str)) = false := by decide)
    (hbase : attributeBase (.Name x p) ("extend" : Str) X.env (eval (.Name x p) X.env) = eval (.Name x p) X.env := by rfl)
    (hfew : ((backTo cpos (starEach (e :: []) X.env)).all (fun x => !x.1) && (backToKw cpos (keywordEach [] X.env)).all (fun x => x.1.isSome)
      && decide ((e :: []).length + ([] : List Keyword).length + (if ([] : List Keyword).isEmpty then 0 else 1) < 30)) = true := by rfl)
    (hline : (apos.endLine == cpos.line) = true := by rfl) (hs0 : starEach (e :: []) X.env = (false, eval e X.env) :: starEach [] X.env := by rfl) (hplain : (backTo cpos (starEach [] X.env)).any (·.1) = false := by rfl)
    (hs : swapsWith (.Call (.Attribute (.Name x p) ("extend" : Str) apos) [e] [] cpos) none p2.line X.env = pure false := by rfl) :
    SDs X W ρ (.Expr (.Call (.Attribute (.Name x p) ("extend" : Str) apos) [e] [] cpos) p2 :: rest) R :=
  sds_cons (R1 := fun ρ1 => ρ1 = ρ.set i (.own (.lst (ds ++ es')))) (ps_w (ps_expr (pe_bm PySem.F.plainAttrs_list PySem.F.slot_list_extend PySem.F.type_list_extend mt_extend (ed_own i hρ hN hv hd hcd) (pa_cons he pa_nil hs0) hbase hfew hline hs0 hplain) hs) fun Dn σ H ⟨H0, M0, E, q1, _⟩ => by
    refine ⟨H0, M0, E, fun l hl ⟨xs, hx, rx⟩ => ⟨.inl ⟨rfl, _, SqL.of hx⟩, H0, M0, E, fun v H1 e1 r1 => ?_⟩⟩
    obtain ⟨b, zs, rfl, mb, hb, rz⟩ := r1
    refine ⟨l, b, xs, zs, rfl, rfl, e1 _ _ hx, hb, small (by rw [rx.length, rz.length]; exact hz), q1 _ _ _ rfl ((E.ext e1).write hρ hl ⟨xs ++ zs, upd_same, ?_⟩)⟩
    have l1 : Le H1 (Mo M0 ρ σ) (upd H1 l (.lst (xs ++ zs))) (Mo M0 ρ σ) := fun a o q m => ⟨by
      rw [upd_ne (fun z => m (.inr ⟨i, ⟨_, hρ⟩, by rw [z]; exact hl⟩))]; exact q, m⟩
    exact Rps.append (Rps.le ((Le.ex e1).trans l1) _ _ rx) (Rps.le l1 _ _ rz)) fun _ z => by rw [z]; exact h
theorem opd_repT {k : Int} (h : (2 ≤ k ∧ k ≤ 1000) ∧ ds.length ≤ 1000) (hn : ds ≠ []) : OpD X (binaryOp .Mult) (.tup ds) (.int k) (.tup (List.replicate k.toNat ds).flatten) := ⟨_, op_repT, fun H M u v dm rx ry Q q => by
  obtain ⟨a, xs, rfl, ta, rx⟩ := rx
  refine ⟨a, k, xs, rfl, ry, ta.sq, fun z => hn (List.eq_nil_of_length_eq_zero (by rw [← rx.length, z]; rfl)), h.1.1, h.1.2, by rw [rx.length]; exact h.2, fun p np => q _ _ (Ex.new np) (Rp.new_tup dm np (rx.rep _))⟩⟩
end
/-! ### keyword-only parameters -/
section
variable {P : Program} {w : World} {K : PySem.W.Frag} {mg : Str → Option Value} {base : Heap}
/-- the promise of a def at calls with n values and the keywords ks; the values dv are put behind them -/
structure FK (P : Program) (w : World) (K : PySem.W.Frag) (mg : Str → Option Value) (base : Heap) (k : Nat) (x : Str) (n : Nat) (ks : List Str) (dv : List D) (dz : List V) (S : List D → Res → Prop) : Prop where
  ex : ∃ (f : Addr) (fd : FuncData) (ps : List Str) (m : Nat) (g : List Value → List Value → List Value), mg x = some (.ref f) ∧ PySem.W.keepIn K (.ref f) = true ∧ KBn K fd ps n ks g (fun vs zs => vs ++ (zs ++ dz)) ∧ m = n + (ks.length + dz.length) ∧ FnOk P w K mg base (L2.CX P w) k f fd ps (spP K m S)
  dv : ∀ H M, Rps K H M dv dz
theorem FK.mono {k k' n : Nat} {x : Str} {ks : List Str} {dv : List D} {dz : List V} {S : List D → Res → Prop} (F : FK P w K mg base k x n ks dv dz S) (h : k ≤ k') : FK P w K mg base k' x n ks dv dz S :=
  ⟨let ⟨f, fd, ps, m, g, h1, h2, h3, h4, h5⟩ := F.ex; ⟨f, fd, ps, m, g, h1, h2, h3, h4, h5.mono h⟩, F.dv⟩
end
section
variable {X : Cx} {W : WX} {ρ : List SD} {e : Expr} {es : List Expr} {ds zs : List D} {kws : List Keyword} {pos p kpos : Pos} {x : Str} {r : Res} {nm : Option Str}
abbrev EK (X : Cx) (ρ : List SD) (kws : List Keyword) (ds : List D) : Prop := PK X kws (tAs X.K ρ ds)
theorem pk_weak {t u : TA} (h : PK X kws t) (q : ∀ σ H Q, u σ H Q → t σ H Q) : PK X kws u := ⟨fun pos pins s σ H Q I h1 => h.run pos pins s σ H Q I (q _ _ _ h1)⟩
theorem ek_nil : EK X ρ [] [] := pk_weak pk_nil fun σ H Q ⟨H0, M0, E, q⟩ => q [] H (Ex.refl H) rfl
theorem ek_cons {d : D} (h : ED X ρ e d) (h' : EK X ρ kws ds) : EK X ρ (⟨nm, e, kpos⟩ :: kws) (d :: ds) :=
  pk_weak (pk_cons h h') fun σ H Q ⟨H0, M0, E, q⟩ => ⟨H0, M0, E, fun u H1 e1 r1 => ⟨H0, M0, E.ext e1, fun vs H2 e2 r2 => q (u :: vs) H2 (e1.trans e2) ⟨u, vs, rfl, Rp.le (Le.ex e2) _ _ r1, r2⟩⟩⟩
/-- f(e, .., k = v, ..), which may raise -/
theorem er_kw {k n : Nat} {ks : List Str} {dv : List D} {dz : List V} {S : List D → Res → Prop} (tk : Takes X W) (F : FK X.prog X.w X.K X.mg X.base k x n ks dv dz S) (hr : Room k X.A) (hg : Gl X x) (ha : EA X ρ (e :: es) ds) (hk : EK X ρ kws zs) (hS : S (ds ++ (zs ++ dv)) r) (hn : ds.length = n := by rfl) (hm : zs.length = ks.length := by rfl)
    (hdb : (x == ("__debug__" : Str)) = false := by decide) (he : starEach (e :: es) X.env = (false, eval e X.env) :: starEach es X.env := by rfl)
    (hall : (backToKw pos (keywordEach kws X.env)).all (·.1.isSome) = true := by rfl) (hks : (backToKw pos (keywordEach kws X.env)).filterMap (·.1) = ks := by rfl)
    (hpl : ((backTo pos (starEach (e :: es) X.env)).any (·.1) || (backToKw pos (keywordEach kws X.env)).any (·.1.isNone)) = false := by rfl) :
    ER X W ρ (.Call (.Name x p) (e :: es) kws pos) r := by
  obtain ⟨⟨f, fd, ps, m, g, h1, h2, hb, h4, h5⟩, hdv⟩ := F
  refine ⟨fun pins s σ H Q I hQ => wpAny_Call_Name_kw (ld_glob I hg h1 ?_ hdb)⟩
  obtain ⟨H0, M0, E, q⟩ := hQ
  refine PySem.W.callWith_KW (h₀ := X.base) I.ok.mod.kin h2 hall ?_ hpl he
  refine thn (ha.run pos pins s σ H (fun vs H1 => Ex H H1 ∧ Rps X.K H1 (Mo M0 ρ σ) ds vs) I ⟨H0, M0, E, fun _ _ a b => ⟨a, b⟩⟩) fun us s1 ⟨vs, H1, I1, ru, e1, r1⟩ => ?_
  refine thn (hk.run pos pins s1 σ H1 (fun vs H2 => Ex H1 H2 ∧ Rps X.K H2 (Mo M0 ρ σ) zs vs) I1 ⟨H0, M0, E.ext e1, fun _ _ a b => ⟨a, b⟩⟩) fun ws s2 ⟨ws', H2, I2, rz, e2, r2⟩ => ?_
  refine ⟨I2.kIn, ?_⟩
  rw [hks]
  have lu : us.length = n := ru.length.symm.trans (r1.length.trans hn)
  have lw : ws.length = ks.length := rz.length.symm.trans (r2.length.trans hm)
  have all := hb.rel ru rz
  have rAll : Rps X.K H2 (Mo M0 ρ σ) (ds ++ (zs ++ dv)) (vs ++ (ws' ++ dz)) := Rps.append (Rps.le (Le.ex e2) _ _ r1) (Rps.append r2 (hdv _ _))
  have lm : (ds ++ (zs ++ dv)).length = m := by
    rw [List.length_append, List.length_append, hn, hm, h4, ← (hdv H2 (Mo M0 ρ σ)).length]
  have goal : spP X.K m S (vs ++ (ws' ++ dz)) H2 Q fun cls dd H' => W cls dd σ H' := by
    refine ⟨Mo M0 ρ σ, _, r, ((E.ext e1).ext e2).domN, rAll, lm, hS, ?_⟩
    cases r with
    | ok d => exact fun v H3 e3 r3 => q v H3 ((e1.trans e2).trans e3) r3
    | er c fs => exact fun cls dd H3 e3 r3 => q cls dd H3 ((e1.trans e2).trans e3) r3
  have run := h5.run X.A X.stack s2 H2 ⟨us, ks.zip ws⟩ (g us ws) (vs ++ (ws' ++ dz)) Q _ hr I2.env0 (hb.to s2 us ws I2.kIn lu lw) all goal
  refine wpAny_call (codeAny_mono run fun fl s' out => ?_)
  match fl, out with
  | .error c, out => exact passAt tk σ pins H2 s2 c s' I2 out
  | .ok (.ret _), out => exact I2.after out
  | .ok .next, out => exact out.elim
  | .ok .brk, out => exact out.elim
  | .ok .cont, out => exact out.elim
end
/-- a keyword-only parameter with the value false where it is not written -/
theorem fk_of {P : Program} {w : World} {K : PySem.W.Frag} {mg : Str → Option Value} {base : Heap} {k n : Nat} {x kn : Str} {fd : FuncData} {f : Addr} {ps : List Str} {params : Arguments} {body : List Stmt} {scope : Scope} {S : List D → Res → Prop} (F : FunD K x x params body scope [] [(kn, .bl false)] f fd) (gx : mg x = some (.ref f)) (hn : ps.length = n + 1)
    (h0 : ∀ (D : Addr) (doc pm : Value) (an : Option Addr) (cdv ct : Value) (us mv : List Value), us.length = n → mv.length = 1 → KwChain D (([(kn, V.bl false)].map (·.1)).zip mv) (bindArgs (PySem.W.fnOf x x params body scope .none (.ref D) doc pm an cdv ct) ⟨us, []⟩) (ps.zip (us ++ mv)))
    (h1 : ∀ (D : Addr) (doc pm : Value) (an : Option Addr) (cdv ct : Value) (us ws : List Value), us.length = n → ws.length = 1 → KwChain D [] (bindArgs (PySem.W.fnOf x x params body scope .none (.ref D) doc pm an cdv ct) ⟨us, [kn].zip ws⟩) (ps.zip (us ++ ws)))
    (hf : FnOk P w K mg base (L2.CX P w) k f fd ps (spP K ps.length S)) : FK P w K mg base k x n [] [.bl false] [.bl false] S ∧ FK P w K mg base k x n [kn] [] [] S := by
  have rel : ∀ {vs mz zs : List V} {us mv ws : List Value}, Vals vs us → Vals mz mv → Vals zs ws → Vals (vs ++ (zs ++ mz)) (us ++ (ws ++ mv)) := fun r1 r2 r3 => r1.append (r3.append r2)
  obtain ⟨mv0, b0⟩ := F.kbinds0 (ps := ps) n [] [(kn, .bl false)] (fun us mv ws => us ++ (ws ++ mv)) (by simp) (fun q h => h) rel (fun D doc pm an cdv ct us mv ws l1 l2 l3 => by
    obtain rfl := List.eq_nil_of_length_eq_zero l3
    exact h0 D doc pm an cdv ct us mv l1 l2)
  obtain ⟨mv1, b1⟩ := F.kbinds0 (ps := ps) n [kn] [] (fun us mv ws => us ++ (ws ++ mv)) (by simp) (fun q h => nomatch h) rel (fun D doc pm an cdv ct us mv ws l1 l2 l3 => by
    obtain rfl := List.eq_nil_of_length_eq_zero l2
    rw [List.append_nil]
    exact h1 D doc pm an cdv ct us ws l1 l3)
  exact ⟨⟨⟨f, fd, ps, _, _, gx, F.kp, b0, by rw [hn]; rfl, hf⟩, fun H M => ⟨_, _, rfl, rfl, rfl⟩⟩, ⟨⟨f, fd, ps, _, _, gx, F.kp, b1, by rw [hn]; rfl, hf⟩, fun H M => rfl⟩⟩
end RW
namespace RW
open PySem PySem.Spec PyProof.Rows L2
theorem fnk_of {P : Program} {w : World} {K : PySem.W.Frag} {mg : Str → Option Value} {base : Heap} {x : Str} {params : Arguments} {sts : List Stmt} {scope : Scope} {kws : List (Str × V)} {f : Addr} {fd : FuncData} {N ps : List Str} {k : Nat} {S : List D → Res → Prop} (F : FunD K x x params sts scope [] kws f fd) (sc : FnScope N ps scope)
    (hlen : ps.length ≤ N.length)
    (body : ∀ (cdv : Value) (A : Around) (outer : List Env) (s : Shared) (H : Hp) (E : XK) (ds : List D) (r : Res), Room k (A.deeper (envOfC x scope s.heap.objs.size f cdv)) → ds.length = ps.length → S ds r →
      SDs (cxOf (L2.CX P w) P w K mg base N x scope f cdv A outer s H E) (fun cls d _ H => E cls d H) (args N ds) sts { nx := fun _ => r = .ok .non, rt := fun _ d => r = .ok d, ex := fun _ c fs => r = .er c fs }) :
    FnOk P w K mg base (L2.CX P w) (k + 1) f fd ps (spP K ps.length S) :=
  F.ok sc (fun vs H Q E ⟨_, _, _, _, h2, h3, _⟩ => h2.length.trans h3) fun cdv A outer s H vs Q E hr ⟨M, ds, r, dm, h2, h3, h4, h5⟩ =>
    ⟨_, body cdv A outer s H E ds r hr h3 h4, H, M, EnvOk.start dm h2 (by rw [h3]; exact hlen), fun ρ' σ' H' e E' => by subst e; exact h5 .non H' E'.ex rfl, fun ρ' d v σ' H' e E' r' => by subst e; exact h5 v H' E'.ex (Rp.le (Le.sub fun a m => .inl (.inl m)) _ _ r'),
      fun _ _ _ z => z.elim, fun _ _ _ z => z.elim, fun ρ' c fs cls dd σ' H' e E' r' => by subst e; exact h5 cls dd H' E'.ex r'⟩
end RW

end
section
/-! f-strings, letter by letter; a text's beginning -/
namespace RW
open PySem PySem.Spec PyProof.Rows L2
section
variable {X : Cx} {W : WX} {ρ : List SD} {e : Expr} {pos : Pos}
/-- a part of an f-string and its text -/
inductive Fme (X : Cx) (ρ : List SD) : Expr → Str → Prop where
  | txt {e : Expr} {s : Str} (h : ED X ρ e (.str s)) (hz : s.length ≤ 100000) : Fme X ρ e s
  | str {e : Expr} {s : Str} {pos : Pos} (h : ED X ρ e (.str s)) (hz : s.length ≤ 100000) : Fme X ρ (.FormattedValue e (-1) none pos) s
  | int {e : Expr} {i : Int} {pos : Pos} (h : ED X ρ e (.int i)) (hz : i.natAbs.log2 < 1920 ∧ (toString i : Str).length ≤ 100000) : Fme X ρ (.FormattedValue e (-1) none pos) (toString i)
inductive Fmes (X : Cx) (ρ : List SD) : List Expr → List Str → Prop where
  | nil : Fmes X ρ [] []
  | cons {e : Expr} {es : List Expr} {s : Str} {ss : List Str} (h : Fme X ρ e s) (r : Fmes X ρ es ss) : Fmes X ρ (e :: es) (s :: ss)
def tExact (K : PySem.W.Frag) (ρ : List SD) (s : Str) : TE := fun σ H Q => ∃ H0 M0, EnvOk K H0 M0 ρ σ H ∧ (s.length ≤ 100000 → ∀ H', Ex H H' → Q (.str s) H')
theorem Fme.len {e : Expr} {s : Str} (h : Fme X ρ e s) : s.length ≤ 100000 := by
  cases h with
  | txt _ hz => exact hz
  | str _ hz => exact hz
  | int _ hz => exact hz.2
theorem Fme.pe {e : Expr} {s : Str} (h : Fme X ρ e s) : PE X e (tExact X.K ρ s) := by
  cases h with
  | txt h hz => exact pe_w h fun σ H Q ⟨H0, M0, E, q⟩ => ⟨H0, M0, E, fun v H' e1 r => by rw [show v = .str _ from r]; exact q hz H' e1⟩
  | str h hz => exact pe_w (pe_fmt h) fun σ H Q ⟨H0, M0, E, q⟩ => ⟨H0, M0, E, fun v H' e1 r => .inl ⟨_, r, Nat.le_trans hz (by rw [sizeLine_eq]; decide), q hz H' e1⟩⟩
  | int h hz => exact pe_w (pe_fmt h) fun σ H Q ⟨H0, M0, E, q⟩ => ⟨H0, M0, E, fun v H' e1 r => .inr ⟨_, r, hz.1, q hz.2 H' e1⟩⟩
theorem Fmes.pj {es : List Expr} {ss : List Str} (h : Fmes X ρ es ss) : PJ X es (ss.map (tExact X.K ρ)) := by
  induction h with
  | nil => exact .nil
  | cons h r ih => exact .cons h.pe ih
theorem Fmes.len {es : List Expr} {ss : List Str} (h : Fmes X ρ es ss) : es.length = ss.length ∧ ∀ s ∈ ss, s.length ≤ 100000 := by
  induction h with
  | nil => exact ⟨rfl, fun _ h => nomatch h⟩
  | cons h r ih => exact ⟨congrArg (· + 1) ih.1, fun s hs => (List.mem_cons.mp hs).elim (fun z => by rw [z]; exact h.len) (ih.2 s)⟩
theorem tjs_exact {K : PySem.W.Frag} : ∀ (ss : List Str) (acc : Str) (σ : L2.St) (H : Hp) (Q : Str → Hp → Prop) (H0 : Hp) (M0 : MS), EnvOk K H0 M0 ρ σ H → (∀ s ∈ ss, s.length ≤ 100000) → acc.length + ss.length * 100000 ≤ sizeLine → (∀ H', Ex H H' → Q (ss.foldl (· ++ ·) acc) H') → tJs (ss.map (tExact K ρ)) acc σ H Q
  | [], acc, σ, H, Q, H0, M0, E, hs, hz, q => q H (Ex.refl H)
  | s :: ss, acc, σ, H, Q, H0, M0, E, hs, hz, q => by
    refine ⟨H0, M0, E, fun hl H' e1 => ⟨s, rfl, ?_, tjs_exact ss (acc ++ s) σ H' Q H0 M0 (E.ext e1) (fun z hz => hs z (List.mem_cons_of_mem _ hz)) ?_ fun H2 e2 => q H2 (e1.trans e2)⟩⟩
    · rw [Str.length_append]; rw [List.length_cons] at hz; omega
    · rw [Str.length_append]; rw [List.length_cons] at hz; omega
/-- the texts put together -/
def joinS (ss : List Str) : Str := ss.foldl (· ++ ·) Str.empty
theorem ed_joined {v1 v2 : Expr} {rest : List Expr} {ss : List Str} (h : Fmes X ρ (v1 :: v2 :: rest) ss) (hn : rest.length ≤ 6 := by decide) : ED X ρ (.JoinedStr (v1 :: v2 :: rest) pos) (.str (joinS ss)) :=
  pe_w (pe_joined h.pj) fun σ H Q ⟨H0, M0, E, q⟩ => by
    have hz : (Str.empty : Str).length = 0 := rfl
    have hl := h.len.1
    rw [List.length_cons, List.length_cons] at hl
    refine tjs_exact ss Str.empty σ H _ H0 M0 E h.len.2 ?_ fun H' e1 => q _ H' e1 rfl
    rw [hz, ← hl, sizeLine_eq]; omega
/-- s.startswith(t) -/
theorem ed_starts {a b : Expr} {s t : Str} {apos cpos : Pos} (ha : ED X ρ a (.str s)) (hb : ED X ρ b (.str t)) (hbase : attributeBase a ("startswith" : Str) X.env (eval a X.env) = eval a X.env := by rfl)
    (hfew : ((backTo cpos (starEach (b :: []) X.env)).all (fun x => !x.1) && (backToKw cpos (keywordEach [] X.env)).all (fun x => x.1.isSome)
      && decide ((b :: []).length + ([] : List Keyword).length + (if ([] : List Keyword).isEmpty then 0 else 1) < 30)) = true := by rfl)
    (hline : (apos.endLine == cpos.line) = true := by rfl) (hs0 : starEach (b :: []) X.env = (false, eval b X.env) :: starEach [] X.env := by rfl) (hplain : (backTo cpos (starEach [] X.env)).any (·.1) = false := by rfl) :
    ED X ρ (.Call (.Attribute a ("startswith" : Str) apos) [b] [] cpos) (.bl (Txt.startswith s t)) :=
  pe_w (pe_bm PySem.F.plainAttrs_str PySem.F.slot_str_startswith PySem.F.type_str_startswith mt_startswith ha (pa_cons hb pa_nil hs0) hbase hfew hline hs0 hplain) fun σ H Q ⟨H0, M0, E, q⟩ =>
    ⟨H0, M0, E, fun v H1 e1 r1 => by
      obtain rfl : v = .str s := r1
      exact ⟨rfl, H0, M0, E.ext e1, fun u H2 e2 r2 => by
        obtain rfl : u = .str t := r2
        exact ⟨s, t, rfl, rfl, q _ H2 (e1.trans e2) rfl⟩⟩⟩
end
end RW

end
section
/-! comprehensions with three clauses -/
namespace RW
open PySem PySem.Spec PyProof.Rows L2

abbrev NoE : Value → Shared → Prop := fun _ _ => False
/-- what a clause's tests lead to, by the block's words; Tl: what stands behind them -/
def Behind (Y : Cx) (ifs : List Expr) (Tl : (Shared → Prop) → Shared → Prop) (q : Shared → Prop) (s : Shared) : Prop :=
  ∃ pins σ H t, Inv Y pins σ H s ∧ PTs Y ifs t ∧ t σ H fun b H' => ∀ s', Inv Y pins σ H' s' → if b = true then Tl q s' else q s'
/-- a turn of a clause's loop: dn at its end -/
def TurnAt (Y : Cx) (tg : Expr) (ifs : List Expr) (Tl : (Shared → Prop) → Shared → Prop) (it : Value) (dn q : Shared → Prop) (s : Shared) : Prop :=
  wpAny (model Y.prog Y.w) Y.A (pyNext it) (fun r s1 => (r = none ∧ dn s1) ∨ ∃ v, r = some v ∧ wpAny (model Y.prog Y.w) Y.A (letOwnedTupleGo tg it v) (fun _ s2 => wpAny (model Y.prog Y.w) Y.A (assign tg Y.env v) (fun _ s3 => Behind Y ifs Tl q s3) NoE s2) NoE s1) NoE s
/-- the element, put behind the others -/
def tlElt (Y : Cx) (elt : Expr) (acc : Value) (q : Shared → Prop) (s : Shared) : Prop :=
  wpAny (model Y.prog Y.w) Y.A (eval elt Y.env) (fun x s1 => wpAny (model Y.prog Y.w) Y.A (call (.builtin "list.append") [acc, x]) (fun _ s2 => q s2) NoE s1) NoE s
/-- the loop of the clause k -/
def tlIn (Y : Cx) (e : Expr) (k : Nat) (iter : Expr) (acc : Value) (q : Shared → Prop) (s : Shared) : Prop :=
  wpAny (model Y.prog Y.w) Y.A (eval iter Y.env) (fun x s1 => wpAny (model Y.prog Y.w) Y.A (pyIter x) (fun i1 s2 => codeAny (model Y.prog Y.w) Y.A (.compStart e k i1 acc Y.env) (fun r s' => (∃ f, r = .ok f) ∧ q s') s2) NoE s1) NoE s
/-- the clause k of e is walked by its turns -/
def LoopBy (Y : Cx) (e : Expr) (k : Nat) (tg : Expr) (ifs : List Expr) (acc : Value) (Tl : (Shared → Prop) → Shared → Prop) : Prop :=
  ∀ (it : Value) (R : Result → Shared → Prop) (I : Nat → Shared → Prop), (∀ n s, I n s → TurnAt Y tg ifs Tl it (R (.ok .next)) (fun s' => ∃ m, m < n ∧ I m s') s) → ∀ n s, I n s → codeAny (model Y.prog Y.w) Y.A (.compLoop e k it acc Y.env) R s
/-- .. from its start on -/
def StartBy (Y : Cx) (e : Expr) (k : Nat) (acc : Value) : Prop :=
  ∀ (it : Value) (R : Result → Shared → Prop) (s : Shared), codeAny (model Y.prog Y.w) Y.A (.compLoop e k it acc Y.env) R s → wpAny (model Y.prog Y.w) Y.A (pyIter it) (fun i1 s' => codeAny (model Y.prog Y.w) Y.A (.compLoop e k i1 acc Y.env) R s') NoE s → codeAny (model Y.prog Y.w) Y.A (.compStart e k it acc Y.env) R s
theorem no_e {M : Model} {A : Around} {α : Type} {m : Sem α} {Q : α → Shared → Prop} {E : Value → Shared → Prop} {s : Shared} (h : wpAny M A m Q NoE s) : wpAny M A m Q E s := thnF h fun _ _ q => q
section
variable {Y : Cx} {elt t0 i0 t1 i1 t2 i2 : Expr} {c0 c1 c2 : List Expr} {scope : Scope} {pos : Pos} {acc : Value}
set_option hygiene false
local macro_rules | `(tactic| walk_at "tailIn") => `(tactic| (
  have q5 : tlIn Y _ _ _ _ _ s4 := q5
  rw [if_pos rfl]
  refine wpAny_bind (no_e (thnF q5 fun x s5 h5 => wpAny_bind (wpAny_standAt ?_)))
  rw [if_neg (by decide)]
  refine wpAny_bind (wpAny_of_eq (hs x) (wpAny_bind (wpAny_holding ?_)))
  rw [if_neg (by decide)]
  refine no_e (thnF h5 fun i6 s6 h6 => wpAny_bind (wpAny_runOwn ?_))
  rw [Around.mark_none]
  refine codeAny_mono h6 fun r s7 h7 => ?_
  obtain ⟨⟨f, e⟩, h7⟩ := h7
  subst e
  first | exact wpAny_pure ⟨rfl, h7⟩ | exact wpAny_bind (wpAny_pure (wpAny_pure ⟨rfl, h7⟩))))
local macro_rules | `(tactic| walk_at "tailLast") => `(tactic| (
  have q5 : tlElt Y _ _ _ s4 := q5
  rw [if_pos rfl]
  refine wpAny_bind (wpAny_bind (no_e (thnF q5 fun x s5 h5 => wpAny_bind (no_e (thnF h5 fun u s6 h6 => ?_)))))
  first | exact wpAny_pure (wpAny_pure ⟨rfl, h6⟩) | exact wpAny_pure ⟨rfl, h6⟩ | exact wpAny_bind (wpAny_pure (wpAny_pure ⟨rfl, h6⟩))))
local macro_rules | `(tactic| walk_at "startK") => `(tactic| (
  intro it R s h0 h1
  refine codeAny_of_tree ?_
  show wpAny _ Y.A (Sem.onRaise _ _) _ _ s
  refine wpAny_notedAt ?_
  unfold compStart
  dsimp only [clausesOf, List.getElem?_cons_zero, List.getElem?_cons_succ, Option.elim]
  simp only [bne_self_eq_false, Bool.false_eq_true, if_false]
  refine wpAny_bind (wpAny_askSetting (wpAny_ite ?_))
  split
  · exact wpAny_pure ⟨rfl, h0⟩
  · exact wpAny_bind (wpAny_rule (wpAny_bind (wpAny_standAt (wpAny_bind (no_e (thnF h1 fun j s' h' => wpAny_pure ⟨rfl, h'⟩))))))))
local macro_rules | `(tactic| walk_at "turnI") => `(tactic| (
  intro it R I turn n s h
  refine codeAny_loop rfl I (fun n s hI => ?_) n h
  show wpAny _ Y.A (Sem.onRaise _ _) _ _ _
  refine wpAny_noted ?_
  unfold compTurn
  dsimp only [clausesOf, List.getElem?_cons_zero, List.getElem?_cons_succ]
  refine wpAny_bind (wpAny_standAt (wpAny_bind (no_e (wpAny_mono (turn n s hI) (fun r s1 h1 => ?_) fun _ _ x => x))))
  cases r with
  | none =>
    rcases h1 with ⟨_, h1⟩ | ⟨v, z, _⟩
    · exact wpAny_pure h1
    · cases z
  | some v =>
    rcases h1 with ⟨z, _⟩ | ⟨v', z, h1⟩
    · cases z
    cases z
    dsimp only
    refine wpAny_bind (no_e (thnF h1 fun _ s2 h2 => ?_))
    refine wpAny_bind (no_e (thnF h2 fun _ s3 ⟨pins, σ, H, t, J, ht, hw⟩ => ?_))
    have ht := ht.run pins s3 σ H _ J hw
    rw [hx] at ht
    refine wpAny_bind (no_e (thnF ht fun b s4 ⟨H4, J4, q4⟩ => ?_))
    have q5 := q4 s4 J4
    cases b with
    | false => exact wpAny_pure ⟨rfl, q5⟩
    | true => walk_at "tailIn"))
local macro_rules | `(tactic| walk_at "turnE") => `(tactic| (
  intro it R I turn n s h
  refine codeAny_loop rfl I (fun n s hI => ?_) n h
  show wpAny _ Y.A (Sem.onRaise _ _) _ _ _
  refine wpAny_noted ?_
  unfold compTurn
  dsimp only [clausesOf, List.getElem?_cons_zero, List.getElem?_cons_succ]
  refine wpAny_bind (wpAny_standAt (wpAny_bind (no_e (wpAny_mono (turn n s hI) (fun r s1 h1 => ?_) fun _ _ x => x))))
  cases r with
  | none =>
    rcases h1 with ⟨_, h1⟩ | ⟨v, z, _⟩
    · exact wpAny_pure h1
    · cases z
  | some v =>
    rcases h1 with ⟨z, _⟩ | ⟨v', z, h1⟩
    · cases z
    cases z
    dsimp only
    refine wpAny_bind (no_e (thnF h1 fun _ s2 h2 => ?_))
    refine wpAny_bind (no_e (thnF h2 fun _ s3 ⟨pins, σ, H, t, J, ht, hw⟩ => ?_))
    have ht := ht.run pins s3 σ H _ J hw
    rw [hx] at ht
    refine wpAny_bind (no_e (thnF ht fun b s4 ⟨H4, J4, q4⟩ => ?_))
    have q5 := q4 s4 J4
    cases b with
    | false => exact wpAny_pure ⟨rfl, q5⟩
    | true => walk_at "tailLast"))
theorem loop0 (hx : Y.xe = NoE) (hs : ∀ x, foldedSetIterable i1 Y.env x = pure x) : LoopBy Y (Expr.ListComp elt [⟨t0, i0, c0, 0⟩, ⟨t1, i1, c1, 0⟩, ⟨t2, i2, c2, 0⟩] scope pos) 0 t0 c0 acc (tlIn Y (Expr.ListComp elt [⟨t0, i0, c0, 0⟩, ⟨t1, i1, c1, 0⟩, ⟨t2, i2, c2, 0⟩] scope pos) 1 i1 acc) := by
  walk_at "turnI"
theorem loop1 (hx : Y.xe = NoE) (hs : ∀ x, foldedSetIterable i2 Y.env x = pure x) : LoopBy Y (Expr.ListComp elt [⟨t0, i0, c0, 0⟩, ⟨t1, i1, c1, 0⟩, ⟨t2, i2, c2, 0⟩] scope pos) 1 t1 c1 acc (tlIn Y (Expr.ListComp elt [⟨t0, i0, c0, 0⟩, ⟨t1, i1, c1, 0⟩, ⟨t2, i2, c2, 0⟩] scope pos) 2 i2 acc) := by
  walk_at "turnI"
theorem loop2 (hx : Y.xe = NoE) : LoopBy Y (Expr.ListComp elt [⟨t0, i0, c0, 0⟩, ⟨t1, i1, c1, 0⟩, ⟨t2, i2, c2, 0⟩] scope pos) 2 t2 c2 acc (tlElt Y elt acc) := by
  walk_at "turnE"
theorem start1 : StartBy Y (Expr.ListComp elt [⟨t0, i0, c0, 0⟩, ⟨t1, i1, c1, 0⟩, ⟨t2, i2, c2, 0⟩] scope pos) 1 acc := by
  walk_at "startK"
theorem start2 : StartBy Y (Expr.ListComp elt [⟨t0, i0, c0, 0⟩, ⟨t1, i1, c1, 0⟩, ⟨t2, i2, c2, 0⟩] scope pos) 2 acc := by
  walk_at "startK"
theorem loopA0 (hx : Y.xe = NoE) (hs : ∀ x, foldedSetIterable i1 Y.env x = pure x) : LoopBy Y (Expr.ListComp elt [⟨t0, i0, c0, 0⟩, ⟨t1, i1, c1, 0⟩] scope pos) 0 t0 c0 acc (tlIn Y (Expr.ListComp elt [⟨t0, i0, c0, 0⟩, ⟨t1, i1, c1, 0⟩] scope pos) 1 i1 acc) := by
  walk_at "turnI"
theorem loopA1 (hx : Y.xe = NoE) : LoopBy Y (Expr.ListComp elt [⟨t0, i0, c0, 0⟩, ⟨t1, i1, c1, 0⟩] scope pos) 1 t1 c1 acc (tlElt Y elt acc) := by
  walk_at "turnE"
theorem startA1 : StartBy Y (Expr.ListComp elt [⟨t0, i0, c0, 0⟩, ⟨t1, i1, c1, 0⟩] scope pos) 1 acc := by
  walk_at "startK"
end

/-! ### over data -/
/-- H' differs from H at p at most -/
def Kp (p : Addr) (H H' : Hp) : Prop := ∀ a o, a ≠ p → H a = some o → H' a = some o
theorem Kp.trans {p : Addr} {H H1 H2 : Hp} (a : Kp p H H1) (b : Kp p H1 H2) : Kp p H H2 := fun x o n h => b x o n (a x o n h)
theorem Ex.kp {p : Addr} {H H1 : Hp} (a : Ex H H1) : Kp p H H1 := fun x o _ h => a x o h
theorem upd_self {H : Hp} {p : Addr} {o : HO} (h : H p = some o) : upd H p o = H := by
  funext a
  by_cases ha : a = p
  · rw [ha, upd_same, h]
  · rw [upd_ne ha]
/-- Tl puts what stands for zs behind the list at p, and spends the slots vs -/
def Lg (Y : Cx) (p : Addr) (ρ : List SD) (Tl : (Shared → Prop) → Shared → Prop) (zs : List D) (vs : List Nat) : Prop :=
  ∀ (pins : List (Addr × Obj)) (s : Shared) (σ : L2.St) (H : Hp) (ws : List V) (H0 : Hp) (M0 : MS) (q : Shared → Prop), Inv Y pins σ H s → EnvOk Y.K (upd H0 p (.lst ws)) M0 ρ σ H → M0 p → ws.length + zs.length < 100000 →
    (∀ s' H' ys, Inv Y pins (wipe σ vs) H' s' → Kp p H H' → H' p = some (.lst (ws ++ ys)) → Rps Y.K H' (Mo M0 ρ σ) zs ys → q s') → Tl q s
section
variable {Y : Cx} {p : Addr} {ρ : List SD}
theorem lg_elt {elt : Expr} {z : D} (hx : Y.xe = NoE) (he : ED Y ρ elt z) : Lg Y p ρ (tlElt Y elt (.ref p)) [z] [] := by
  intro pins s σ H ws H0 M0 q I E hp hz h
  have r := he.run pins s σ H (fun v H' => Ex H H' ∧ Rp Y.K H' (Mo M0 ρ σ) z v) I ⟨_, _, E, fun v H' e1 r1 => ⟨e1, r1⟩⟩
  rw [hx] at r
  refine thnF r fun x s1 ⟨v, H1, I1, rv, e1, r1⟩ => ?_
  have hD : H1 p = some (.lst ws) := e1 _ _ (E.ex _ _ upd_same)
  refine app_ok (X := Y) I1 hD (small' ?_) rv fun s2 I2 => h s2 _ [v] I2 (fun a o n g => by rw [upd_ne n]; exact e1 a o g) upd_same (Rps.one (Rp.le (fun a o g m => ⟨?_, m⟩) _ _ r1))
  · have : ws.length + 1 < 100000 := hz
    omega
  · rw [upd_ne (fun z => m (.inl (.inl (by rw [z]; exact hp))))]; exact g
/-- a clause's loop, from its iterator on -/
theorem lg_loop {α : Type} {xs : List α} {enc : α → D} {e : Expr} {k j : Nat} {tg : Expr} {ifs : List Expr} {Tl : (Shared → Prop) → Shared → Prop} {t : α → Bool} {zs : α → List D} {vs : List Nat} {pins : List (Addr × Obj)} {s : Shared} {σ : L2.St} {H H1 : Hp} {M1 : MS} {ws : List V} {it : Addr} {fp : List Addr} {tn : Nat → Heap → Prop} {J : It} {R : Result → Shared → Prop}
    (hL : LoopBy Y e k tg ifs (.ref p) Tl) (hx : Y.xe = NoE) (hc : Y.calm = true) (hg : TD Y tg (setF j) [j]) (hj : j < ρ.length) (hw : wipeR ρ (j :: vs) = ρ)
    (ht : ∀ x ∈ xs, PTs Y ifs (tT Y.K (ρ.set j (.val (enc x))) (t x))) (hb : ∀ x ∈ xs, t x = true → Lg Y p (ρ.set j (.val (enc x))) Tl (zs x) vs)
    (I : Inv Y pins σ H s) (T : Turn Y.prog Y.w Y.K tg J fp it tn) (st : tn 0 s.heap) (hf : ∀ b ∈ fp, FpOk Y pins H b) (E : EnvOk Y.K H1 M1 ρ σ H) (hp : M1 p) (hp1 : H1 p = some (.lst ws)) (it0 : ItOk Y.K M1 H1 J (xs.map enc))
    (hz : ws.length + ((xs.filter t).flatMap zs).length < 100000)
    (h : ∀ s' H' ys, Inv Y pins (wipe σ (j :: vs)) H' s' → Kp p H H' → H' p = some (.lst (ws ++ ys)) → Rps Y.K H' (Mo M1 ρ σ) ((xs.filter t).flatMap zs) ys → R (.ok .next) s') :
    codeAny (model Y.prog Y.w) Y.A (.compLoop e k (.ref it) (.ref p) Y.env) R s := by
  have stat : ∀ {H' : Hp}, (∀ b ∈ fp, H' b = none) → ∀ b ∈ fp, FpOk Y pins H' b := fun hn b hb => ⟨hn b hb, (hf b hb).2⟩
  have noOwn : ∀ i, i ∈ j :: vs → ∀ d, ρ[i]? ≠ some (SD.hot d) := fun i hi d z => by
    rw [← hw] at z
    exact wipeR_hot hi z
  refine hL _ _ (fun n s' => ∃ i H' ys, i + n = xs.length ∧ Inv Y pins (wipe σ (j :: vs)) H' s' ∧ tn i s'.heap ∧ (∀ b ∈ fp, H' b = none) ∧ Kp p H H' ∧ H' p = some (.lst (ws ++ ys)) ∧ Rps Y.K H' (Mo M1 ρ σ) (((xs.take i).filter t).flatMap zs) ys) ?_ xs.length s
    ⟨0, H, [], by omega, I.weak (wipe_length _ _) (fun i v g => (wipe_some g).1), st, fun b hb => (hf b hb).1, fun _ _ _ g => g, by rw [List.append_nil]; exact E.ex _ _ hp1, rfl⟩
  rintro n s5 ⟨i, H5, ys, hn, I5, st5, n5, k5, p5, r5⟩
  have E5 : EnvOk Y.K (upd H1 p (.lst (ws ++ ys))) M1 ρ (wipe σ (j :: vs)) H5 := by
    have e1 : EnvOk Y.K (upd H1 p (.lst ws)) M1 ρ σ H := by rw [upd_self hp1]; exact E
    have e2 := (e1.reM hp (fun a u n g => k5 a u n g) p5).wipe (j :: vs)
    rw [hw] at e2
    exact e2
  have exn : ExN M1 H1 H5 := fun a o g m => E5.ex a o (by rw [upd_ne (fun z => m (by rw [z]; exact hp))]; exact g)
  have base : Le H1 M1 H5 (Mo M1 ρ (wipe σ (j :: vs))) := fun a o g m => E5.base_le a o (by rw [upd_ne (fun z => m (by rw [z]; exact hp))]; exact g) m
  obtain ⟨i1, i2⟩ := it0 i H5 exn
  by_cases hlt : i < xs.length
  · have hmem : xs[i] ∈ xs := List.getElem_mem hlt
    obtain ⟨g1, g2⟩ := i2 (enc xs[i]) (by rw [List.getElem?_map, List.getElem?_eq_getElem hlt]; rfl)
    refine thnF (T.item Y rfl rfl rfl hc i pins s5 _ H5 NoE I5 (stat n5) st5 g1) fun r s6 ⟨u, hr, h6⟩ => .inr ⟨u, hr, ?_⟩
    refine thnF h6 fun _ s7 ⟨x, H7, I7, r7, y7, st7, n7⟩ => ?_
    obtain ⟨ex7, rp7⟩ := g2 x H7 y7
    have r8 := hg.run _ s7 _ H7 x u (fun σ8 H8 => H8 = H7 ∧ EnvOk Y.K (upd H1 p (.lst (ws ++ ys))) M1 (ρ.set j (.val (enc xs[i]))) σ8 H7 ∧ σ8.length = (wipe σ (j :: vs)).length ∧ ∀ i : Nat, i ∉ [j] → σ8[i]? = (wipe σ (j :: vs))[i]?) (I7.pinned (stat n7) (T.obj _ _ st7)) r7
      ⟨_, M1, ρ, enc xs[i], _, ⟨hj, rfl⟩, E5.ext ex7, rp7 _ base E5.dom, fun σ' E' l' k' => ⟨rfl, E', l', k'⟩⟩
    rw [hx] at r8
    refine thnF r8 fun _ s8 ⟨σ8, H8, I8, z8, E8, l8, k8⟩ => ?_
    subst z8
    have old : ∀ (q : Nat) v, (wipe σ (j :: vs))[q]? = some (some v) → σ8[q]? = some (some v) ∧ q ∉ vs := fun q v e => by
      obtain ⟨_, e2⟩ := wipe_some e
      exact ⟨by rw [k8 q (fun z => e2 (by rw [List.mem_singleton.mp z]; exact List.mem_cons_self))]; exact e, fun z => e2 (List.mem_cons_of_mem _ z)⟩
    have subM : ∀ a, Mo M1 ρ σ a → Mo M1 (ρ.set j (.val (enc xs[i]))) σ8 a := fun a m => by
      rcases m with (m | ⟨q, μ, d', h1, h2⟩) | ⟨q, ⟨d, h1⟩, h2⟩
      · exact .inl (.inl m)
      · have nq : q ∉ j :: vs := fun z => noOwn q z (.inr μ) h1
        exact .inl (.inr ⟨q, μ, d', by rw [List.getElem?_set_ne (fun z => nq (by rw [z]; exact List.mem_cons_self))]; exact h1, h2⟩)
      · have nq : q ∉ j :: vs := fun z => noOwn q z (.inl d) h1
        have nj : q ≠ j := fun z => nq (by rw [z]; exact List.mem_cons_self)
        refine .inr ⟨q, ⟨d, by rw [List.getElem?_set_ne (Ne.symm nj)]; exact h1⟩, ?_⟩
        rw [k8 q (fun z => nj (List.mem_singleton.mp z)), wipe_out nq]
        exact h2
    have tk : xs.take (i + 1) = xs.take i ++ [xs[i]] := by
      rw [List.take_add_one, List.getElem?_eq_getElem hlt]; rfl
    refine ⟨_, σ8, _, _, I8, ht _ hmem, _, _, E8, fun H9 e9 s9 I9 => ?_⟩
    have k9 : Kp p H5 H9 := (ex7.trans e9).kp
    have p9 : H9 p = some (.lst (ws ++ ys)) := e9 _ _ (ex7 _ _ p5)
    have fin : ∀ {s' : Shared} {H' : Hp} {σ' : L2.St} {ys2 : List V}, Inv Y (pins ++ pinsAt fp s7.heap) σ' H' s' → (wipe σ (j :: vs)).length = σ'.length → (∀ (q : Nat) v, (wipe σ (j :: vs))[q]? = some (some v) → σ'[q]? = some (some v)) → Kp p H9 H' → H' p = some (.lst (ws ++ ys ++ ys2)) →
        Rps Y.K H' (Mo M1 ρ σ) ((([xs[i]]).filter t).flatMap zs) ys2 → ∃ m, m < n ∧ ∃ i H' ys, i + m = xs.length ∧ Inv Y pins (wipe σ (j :: vs)) H' s' ∧ tn i s'.heap ∧ (∀ b ∈ fp, H' b = none) ∧ Kp p H H' ∧ H' p = some (.lst (ws ++ ys)) ∧ Rps Y.K H' (Mo M1 ρ σ) (((xs.take i).filter t).flatMap zs) ys := fun {s' H' σ' ys2} I' hl hk kp' pp' rr' => by
      have pin' : ∀ b ∈ fp, ∀ o, s7.heap.get? b = some o → s'.heap.get? b = some o ∧ H' b = none := fun b hb o e =>
        let z := I'.pin (b, o) (List.mem_append_right _ (List.mem_append_right _ (mem_pinsAt hb e)))
        ⟨z.1, z.2.1⟩
      refine ⟨n - 1, by omega, i + 1, H', ys ++ ys2, by omega, I'.unpinned.weak hl hk, T.keep _ _ _ st7 fun b hb o e => (pin' b hb o e).1, fun b hb => ?_, k5.trans (k9.trans kp'), by rw [← List.append_assoc]; exact pp', ?_⟩
      · obtain ⟨o, e, _⟩ := T.obj _ _ st7 b hb
        exact (pin' b hb o e).2
      · rw [tk, List.filter_append, List.flatMap_append]
        exact Rps.append (Rps.le (fun a o g m => ⟨(k9.trans kp') a o (fun z => m (.inl (.inl (by rw [z]; exact hp)))) g, m⟩) _ _ r5) rr'
    cases htx : t xs[i] with
    | false =>
      show ∃ m, _
      refine fin I9 l8.symm (fun q v e => (old q v e).1) (fun _ _ _ g => g) (ys2 := []) (by rw [List.append_nil]; exact p9) ?_
      rw [List.filter_cons, if_neg (by rw [htx]; decide)]
      exact rfl
    | true =>
      show Tl _ s9
      have nl : ys.length + (zs xs[i]).length ≤ ((xs.filter t).flatMap zs).length := by
        have a2 : (xs.filter t).flatMap zs = ((xs.take i).filter t).flatMap zs ++ (zs xs[i] ++ ((xs.drop (i + 1)).filter t).flatMap zs) := by
          conv => lhs; rw [← List.take_append_drop i xs]
          rw [List.filter_append, List.flatMap_append, List.drop_eq_getElem_cons hlt, List.filter_cons, if_pos htx, List.flatMap_cons]
        rw [a2, List.length_append, List.length_append, r5.length]
        omega
      refine hb _ hmem htx _ s9 σ8 H9 (ws ++ ys) H1 M1 _ I9 (E8.ext e9) hp (by rw [List.length_append]; omega) fun s' H' ys2 I' kp' pp' rr' => ?_
      refine fin I' (l8.symm.trans (wipe_length _ _).symm) (fun q v e => by rw [wipe_out (old q v e).2]; exact (old q v e).1) kp' pp' ?_
      rw [List.filter_cons, if_pos htx, List.filter_nil, List.flatMap_cons, List.flatMap_nil, List.append_nil]
      exact Rps.le (Le.sub subM) _ _ rr'
  · have hie : i = xs.length := by omega
    subst hie
    refine thnF (T.done Y rfl rfl rfl hc _ pins s5 _ H5 NoE I5 (stat n5) st5 (i1 (List.length_map ..).symm)) fun r s6 ⟨hr, I6⟩ => .inl ⟨hr, ?_⟩
    refine h s6 H5 ys I6 k5 p5 ?_
    rw [List.take_length] at r5
    exact r5
/-- a clause that is not the first -/
theorem lg_in {α : Type} {xs : List α} {enc : α → D} {e : Expr} {k j : Nat} {tg iter : Expr} {ifs : List Expr} {Tl : (Shared → Prop) → Shared → Prop} {t : α → Bool} {zs : α → List D} {vs : List Nat}
    (hL : LoopBy Y e k tg ifs (.ref p) Tl) (hS : StartBy Y e k (.ref p)) (hx : Y.xe = NoE) (hc : Y.calm = true) (hi : WD Y ρ tg iter (xs.map enc)) (hg : TD Y tg (setF j) [j]) (hj : j < ρ.length) (hw : wipeR ρ (j :: vs) = ρ)
    (ht : ∀ x ∈ xs, PTs Y ifs (tT Y.K (ρ.set j (.val (enc x))) (t x))) (hb : ∀ x ∈ xs, t x = true → Lg Y p (ρ.set j (.val (enc x))) Tl (zs x) vs) :
    Lg Y p ρ (tlIn Y e k iter (.ref p)) ((xs.filter t).flatMap zs) (j :: vs) := by
  intro pins s σ H ws H0 M0 q I E hp hz h
  have r := hi.run pins s σ H (fun J H' => ∃ H1, Ex H H' ∧ Ex (upd H0 p (.lst ws)) H1 ∧ EnvOk Y.K H1 M0 ρ σ H' ∧ ItOk Y.K M0 H1 J (xs.map enc)) I ⟨_, M0, E, fun J H' H1 e1 e0 E1 i0 => ⟨H1, e1, e0, E1, i0⟩⟩
  simp only [hx] at r
  refine thnF r fun x s1 h1 => thnF h1 fun i1 s2 ⟨it, fp, tn, J, H2, e, I2, T, st2, f2, H1, e1, e0, E1, i0⟩ => ?_
  subst e
  have loop := lg_loop (R := fun r s' => (∃ f, r = .ok f) ∧ q s') hL hx hc hg hj hw ht hb I2 T st2 f2 E1 hp (e0 _ _ upd_same) i0 hz fun s' H' ys I' k' p' r' => ⟨⟨_, rfl⟩, h s' H' ys I' (e1.kp.trans k') p' r'⟩
  exact hS _ _ _ loop (T.self Y.A 0 _ _ _ st2 loop)
end
section
variable {X : Cx} {ρ : List SD} {elt t0 i0 t1 i1 t2 i2 : Expr} {c0 c1 c2 : List Expr} {scope : Scope} {own : List (Str × Nat)} {pos : Pos}
theorem eo_lcN {α : Type} {xs : List α} {enc : α → D} {gs : List Comprehension} {j : Nat} {t : α → Bool} {zs : α → List D} {vs : List Nat} (hc : X.calm = true) (hN : X.N.Nodup) (ok : BlkOk X.N X.env.scope scope own) (hi : WD X ρ t0 i0 (xs.map enc)) (hv : own.map (·.2) = j :: vs) (hj : j < ρ.length) (hw : wipeR ρ (j :: vs) = ρ)
    (hL : ∀ (s : Shared) (H : Hp) (C : Addr) (cl : List (Str × Addr)) (fp : List Addr) (p : Addr), ∃ Tl, LoopBy (X.blk s H scope (compEnvC scope cl C X.env) fp) (.ListComp elt (⟨t0, i0, c0, 0⟩ :: gs) scope pos) 0 t0 c0 (.ref p) Tl ∧
      ∀ x ∈ xs, t x = true → Lg (X.blk s H scope (compEnvC scope cl C X.env) fp) p (ρ.set j (.val (enc x))) Tl (zs x) vs)
    (hg : ∀ (s : Shared) (H : Hp) (C : Addr) (cl : List (Str × Addr)) (fp : List Addr), TD (X.blk s H scope (compEnvC scope cl C X.env) fp) t0 (setF j) [j])
    (ht : ∀ (s : Shared) (H : Hp) (C : Addr) (cl : List (Str × Addr)) (fp : List Addr) (x : α), x ∈ xs → PTs (X.blk s H scope (compEnvC scope cl C X.env) fp) c0 (tT X.K (ρ.set j (.val (enc x))) (t x)))
    (hz : ((xs.filter t).flatMap zs).length < 100000) (hs : ∀ x, foldedSetIterable i0 X.env x = pure x := by intro _; rfl) :
    EO X ρ (.ListComp elt (⟨t0, i0, c0, 0⟩ :: gs) scope pos) (.lst ((xs.filter t).flatMap zs)) := by
  refine ⟨fun pins s σ H Q I ⟨H0, M0, E, q⟩ => ?_⟩
  rw [eval_ListComp]
  have cf := closure_ok (scope := scope) (env := X.env) fun y hy e => (ok.free y hy e).elim (fun k => I.ok.has _ (.inl k)) fun k => I.ok.has _ (.inr k)
  have r := hi.run pins s σ H (fun J H' => ∃ H1, Ex H H' ∧ Ex H0 H1 ∧ EnvOk X.K H1 M0 ρ σ H' ∧ ItOk X.K M0 H1 J (xs.map enc)) I ⟨H0, M0, E, fun J H' H1 e1 e0 E1 i0 => ⟨H1, e1, e0, E1, i0⟩⟩
  refine wpAny_comprehension_free (use := none) rfl hs cf ok.kind (fun y hy e => by rw [ok.uniq y hy, e]) (thn r fun xv s1 h1 => thn h1 fun itv s2 ⟨it, fp, tn, J, H2, e, I2, T, st2, f2, H1, e1, e0, E1, i0⟩ => ?_)
  subst e
  refine wpAny_newObj_type ?_ (by show 0 ≤ sizeLine; decide)
  obtain ⟨p, hp⟩ : ∃ p, p = s2.heap.objs.size := ⟨_, rfl⟩
  rw [← hp]
  have np : H2 p = none := I2.hok.fresh (Nat.le_of_eq hp.symm)
  obtain ⟨s3, es3⟩ : ∃ s3 : Shared, s3 = { s2 with heap := s2.heap.push { cls := .type "list", data := .seq ([] : List Value).toArray } } := ⟨_, rfl⟩
  have kp3 : ∀ b o, s2.heap.get? b = some o → s3.heap.get? b = some o := fun b o g => by rw [es3]; exact Heap.get?_push_of_some _ g
  obtain ⟨H3, eH3⟩ : ∃ H3 : Hp, H3 = upd H2 p (.lst []) := ⟨_, rfl⟩
  have I3 : Inv X pins σ H3 s3 := by
    rw [eH3, es3]
    exact I2.laid (t' := s2.toks) (fun b o g => Heap.get?_push_of_some _ g) (Nat.le_of_eq hp.symm) ⟨Nat.zero_le _, [], 0, .nil, by rw [hp]; exact Heap.get?_push_size _ rfl⟩
  have h3p : H3 p = some (.lst []) := by rw [eH3, upd_same]
  have ex23 : Ex H2 H3 := by rw [eH3]; exact Ex.new np
  have f3 : ∀ b ∈ fp, FpOk X pins H3 b ∧ b < s3.heap.objs.size := fun b hb => by
    obtain ⟨o, g, _⟩ := T.obj _ _ st2 b hb
    have lt := Heap.lt_size g
    exact ⟨⟨by rw [eH3, upd_ne (by rw [hp]; exact Nat.ne_of_lt lt)]; exact (f2 b hb).1, (f2 b hb).2⟩, Heap.lt_size (kp3 _ _ g)⟩
  have I4 := block_start I3 ok hN f3
  have E4 := (E1.extM np ex23 h3p).wipe (own.map (·.2))
  have z1 : H1 p = none := E1.ex.back np
  have i4 : ItOk X.K (fun a => M0 a ∨ a = p) (upd H1 p (.lst [])) J (xs.map enc) := fun i H' x => by
    obtain ⟨a1, a2⟩ := i0 i H' fun a o g m => x a o (by rw [upd_ne (ne_of_none g z1)]; exact g) fun z => z.elim m (ne_of_none g z1)
    refine ⟨a1, fun d hd => ⟨(a2 d hd).1, fun v H'' y => ⟨((a2 d hd).2 v H'' y).1, fun M l dm => ((a2 d hd).2 v H'' y).2 M (fun a o g m => l a o (by rw [upd_ne (ne_of_none g z1)]; exact g) fun z => z.elim m (ne_of_none g z1)) dm⟩⟩⟩
  rw [hv, hw] at E4
  rw [hv] at I4
  obtain ⟨Tl, hl, hb⟩ := hL s3 H3 s3.heap.objs.size (cellsFrom (s3.heap.objs.size + 1) scope.names (cloFrom X.env.cells scope.names [])) fp p
  have tg := hg s3 H3 s3.heap.objs.size (cellsFrom (s3.heap.objs.size + 1) scope.names (cloFrom X.env.cells scope.names [])) fp
  have tt := ht s3 H3 s3.heap.objs.size (cellsFrom (s3.heap.objs.size + 1) scope.names (cloFrom X.env.cells scope.names [])) fp
  have st3 : tn 0 s3.heap := T.keep _ _ _ st2 fun b _ o g => kp3 b o g
  rw [← es3]
  refine newEnv_comp ?_
  obtain ⟨ce, ece⟩ : ∃ ce, ce = compEnvC scope (cellsFrom (s3.heap.objs.size + 1) scope.names (cloFrom X.env.cells scope.names [])) s3.heap.objs.size X.env := ⟨_, rfl⟩
  rw [← ece] at I4 hl hb tg tt
  show codeAny _ _ (.compStart _ 0 (.ref it) (.ref p) (compEnvC scope (cellsFrom (s3.heap.objs.size + 1) scope.names (cloFrom X.env.cells scope.names [])) s3.heap.objs.size X.env)) (compPost _ _ X.xe none _ (.ref p) s3.heap.objs.size) _
  rw [← ece]
  obtain ⟨s4, es4⟩ : ∃ s4 : Shared, s4 = { s3 with heap := pushCells (s3.heap.push { cls := .type "dict", data := .dict #[] }) scope.names } := ⟨_, rfl⟩
  rw [← es4] at I4 ⊢
  have st4 : tn 0 s4.heap := T.keep _ _ _ st3 fun b _ o g => by rw [es4]; exact pushCells_keeps _ _ _ _ (Heap.get?_push_of_some _ g)
  have f4 : ∀ b ∈ fp, FpOk (X.blk s3 H3 scope ce fp) [] H3 b := fun b hb => ⟨(f3 b hb).1.1, (I4.ok.exf b hb).1, I4.ok.exfs b hb, .inl hb, fun x c g => (I4.ok.exf b hb).2 x c g, fun q hq => absurd (show q ∈ ([] : List (Addr × Obj)) ++ [] from hq) (by simp)⟩
  have noOwn : ∀ i, i ∈ j :: vs → ∀ d, ρ[i]? ≠ some (SD.hot d) := fun i hi d z => by
    rw [← hw] at z
    exact wipeR_hot hi z
  have loop := lg_loop (Y := X.blk s3 H3 scope ce fp) (pins := []) (ws := []) (R := compPost (model X.prog X.w) X.A X.xe none (EP X pins σ Q) (.ref p) s3.heap.objs.size) hl rfl hc tg hj hw tt hb I4 T st4 f4 E4 (.inr rfl) upd_same i4 (by rw [List.length_nil, Nat.zero_add]; exact hz) fun s' H' ys I' k' p' r' => ?_
  · exact codeAny_compStart_list loop (T.self X.A 0 _ _ _ st4 loop)
  have I7 : Inv X pins σ H' s' := I3.call' (ch := fp) I'.os I'.base I'.hok I'.bare fun b hb => ⟨(f3 b hb).1.2.2.2.1, (f3 b hb).1.2.1, (f3 b hb).1.2.2.2.2.1, (f3 b hb).1.2.2.2.2.2⟩
  have nC : H' s3.heap.objs.size = none := by
    have z : H' ce.locals = none := I'.free
    rw [ece] at z
    exact z
  obtain ⟨m, hn, _⟩ := I'.loc
  have hn : s'.heap.Ns ce.locals m := hn
  rw [ece] at hn
  obtain ⟨b0, b1, b2, b3, b4, b5⟩ := I3.fpOk (Nat.le_refl _) nC
  refine ⟨m, hn, fun h'' sb => ⟨.ref p, H', I7.turned (t' := s'.toks) (fun b o n g => (sb.2 b n).trans g) b0 b1 b3 b4 b5, rfl, ?_⟩⟩
  refine q p H' (e1.back np) (fun a o g => k' a o (ne_of_none (e1 a o g) np) (ex23 _ _ (e1 a o g))) ⟨ys, p', Rps.le (Le.sub fun a z => ?_) _ _ r'⟩
  rcases z with ((z | z) | ⟨i, ⟨d, h1⟩, h2⟩) | z
  · exact .inl (.inl (.inl z))
  · exact .inl (.inr z)
  · have ni : i ∉ j :: vs := fun z => noOwn i z (.inl d) h1
    exact .inr ⟨i, ⟨d, h1⟩, by rw [wipe_out ni]; exact h2⟩
  · exact .inl (.inl (.inr z))
/-- three clauses with names -/
theorem eo_lc3 {α β γ : Type} {xs : List α} {enc : α → D} {ys : α → List β} {enc1 : β → D} {zs : α → β → List γ} {enc2 : γ → D} {g : α → β → γ → D} (i j k : Nat) (hc : X.calm = true) (hN : X.N.Nodup) (hi : WD X ρ t0 i0 (xs.map enc)) (ok : BlkOk X.N X.env.scope scope own) (hv : own.map (·.2) = [i, j, k])
    (hg : ∀ (s : Shared) (H : Hp) (C : Addr) (cl : List (Str × Addr)) (fp : List Addr), TD (X.blk s H scope (compEnvC scope cl C X.env) fp) t0 (setF i) [i] ∧ TD (X.blk s H scope (compEnvC scope cl C X.env) fp) t1 (setF j) [j] ∧ TD (X.blk s H scope (compEnvC scope cl C X.env) fp) t2 (setF k) [k])
    (hl : i < ρ.length ∧ j < ρ.length ∧ k < ρ.length) (hw : wipeR ρ [i, j, k] = ρ) (hw1 : ∀ d, wipeR (ρ.set i (.val d)) [j, k] = ρ.set i (.val d)) (hw2 : ∀ d d1, wipeR ((ρ.set i (.val d)).set j (.val d1)) [k] = (ρ.set i (.val d)).set j (.val d1))
    (hi1 : ∀ (s : Shared) (H : Hp) (C : Addr) (cl : List (Str × Addr)) (fp : List Addr) (x : α), x ∈ xs → WD (X.blk s H scope (compEnvC scope cl C X.env) fp) (ρ.set i (.val (enc x))) t1 i1 ((ys x).map enc1))
    (hi2 : ∀ (s : Shared) (H : Hp) (C : Addr) (cl : List (Str × Addr)) (fp : List Addr) (x : α) (y : β), x ∈ xs → y ∈ ys x → WD (X.blk s H scope (compEnvC scope cl C X.env) fp) ((ρ.set i (.val (enc x))).set j (.val (enc1 y))) t2 i2 ((zs x y).map enc2))
    (he : ∀ (s : Shared) (H : Hp) (C : Addr) (cl : List (Str × Addr)) (fp : List Addr) (x : α) (y : β) (z : γ), x ∈ xs → y ∈ ys x → z ∈ zs x y → ED (X.blk s H scope (compEnvC scope cl C X.env) fp) (((ρ.set i (.val (enc x))).set j (.val (enc1 y))).set k (.val (enc2 z))) elt (g x y z))
    (hz : (xs.flatMap fun x => (ys x).flatMap fun y => (zs x y).map (g x y)).length < 100000) {res : List D} (hr : (xs.flatMap fun x => (ys x).flatMap fun y => (zs x y).map (g x y)) = res)
    (hs : ∀ x, foldedSetIterable i0 X.env x = pure x := by intro _; rfl) (hs1 : ∀ env x, foldedSetIterable i1 env x = pure x := by intro _ _; rfl) (hs2 : ∀ env x, foldedSetIterable i2 env x = pure x := by intro _ _; rfl) :
    EO X ρ (.ListComp elt [⟨t0, i0, [], 0⟩, ⟨t1, i1, [], 0⟩, ⟨t2, i2, [], 0⟩] scope pos) (.lst res) := by
  subst hr
  have all : ∀ {δ : Type} (l : List δ), l.filter (fun _ => true) = l := fun l => List.filter_eq_self.mpr fun _ _ => rfl
  have one : ∀ {δ : Type} (l : List δ) (f : δ → D), l.flatMap (fun z => [f z]) = l.map f := fun l f => by
    induction l with
    | nil => rfl
    | cons a r ih => rw [List.flatMap_cons, ih]; rfl
  have main := eo_lcN (elt := elt) (c0 := []) (t := fun _ => true) (gs := [⟨t1, i1, [], 0⟩, ⟨t2, i2, [], 0⟩]) (vs := [j, k]) (pos := pos) (zs := fun x => (ys x).flatMap fun y => (zs x y).map (g x y)) hc hN ok hi hv hl.1 hw (fun s H C cl fp p => ?_) (fun s H C cl fp => (hg s H C cl fp).1) (fun s H C cl fp x hx => pts_no) (by rw [all]; exact hz) hs
  · rw [all] at main
    exact main
  refine ⟨_, loop0 rfl (hs1 _), fun x hx _ => ?_⟩
  have in1 := lg_in (Y := X.blk s H scope (compEnvC scope cl C X.env) fp) (p := p) (t := fun _ => true) (zs := fun y => (zs x y).map (g x y)) (vs := [k]) (loop1 (elt := elt) (t0 := t0) (i0 := i0) (t1 := t1) (i1 := i1) (c0 := []) (c1 := []) (c2 := []) (t2 := t2) (scope := scope) (pos := pos) rfl (hs2 _)) start1 rfl hc (hi1 s H C cl fp x hx) (hg s H C cl fp).2.1 (by rw [List.length_set]; exact hl.2.1) (hw1 _) (fun y hy => pts_no) fun y hy _ => ?_
  · rw [all] at in1
    exact in1
  have in2 := lg_in (Y := X.blk s H scope (compEnvC scope cl C X.env) fp) (p := p) (t := fun _ => true) (zs := fun z => [g x y z]) (vs := []) (loop2 (elt := elt) (t0 := t0) (i0 := i0) (t1 := t1) (i1 := i1) (i2 := i2) (c0 := []) (c1 := []) (c2 := []) (t2 := t2) (scope := scope) (pos := pos) rfl) start2 rfl hc (hi2 s H C cl fp x y hx hy) (hg s H C cl fp).2.2 (by rw [List.length_set, List.length_set]; exact hl.2.2) (hw2 _ _) (fun z hz => pts_no) fun z hz _ => lg_elt rfl (he s H C cl fp x y z hx hy hz)
  rw [all, one] at in2
  exact in2
/-- two clauses with names, the second with a test -/
theorem eo_lct {α β : Type} {xs : List α} {enc : α → D} {ys : α → List β} {enc1 : β → D} {t : α → β → Bool} {g : α → β → D} (i j : Nat) (hc : X.calm = true) (hN : X.N.Nodup) (hi : WD X ρ t0 i0 (xs.map enc)) (ok : BlkOk X.N X.env.scope scope own) (hv : own.map (·.2) = [i, j])
    (hg : ∀ (s : Shared) (H : Hp) (C : Addr) (cl : List (Str × Addr)) (fp : List Addr), TD (X.blk s H scope (compEnvC scope cl C X.env) fp) t0 (setF i) [i] ∧ TD (X.blk s H scope (compEnvC scope cl C X.env) fp) t1 (setF j) [j])
    (hl : i < ρ.length ∧ j < ρ.length) (hw : wipeR ρ [i, j] = ρ) (hw1 : ∀ d, wipeR (ρ.set i (.val d)) [j] = ρ.set i (.val d))
    (hi1 : ∀ (s : Shared) (H : Hp) (C : Addr) (cl : List (Str × Addr)) (fp : List Addr) (x : α), x ∈ xs → WD (X.blk s H scope (compEnvC scope cl C X.env) fp) (ρ.set i (.val (enc x))) t1 i1 ((ys x).map enc1))
    (ht : ∀ (s : Shared) (H : Hp) (C : Addr) (cl : List (Str × Addr)) (fp : List Addr) (x : α) (y : β), x ∈ xs → y ∈ ys x → PTs (X.blk s H scope (compEnvC scope cl C X.env) fp) c1 (tT X.K ((ρ.set i (.val (enc x))).set j (.val (enc1 y))) (t x y)))
    (he : ∀ (s : Shared) (H : Hp) (C : Addr) (cl : List (Str × Addr)) (fp : List Addr) (x : α) (y : β), x ∈ xs → y ∈ ys x → t x y = true → ED (X.blk s H scope (compEnvC scope cl C X.env) fp) ((ρ.set i (.val (enc x))).set j (.val (enc1 y))) elt (g x y))
    (hz : (xs.flatMap fun x => ((ys x).filter (t x)).map (g x)).length < 100000) {res : List D} (hr : (xs.flatMap fun x => ((ys x).filter (t x)).map (g x)) = res)
    (hs : ∀ x, foldedSetIterable i0 X.env x = pure x := by intro _; rfl) (hs1 : ∀ env x, foldedSetIterable i1 env x = pure x := by intro _ _; rfl) :
    EO X ρ (.ListComp elt [⟨t0, i0, [], 0⟩, ⟨t1, i1, c1, 0⟩] scope pos) (.lst res) := by
  subst hr
  have all : ∀ {δ : Type} (l : List δ), l.filter (fun _ => true) = l := fun l => List.filter_eq_self.mpr fun _ _ => rfl
  have one : ∀ {δ : Type} (l : List δ) (f : δ → D), l.flatMap (fun z => [f z]) = l.map f := fun l f => by
    induction l with
    | nil => rfl
    | cons a r ih => rw [List.flatMap_cons, ih]; rfl
  have main := eo_lcN (elt := elt) (c0 := []) (t := fun _ => true) (gs := [⟨t1, i1, c1, 0⟩]) (vs := [j]) (pos := pos) (zs := fun x => ((ys x).filter (t x)).map (g x)) hc hN ok hi hv hl.1 hw (fun s H C cl fp p => ?_) (fun s H C cl fp => (hg s H C cl fp).1) (fun s H C cl fp x hx => pts_no) (by rw [all]; exact hz) hs
  · rw [all] at main
    exact main
  refine ⟨_, loopA0 rfl (hs1 _), fun x hx _ => ?_⟩
  have in1 := lg_in (Y := X.blk s H scope (compEnvC scope cl C X.env) fp) (p := p) (t := t x) (zs := fun y => [g x y]) (vs := []) (loopA1 (elt := elt) (t0 := t0) (i0 := i0) (t1 := t1) (i1 := i1) (c0 := []) (c1 := c1) (scope := scope) (pos := pos) rfl) startA1 rfl hc (hi1 s H C cl fp x hx) (hg s H C cl fp).2 (by rw [List.length_set]; exact hl.2) (hw1 _) (fun y hy => ht s H C cl fp x y hx hy) fun y hy hty => lg_elt rfl (he s H C cl fp x y hx hy hty)
  rw [one] at in1
  exact in1
end
end RW

end
section
/-! parts of texts, numbers in texts -/
namespace RW
open PySem PySem.Spec PyProof.Rows L2
section
variable {X : Cx}
theorem sld_str {z : Str} {lo hi : Option Int} (hz : z.length ≤ 1000000) : SlD X (.str z) lo hi (.str (cutS z lo hi)) := ⟨_, sl_str, fun H M x dm rx Q q => ⟨z, rx, Nat.le_trans hz (by decide), q _ H (Ex.refl H) rfl⟩⟩
theorem cd_intS {a : Str} {n : Int} (h : PySem.intText? a = some n) (hz : a.length ≤ 640) : CallD X (.type "int") [.str a] (.int n) := ⟨_, call_int_str, fun H M vs dm r Q q => by
  obtain ⟨x, r, rfl, h1, h2⟩ := r
  cases h2
  exact ⟨a, n, by rw [show x = .str a from h1], h, hz, q _ H (Ex.refl H) rfl⟩⟩
theorem rps_ints {K : PySem.W.Frag} {H : Hp} {M : MS} : ∀ ns : List Int, Rps K H M (ns.map .int) (ns.map V.int)
  | [] => rfl
  | n :: r => ⟨.int n, _, rfl, rfl, rps_ints r⟩
/-- list(range(n)) -/
theorem eo_listR {ρ : List SD} {e : Expr} {n : Int} {p p2 pos pos2 : Pos} (hc : X.calm = true) (hg : Gl X "list") (hm : X.mg "list" = none) (hg2 : Gl X "range") (hm2 : X.mg "range" = none) (h : ED X ρ e (.int n)) (hn : 0 ≤ n ∧ n ≤ 100000)
    (na : starEach [e] X.env = (false, eval e X.env) :: starEach [] X.env := by rfl) (na2 : starEach [.Call (.Name "range" p2) [e] [] pos2] X.env = (false, eval (.Call (.Name "range" p2) [e] [] pos2) X.env) :: starEach [] X.env := by rfl) :
    EO X ρ (.Call (.Name "list" p) [.Call (.Name "range" p2) [e] [] pos2] [] pos) (.lst ((rng 0 n.toNat).map .int)) :=
  pe_w (pe_listRg hc hg hm (prg_1 hg2 hm2 h na) na2) fun σ H Q ⟨H0, M0, E, q⟩ => ⟨H0, M0, E, fun v H1 e1 r1 => ⟨n, r1, RgOk.of_le (by decide) (by omega) (by decide) (by omega), fun a na => q a _ (e1.back na) (e1.trans (Ex.new na)) (OwnAt.new_lst na (by
    have : rgV 0 n = (rng 0 n.toNat).map V.int := by
      unfold rgV rng
      rw [List.map_map, Int.sub_zero]
      rfl
    rw [this]
    exact rps_ints _))⟩⟩
end
end RW

end
section
/-! dicts that are read and filled by setdefault; sorted(dict); divmod; join; an owned thing lent to a call -/
namespace RW
open PySem PySem.Spec PyProof.Rows L2
section
variable {X : Cx} {W : WX} {ρ : List SD} {o e ke : Expr} {d : D} {k : Key} {kvs : List (Key × D)} {pos p p2 : Pos} {x : Str} {rest : List Stmt} {R : Po}
theorem et_lend (i : Nat) {b : Bool} (h : ET X (RW.frz ρ i) e b) : ET X ρ e b := pt_w h fun σ H Q ⟨H0, M0, E, q⟩ => ⟨H0, M0, E.wk (Wk.frz' ρ i), q⟩
theorem ed_lend (i : Nat) {n : Int} (h : ED X (RW.frz ρ i) e (.int n)) : ED X ρ e (.int n) := pe_w h fun σ H Q ⟨H0, M0, E, q⟩ => ⟨H0, M0, E.wk (Wk.frz' ρ i), fun v H' ex r => q v H' ex r⟩
theorem ed_me {a C : Addr} {fs : List (Str × D)} (h : ED X ρ e (.me a C fs)) : ED X ρ e (.obj C fs) := pe_w h fun σ H Q ⟨H0, M0, E, q⟩ => ⟨H0, M0, E, fun v H' ex ⟨dx, vs, r⟩ => q v H' ex ⟨a, dx, vs, r⟩⟩
def setdefD (kvs : List (Key × D)) (k : Key) (d : D) : List (Key × D) := match valD kvs k with
  | some _ => kvs
  | none => putKD kvs k d
theorem set_same {α : Type} {l : List α} {i : Nat} {u : α} (h : l[i]? = some u) : l.set i u = l := by
  apply List.ext_getElem?
  intro j
  by_cases z : i = j
  · subst z
    rw [List.getElem?_set_self (List.getElem?_eq_some_iff.mp h).1, h]
  · rw [List.getElem?_set_ne z]
theorem sds_setdef (i : Nat) {apos cpos : Pos} (hρ : ρ[i]? = some (.own (.dk kvs))) (hk : ED X ρ ke (keyD k)) (he : ED X ρ e d) (hN : X.N[i]? = some x) (hv : Vis X.env.scope x) (hz : kvs.length < 100000) (h : SDs X W (ρ.set i (.own (.dk (setdefD kvs k d)))) rest R)
    (m : M2 X (.Name x p) "setdefault" apos ke e cpos := by exact ⟨rfl, rfl, rfl, rfl⟩)
    (hd : (x == ("__debug__" : Str)) = false := by decide) (hcd : (x == ("__classdict__" : Str)) = false := by decide)
    (hs : swapsWith (.Call (.Attribute (.Name x p) ("setdefault" : Str) apos) [ke, e] [] cpos) none p2.line X.env = pure false := by rfl) : SDs X W ρ (.Expr (.Call (.Attribute (.Name x p) ("setdefault" : Str) apos) [ke, e] [] cpos) p2 :: rest) R :=
  sds_cons (R1 := fun ρ1 => ρ1 = ρ.set i (.own (.dk (setdefD kvs k d)))) (ps_w (ps_expr (pe_dsetd (ed_own i hρ hN hv hd hcd) hk he m) hs) fun Dn σ H ⟨H0, M0, E, q1, _⟩ => ⟨H0, M0, E, fun a ha hO => by
    obtain ⟨vs, ho, rk⟩ := hO
    refine ⟨a, rfl, .inl ⟨vs, .inl ho⟩, H0, M0, E, fun y H2 e2 r2 => ⟨H0, M0, E.ext e2, fun z H3 e3 r3 => ?_⟩⟩
    have e23 := e2.trans e3
    have ho3 := e23 _ _ ho
    have E3 := E.ext e23
    refine ⟨vs, k, ho3, keyD_v r2, small' (by rw [rk.length]; exact hz), fun v hv2 => ?_, fun hn => ?_⟩
    · have e4 : setdefD kvs k d = kvs := by
        unfold setdefD
        rcases rk.look (k := k) with ⟨z1, z2⟩ | ⟨d0, v0, z1, z2, _⟩
        · rw [z2] at hv2; cases hv2
        · rw [z1]
      exact q1 _ _ _ rfl (by rw [e4, set_same hρ]; exact E3)
    · have e4 : setdefD kvs k d = putKD kvs k d := by
        unfold setdefD
        rcases rk.look (k := k) with ⟨z1, z2⟩ | ⟨d0, v0, z1, z2, _⟩
        · rw [z1]
        · rw [z2] at hn; cases hn
      have l2 : Le H3 (Mo M0 ρ σ) (upd H3 a (.dK (putK vs k z))) (Mo M0 ρ σ) := fun b o q m => ⟨by
        rw [upd_ne (fun z => m (.inr ⟨i, ⟨_, hρ⟩, by rw [z]; exact ha⟩))]; exact q, m⟩
      have r4 : RpK X.K (upd H3 a (.dK (putK vs k z))) (Mo M0 ρ σ) (putKD kvs k d) (putK vs k z) := RpK.le l2 _ _ (RpK.put r3 (RpK.le (Le.ex e23) _ _ rk))
      refine q1 _ _ _ rfl ?_
      rw [e4]
      exact E3.write hρ ha ⟨_, upd_same, r4⟩⟩) fun _ z => by rw [z]; exact h
theorem RpK.keys {K : PySem.W.Frag} {H : Hp} {M : MS} : ∀ {ds : List (Key × D)} {vs : List (Key × V)}, RpK K H M ds vs → vs.map (·.1) = ds.map (·.1)
  | [], vs, h => by rw [show vs = [] from h]; rfl
  | (j, d) :: ds, vs, ⟨x, r, e, h1, h2⟩ => by rw [e, List.map_cons, List.map_cons, RpK.keys h2]
theorem rise_int : ∀ {zs es : List Int}, zs.Pairwise (· ≤ ·) → es.Pairwise (· ≤ ·) → es.Perm zs → es = zs
  | [], es, _, _, p => p.eq_nil
  | z :: zs, [], _, _, p => absurd p.symm.eq_nil (by simp)
  | z :: zs, e :: es, hz, he, p => by
    rw [List.pairwise_cons] at hz he
    have e1 : e = z := by
      have m1 : e ∈ z :: zs := p.mem_iff.mp List.mem_cons_self
      have m2 : z ∈ e :: es := p.mem_iff.mpr List.mem_cons_self
      rcases List.mem_cons.mp m1 with h | h
      · exact h
      · rcases List.mem_cons.mp m2 with h' | h'
        · exact h'.symm
        · have a := hz.1 e h
          have b := he.1 z h'
          omega
    subst e1
    rw [rise_int hz.2 he.2 (List.Perm.cons_inv p)]
/-- sorted(d) -/
theorem co_sortDK {ks zs : List Int} (hc : X.calm = true) (h1 : kvs.map (·.1) = ks.map Sum.inl) (h2 : ks.length < 64) (hp : zs.Perm ks) (hs : zs.Pairwise (· ≤ ·)) : CallO X (.builtin "sorted") [.dk kvs] (.lst (zs.map .int)) := ⟨_, call_sortedDI hc, fun H M vs dm r Q q => by
  obtain ⟨x, r, rfl, ⟨a, us, rfl, m, t, rx⟩, rfl⟩ := r
  refine ⟨a, us, ks, rfl, .inl t, rx.keys.trans h1, h2, fun ys p y1 y2 np => ?_⟩
  rw [rise_int hs y2 (y1.trans hp.symm)]
  exact q _ _ np (Ex.new np) (OwnAt.new_lst np (Rps.of_ints zs))⟩
/-- d[k] -/
theorem ed_getK (hu : X.A.units + 1 < cLine) (ho : ED X ρ o (.dk kvs)) (hk : ED X ρ ke (keyD k)) (h : valD kvs k = some d) (hs : NoSl ke := by exact fun _ _ => rfl) : ED X ρ (.Subscript o ke pos) d :=
  pe_w (pe_dget hu ho hk hs) fun σ H Q ⟨H0, M0, E, q⟩ => ⟨H0, M0, E, fun u H1 e1 r1 => ⟨H0, M0, E.ext e1, fun y H2 e2 r2 => by
    obtain ⟨a, vs, rfl, m, t, rk⟩ := r1
    rcases rk.look (k := k) with ⟨z1, _⟩ | ⟨d0, v0, z1, z2, z3⟩
    · rw [z1] at h; cases h
    · rw [z1] at h; cases h
      exact ⟨a, v0, rfl, by rw [keyD_v r2, ← z2]; exact DGet.k (e2 _ _ t), q v0 H2 (e1.trans e2) (Rp.le (Le.ex e2) _ _ z3)⟩⟩⟩
theorem cd_divmod {i j : Int} (h : 0 < j ∧ j < 1073741824) : CallD X (.builtin "divmod") [.int i, .int j] (.tup [.int (i / j), .int (i % j)]) := ⟨_, call_divmod, fun H M vs dm r Q q => by
  obtain ⟨x, r, rfl, h1, y, r2, rfl, h2, h3⟩ := r
  cases h3
  exact ⟨i, j, by rw [show x = .int i from h1, show y = .int j from h2], h, fun p np => q _ _ (Ex.new np) (Rp.new_tup dm np ⟨_, _, rfl, rfl, _, _, rfl, rfl, rfl⟩)⟩⟩
/-- s.join(xs) -/
theorem ed_joinT {a : Expr} {s : Str} {ys : List Str} {apos cpos : Pos} (ha : ED X ρ a (.str s)) (he : ED X ρ e (.lst (ys.map .str))) (hz : (ys.map (·.length)).sum + ys.length * s.length ≤ 16777216)
    (hs : starEach [e] X.env = [(false, eval e X.env)] := by rfl) (hbase : attributeBase a "join" X.env (eval a X.env) = eval a X.env := by rfl) (hline : (apos.endLine == cpos.line) = true := by rfl) :
    ED X ρ (.Call (.Attribute a "join" apos) [e] [] cpos) (.str (Txt.join s ys)) :=
  pe_w (pe_join ha he hs hbase hline) fun σ H Q ⟨H0, M0, E, q⟩ => ⟨H0, M0, E, fun v H1 e1 r1 => ⟨⟨s, r1⟩, H0, M0, E.ext e1, fun u H2 e2 r2 => by
    obtain ⟨p, xs, rfl, m, t, rx⟩ := r2
    exact ⟨s, p, ys, r1, rfl, .inl (by rw [← rx.strs]; exact SqL.of t), hz, q _ H2 (e1.trans e2) rfl⟩⟩⟩
end
end RW

end
section
/-! a store: objects that are known by their addresses and are written to -/
namespace RW
open PySem PySem.Spec PyProof.Rows L2
abbrev Sto := Addr → Option D
def putS (μ : Sto) (a : Addr) (d : D) : Sto := fun b => if b = a then some d else μ b
theorem putS_same {μ : Sto} {a : Addr} {d : D} : putS μ a d a = some d := if_pos rfl
theorem putS_ne {μ : Sto} {a b : Addr} {d : D} (h : b ≠ a) : putS μ a d b = μ b := if_neg h
section
variable {K : PySem.W.Frag} {H H' H0 H1 : Hp} {M M' M0 : MS} {ρ ρ' : List SD} {σ σ' : L2.St}
theorem Stt.mk {t : Nat} {μ : Sto} {a : Addr} {d : D} (h : ρ[t]? = some (.st μ)) (hμ : μ a = some d) : Stt ρ a := ⟨t, μ, d, h, hμ⟩
theorem EnvOk.one_st (E : EnvOk K H0 M0 ρ σ H) {t : Nat} {μ : Sto} (h : ρ[t]? = some (.st μ)) {a : Addr} (s : Stt ρ a) : ∃ d, μ a = some d := by
  obtain ⟨i, ν, d, h1, h2⟩ := s
  have e := E.one i t ν μ h1 h
  subst e
  rw [h1] at h; cases h
  exact ⟨d, h2⟩
/-- a store's object written, or a new one put in -/
theorem EnvOk.spost (E : EnvOk K H0 M0 ρ σ H) {t : Nat} {μ : Sto} {p : Addr} {d' : D} {o : HO} (h : ρ[t]? = some (.st μ)) (hp : Stt ρ p ∨ H p = none) (r : OwnAt K (upd H p o) (fun a => Mo M0 ρ σ a ∨ a = p) p d') :
    EnvOk K H0 M0 (ρ.set t (.st (putS μ p d'))) σ (upd H p o) := by
  have hl : t < ρ.length := (List.getElem?_eq_some_iff.mp h).1
  have ow : ∀ j a, Ow (ρ.set t (.st (putS μ p d'))) σ j a → j ≠ t ∧ Ow ρ σ j a := fun j a q => by
    obtain ⟨⟨e, h1⟩, h2⟩ := q
    rcases set_some h1 with ⟨_, z, _⟩ | ⟨ne, z⟩
    · cases z
    · exact ⟨ne, ⟨e, z⟩, h2⟩
  have sts : ∀ {j : Nat} {ν : Sto}, (ρ.set t (.st (putS μ p d')))[j]? = some (.st ν) → j = t ∧ ν = putS μ p d' := fun {j ν} q => by
    rcases set_some q with ⟨e, z, _⟩ | ⟨ne, z⟩
    · cases z; exact ⟨e, rfl⟩
    · exact absurd (E.one j t ν μ z h) ne
  have stt : ∀ {a : Addr}, Stt (ρ.set t (.st (putS μ p d'))) a → Stt ρ a ∨ a = p := fun {a} ⟨j, ν, d, h1, h2⟩ => by
    obtain ⟨rfl, rfl⟩ := sts h1
    by_cases e : a = p
    · exact .inr e
    · rw [putS_ne e] at h2
      exact .inl ⟨j, μ, d, h, h2⟩
  have nH0 : H0 p = none := by
    rcases hp with hp | hp
    · exact E.stf p hp
    · exact E.ex.back hp
  have nOw : ∀ j, ¬ Ow ρ σ j p := fun j q => by
    rcases hp with hp | hp
    · exact E.sto j p q hp
    · exact E.dom p (.inr ⟨j, q⟩) hp
  have mo : ∀ a, Mo M0 (ρ.set t (.st (putS μ p d'))) σ a → Mo M0 ρ σ a ∨ a = p := fun a z => by
    rcases z with (z | z) | ⟨j, z⟩
    · exact .inl (.inl (.inl z))
    · rcases stt z with z | z
      · exact .inl (.inl (.inr z))
      · exact .inr z
    · exact .inl (.inr ⟨j, (ow j a z).2⟩)
  have l : Le H (Mo M0 ρ σ) (upd H p o) (Mo M0 (ρ.set t (.st (putS μ p d'))) σ) := fun a u q m => by
    have na : a ≠ p := fun z => by
      subst z
      rcases hp with hp | hp
      · exact m (.inl (.inr hp))
      · rw [hp] at q; cases q
    exact ⟨by rw [upd_ne na]; exact q, fun z => (mo a z).elim m na⟩
  refine ⟨by rw [List.length_set]; exact E.len, fun a u q => ?_, E.m0, fun j a q => E.fresh j a (ow j a q).2, fun j k a q q' => E.inj j k a (ow j a q).2 (ow k a q').2, fun j e q => ?_, fun j e q => ?_, fun a q => ?_, fun j a q k => ?_, fun j ν q a d k => ?_, fun j k ν ν' q q' => (sts q).1.trans (sts q').1.symm⟩
  · have na : a ≠ p := fun z => by rw [z, nH0] at q; cases q
    rw [upd_ne na]; exact E.ex a u q
  · rcases set_some q with ⟨_, z, _⟩ | ⟨ne, z⟩
    · cases z
    · obtain ⟨u, h1, h2⟩ := E.val j e z
      exact ⟨u, h1, Rp.le l _ _ h2⟩
  · rcases set_some q with ⟨_, z, _⟩ | ⟨ne, z⟩
    · cases z
    · obtain ⟨a, h1, h2⟩ := E.own j e z
      have na : a ≠ p := fun z' => nOw j (z' ▸ ⟨⟨e, z⟩, h1⟩)
      exact ⟨a, h1, h2.le l fun u q => by rw [upd_ne na]; exact q⟩
  · rcases stt q with q | q
    · exact E.stf a q
    · rw [q]; exact nH0
  · rcases stt k with k | k
    · exact E.sto j a (ow j a q).2 k
    · exact nOw j (k ▸ (ow j a q).2)
  · obtain ⟨rfl, rfl⟩ := sts q
    by_cases e : a = p
    · subst e
      rw [putS_same] at k; cases k
      exact r.le (Le.sub mo) fun _ q => q
    · rw [putS_ne e] at k
      exact (E.st j μ h a d k).le l fun u q => by rw [upd_ne e]; exact q
theorem EnvOk.sput (E : EnvOk K H0 M0 ρ σ H) {t : Nat} {μ : Sto} {p : Addr} {d d' : D} {o : HO} (h : ρ[t]? = some (.st μ)) (hμ : μ p = some d) (r : OwnAt K (upd H p o) (Mo M0 ρ σ) p d') : EnvOk K H0 M0 (ρ.set t (.st (putS μ p d'))) σ (upd H p o) :=
  E.spost h (.inl (.mk h hμ)) (r.le (fun a o q m => ⟨q, fun z => z.elim m fun z => by
    subst z
    exact m (.inl (.inr (.mk h hμ)))⟩) fun _ q => q)
/-- a new object put in -/
theorem EnvOk.snew (E : EnvOk K H0 M0 ρ σ H1) {t : Nat} {μ : Sto} {p : Addr} {d : D} (h : ρ[t]? = some (.st μ)) (np : H1 p = none) (e : Ex H1 H) (r : OwnAt K H (fun a => Mo M0 ρ σ a ∨ a = p) p d) : EnvOk K H0 M0 (ρ.set t (.st (putS μ p d))) σ H := by
  obtain ⟨o, ho⟩ : ∃ o, H p = some o := by
    cases q : H p with
    | none => exact absurd q r.there
    | some o => exact ⟨o, rfl⟩
  classical
  -- the heap without p
  have E2 : EnvOk K H0 M0 ρ σ (fun a => if a = p then none else H a) := E.ext fun a u q => by
    have na : a ≠ p := fun z => by rw [z, np] at q; cases q
    show (if a = p then none else H a) = _
    rw [if_neg na]; exact e a u q
  have eq : upd (fun a => if a = p then none else H a) p o = H := by
    funext a
    by_cases z : a = p
    · subst z; rw [upd_same, ho]
    · rw [upd_ne z]; exact if_neg z
  have := E2.spost (o := o) (d' := d) h (.inr (if_pos rfl)) (by rw [eq]; exact r)
  rw [eq] at this
  exact this
end
section
variable {X : Cx} {W : WX} {ρ ρ' : List SD} {e o k : Expr} {d : D} {ds : List D} {pos p p2 : Pos} {C : Addr} {fs : List (Str × D)} {f x : Str} {rest : List Stmt} {R : Po} {t : Nat} {μ : Sto} {a : Addr}
/-- o.f, o in the store -/
theorem ed_sfld (he : ED X ρ o (.adr a)) (ht : ρ[t]? = some (.st μ)) (hμ : μ a = some (.obj C fs)) (c : Cls X.K C) (n : NoAttr X.K C f) (l : fs.lookup f = some d) (hb : attributeBase o f X.env (eval o X.env) = eval o X.env := by rfl) : ED X ρ (.Attribute o f pos) d :=
  pe_w (pe_fld he hb) fun σ H Q ⟨H0, M0, E, q⟩ => ⟨H0, M0, E, fun v H' e1 r => by
    obtain rfl : v = .ref a := r
    obtain ⟨dx, vs, h, r2⟩ := (E.ext e1).st t μ ht a _ hμ
    obtain ⟨y, l2, r3⟩ := r2.look l
    exact ⟨a, C, dx, vs, y, rfl, h, c, n, l2, q y H' e1 r3⟩⟩
/-- o[k], o a list in the store -/
theorem ed_six {kk : Int} (he : ED X ρ o (.adr a)) (ht : ρ[t]? = some (.st μ)) (hμ : μ a = some (.lst ds)) (hk : ED X ρ k (.int kk)) (h : atI ds kk = some d) (hs : PlainIx k := by intro _ _; rfl) : ED X ρ (.Subscript o k pos) d :=
  pe_w (pe_ix ix_list he hk hs) fun σ H Q ⟨H0, M0, E, q⟩ => ⟨H0, M0, E, fun v H1 e1 r1 => ⟨H0, M0, E.ext e1, fun iv H2 e2 r2 => by
    obtain rfl : v = .ref a := r1
    obtain ⟨xs, ho, rx⟩ := ((E.ext e1).ext e2).st t μ ht a _ hμ
    unfold atI at h
    cases hx : ixN ds.length kk with
    | none => rw [hx] at h; cases h
    | some j =>
      rw [hx] at h
      obtain ⟨y, h1, h2⟩ := rx.get (show ds[j]? = some d from h)
      exact ⟨a, xs, kk, y, rfl, r2, SqL.of ho, by unfold atI; rw [rx.length, hx]; exact h1, q y H2 (e1.trans e2) h2⟩⟩⟩
/-- len(o), o a list in the store -/
theorem ed_slen (he : ED X ρ o (.adr a)) (ht : ρ[t]? = some (.st μ)) (hμ : μ a = some (.lst ds)) (hg : Gl X "len") (hm : X.mg "len" = none) (hs : starEach [o] X.env = [(false, eval o X.env)] := by rfl) (hpl : (backTo pos (starEach [] X.env)).any (·.1) = false := by rfl) : ED X ρ (.Call (.Name "len" p) [o] [] pos) (.int ds.length) :=
  pe_w (pe_callB call_len_seq hg hm PySem.boot_len (pa_cons he pa_nil hs) (by decide) (by decide) hs hpl) fun σ H Q ⟨H0, M0, E, q⟩ => ⟨H0, M0, E, fun v H1 e1 r1 => by
    obtain rfl : v = .ref a := r1
    obtain ⟨xs, ho, rx⟩ := (E.ext e1).st t μ ht a _ hμ
    exact ⟨a, xs, rfl, .inl (SqL.of ho), by rw [rx.length]; exact q _ H1 e1 rfl⟩⟩
/-- o.f = e -/
theorem sds_sfld {p2 pos' : Pos} (ho : ED X ρ o (.adr a)) (ht : ρ[t]? = some (.st μ)) (hμ : μ a = some (.obj C fs)) (he : ED X ρ e d) (c : Cls X.K C) (n : NoAttr X.K C f) (hz : fs.length < 900) (h : SDs X W (ρ.set t (.st (putS μ a (.obj C (putD f d fs))))) rest R)
    (hs : swapsWith e (some (.Attribute o f pos')) pos.line X.env = pure false := by rfl) : SDs X W ρ (.Assign [.Attribute o f pos'] e pos :: rest) R :=
  sds_cons (R1 := fun ρ1 => ρ1 = ρ.set t (.st (putS μ a (.obj C (putD f d fs))))) (ps_w (ps_fld ho he hs) fun Dn σ H ⟨H0, M0, E, q1, _⟩ => ⟨H0, M0, E, fun v H1 e1 r1 => ⟨H0, M0, E.ext e1, fun u H2 e2 r2 => by
    obtain rfl : u = .ref a := r2
    have E2 := (E.ext e1).ext e2
    obtain ⟨dx, vs, hx, r3⟩ := E2.st t μ ht a _ hμ
    have l1 : Le H2 (Mo M0 ρ σ) (upd H2 a (.ins C dx (putF f v vs))) (Mo M0 ρ σ) := fun b o q m => ⟨by
      rw [upd_ne (fun z => m (by rw [z]; exact .inl (.inr (.mk ht hμ))))]; exact q, m⟩
    exact ⟨a, C, dx, vs, rfl, hx, c, n, by rw [r3.len]; omega, q1 _ _ _ rfl (E2.sput ht hμ ⟨dx, _, upd_same, RpF.put (Rp.le ((Le.ex e2).trans l1) _ _ r1) (RpF.le l1 _ _ r3)⟩)⟩⟩⟩) fun _ z => by rw [z]; exact h
/-- o.f = a new list, dict -/
theorem sds_sfldO {p2 pos' : Pos} (ho : ED X ρ o (.adr a)) (ht : ρ[t]? = some (.st μ)) (hμ : μ a = some (.obj C fs)) (he : EO X ρ e d) (c : Cls X.K C) (n : NoAttr X.K C f) (hz : fs.length < 900) (h : ∀ b, μ b = none → SDs X W (ρ.set t (.st (putS (putS μ b d) a (.obj C (putD f (.adr b) fs))))) rest R)
    (hs : swapsWith e (some (.Attribute o f pos')) pos.line X.env = pure false := by rfl) : SDs X W ρ (.Assign [.Attribute o f pos'] e pos :: rest) R :=
  sds_cons (R1 := fun ρ1 => ∃ b, μ b = none ∧ ρ1 = ρ.set t (.st (putS (putS μ b d) a (.obj C (putD f (.adr b) fs))))) (ps_w (ps_fld ho he hs) fun Dn σ H ⟨H0, M0, E, q1, _⟩ => ⟨H0, M0, E, fun b H1 nb e1 r1 => by
    have nμ : μ b = none := by
      cases z : μ b with
      | none => rfl
      | some y => exact absurd nb (E.dom b (.inl (.inr (.mk ht z))))
    have hl : t < ρ.length := (List.getElem?_eq_some_iff.mp ht).1
    have ht1 : (ρ.set t (.st (putS μ b d)))[t]? = some (.st (putS μ b d)) := List.getElem?_set_self hl
    have E1 := E.snew ht nb e1 r1
    have ab : a ≠ b := fun z => by rw [z, nμ] at hμ; cases hμ
    have hμ1 : putS μ b d a = some (.obj C fs) := by rw [putS_ne ab]; exact hμ
    refine ⟨H0, M0, E.ext e1, fun u H2 e2 r2 => ?_⟩
    obtain rfl : u = .ref a := r2
    have E2 := E1.ext e2
    obtain ⟨dx, vs, hx, r3⟩ := E2.st t _ ht1 a _ hμ1
    have l1 : Le H2 (Mo M0 (ρ.set t (.st (putS μ b d))) σ) (upd H2 a (.ins C dx (putF f (.ref b) vs))) (Mo M0 (ρ.set t (.st (putS μ b d))) σ) := fun b o q m => ⟨by
      rw [upd_ne (fun z => m (by rw [z]; exact .inl (.inr (.mk ht1 hμ1))))]; exact q, m⟩
    have E3 := E2.sput (o := .ins C dx (putF f (.ref b) vs)) (d' := .obj C (putD f (.adr b) fs)) ht1 hμ1 ⟨dx, _, upd_same, RpF.put (show Rp X.K _ _ (.adr b) (.ref b) from rfl) (RpF.le l1 _ _ r3)⟩
    rw [List.set_set] at E3
    exact ⟨a, C, dx, vs, rfl, hx, c, n, by rw [r3.len]; omega, q1 _ _ _ ⟨b, nμ, rfl⟩ E3⟩⟩) fun _ ⟨b, nb, z⟩ => by rw [z]; exact h b nb
/-- o.append(e) -/
theorem sds_sapp {apos cpos p2 : Pos} (ho : ED X ρ o (.adr a)) (ht : ρ[t]? = some (.st μ)) (hμ : μ a = some (.lst ds)) (he : ED X ρ e d) (hz : ds.length < 100000) (h : SDs X W (ρ.set t (.st (putS μ a (.lst (ds ++ [d]))))) rest R)
    (hbase : attributeBase o ("append" : Str) X.env (eval o X.env) = eval o X.env := by rfl)
    (hfew : ((backTo cpos (starEach (e :: []) X.env)).all (fun x => !x.1) && (backToKw cpos (keywordEach [] X.env)).all (fun x => x.1.isSome)
      && decide ((e :: []).length + ([] : List Keyword).length + (if ([] : List Keyword).isEmpty then 0 else 1) < 30)) = true := by rfl)
    (hline : (apos.endLine == cpos.line) = true := by rfl) (hs0 : starEach (e :: []) X.env = (false, eval e X.env) :: starEach [] X.env := by rfl) (hplain : (backTo cpos (starEach [] X.env)).any (·.1) = false := by rfl)
    (hs : swapsWith (.Call (.Attribute o ("append" : Str) apos) [e] [] cpos) none p2.line X.env = pure false := by rfl) :
    SDs X W ρ (.Expr (.Call (.Attribute o ("append" : Str) apos) [e] [] cpos) p2 :: rest) R :=
  sds_cons (R1 := fun ρ1 => ρ1 = ρ.set t (.st (putS μ a (.lst (ds ++ [d]))))) (ps_w (ps_expr (pe_bm PySem.F.plainAttrs_list PySem.F.slot_list_append PySem.F.type_list_append mt_append ho (pa_cons he pa_nil hs0) hbase hfew hline hs0 hplain) hs) fun Dn σ H ⟨H0, M0, E, q1, _⟩ => ⟨H0, M0, E, fun l H1 e1 r1 => by
    obtain rfl : l = .ref a := r1
    obtain ⟨xs, hx, rx⟩ := (E.ext e1).st t μ ht a _ hμ
    refine ⟨.inl ⟨rfl, _, SqL.of hx⟩, H0, M0, E.ext e1, fun v H2 e2 r2 => ?_⟩
    have E2 := (E.ext e1).ext e2
    obtain ⟨ys, hy, ry⟩ := E2.st t μ ht a _ hμ
    have l1 : Le H2 (Mo M0 ρ σ) (upd H2 a (.lst (ys ++ [v]))) (Mo M0 ρ σ) := fun b o q m => ⟨by
      rw [upd_ne (fun z => m (by rw [z]; exact .inl (.inr (.mk ht hμ))))]; exact q, m⟩
    exact ⟨a, ys, v, rfl, rfl, hy, small' (by rw [ry.length]; exact hz), q1 _ _ _ rfl (E2.sput ht hμ ⟨_, upd_same, Rps.append (Rps.le l1 _ _ ry) (Rps.one (Rp.le l1 _ _ r2))⟩)⟩⟩) fun _ z => by rw [z]; exact h
/-- o[k] = e, o a list -/
theorem sds_sset {kk : Int} {j : Nat} (ho : ED X ρ o (.adr a)) (ht : ρ[t]? = some (.st μ)) (hμ : μ a = some (.lst ds)) (he : ED X ρ e d) (hk : ED X ρ k (.int kk)) (hj : ixN ds.length kk = some j) (h : SDs X W (ρ.set t (.st (putS μ a (.lst (ds.set j d))))) rest R)
    (hs : swapsWithSole [.Subscript o k p2] e pos.line X.env = pure false := by rfl) (hw : swappedStores [.Subscript o k p2] e X.env = pure none := by rfl)
    (h1 : (assignEach [.Subscript o k p2] X.env).map (·.2) = [assign (.Subscript o k p2) X.env] := by rfl)
    (ha : ∀ v, assign (.Subscript o k p2) X.env v = (do
      let ov ← holding [v] (eval o X.env)
      let iv ← holding [v, ov] (eval k X.env)
      standAt p2
      holding [v, ov, iv] (setItem ov iv v)
      release [v, ov, iv] []) := by intro _; rfl) : SDs X W ρ (.Assign [.Subscript o k p2] e pos :: rest) R :=
  sds_cons (R1 := fun ρ1 => ρ1 = ρ.set t (.st (putS μ a (.lst (ds.set j d))))) (ps_w (ps_asg he (pg_sub ho hk set_list ha) hs hw h1) fun Dn σ H ⟨H0, M0, E, q1, _⟩ => ⟨H0, M0, E, fun v H1 e1 r1 => by
    refine ⟨H0, M0, E.ext e1, fun u H2 e2 r2 => ⟨H0, M0, (E.ext e1).ext e2, fun iv H3 e3 r3 => ?_⟩⟩
    obtain rfl : u = .ref a := r2
    have E3 := ((E.ext e1).ext e2).ext e3
    obtain ⟨xs, hx, rx⟩ := E3.st t μ ht a _ hμ
    have l1 : Le H3 (Mo M0 ρ σ) (upd H3 a (.lst (xs.set j v))) (Mo M0 ρ σ) := fun b o q m => ⟨by
      rw [upd_ne (fun z => m (by rw [z]; exact .inl (.inr (.mk ht hμ))))]; exact q, m⟩
    exact ⟨a, xs, kk, j, rfl, r3, hx, by rw [rx.length]; exact hj, q1 _ _ _ rfl (E3.sput ht hμ ⟨_, upd_same, Rps.set j (Rps.le l1 _ _ rx) (Rp.le ((Le.ex (e2.trans e3)).trans l1) _ _ r1)⟩)⟩⟩) fun _ z => by rw [z]; exact h
end
end RW

end
section
/-! what defs promise that write to a store -/
namespace RW
open PySem PySem.Spec PyProof.Rows L2
def MSt (M : MS) (μ : Sto) : MS := fun a => M a ∨ ∃ d, μ a = some d
def StoOk (K : PySem.W.Frag) (Hb : Hp) (M : MS) (μ : Sto) (H : Hp) : Prop := ∀ a d, μ a = some d → Hb a = none ∧ OwnAt K H (MSt M μ) a d
abbrev Out := Sto → Res → Prop
abbrev SpS := Sto → List D → Out → Prop
def spS (K : PySem.W.Frag) (n : Nat) (S : SpS) : Sp := fun vs H Q E => ∃ (Hb : Hp) (M : MS) (μ : Sto) (ds : List D) (R : Out), (∀ a, M a → NT (Hb a)) ∧ Ex Hb H ∧ StoOk K Hb M μ H ∧ Rps K H (MSt M μ) ds vs ∧ ds.length = n ∧ S μ ds R ∧
  (∀ μ' d v H', R μ' (.ok d) → Ex Hb H' → StoOk K Hb M μ' H' → Rp K H' (MSt M μ') d v → Q v H') ∧
  (∀ μ' c fs cls dd H', R μ' (.er c fs) → Ex Hb H' → StoOk K Hb M μ' H' → RpX K H' M c fs cls dd → E cls dd H')
def argsS (N : List Str) (ds : List D) (μ : Sto) : List SD := ds.map SD.val ++ (List.replicate (N.length - (ds.length + 1)) .no ++ [.st μ])
section
variable {K : PySem.W.Frag} {H H' H0 Hb : Hp} {M M' M0 : MS} {ρ ρ' : List SD} {σ σ' : L2.St} {N : List Str} {ds : List D} {vs : List V} {μ : Sto}
theorem argsS_len (hl : ds.length + 1 ≤ N.length) : (argsS N ds μ).length = N.length := by
  unfold argsS
  rw [List.length_append, List.length_append, List.length_map, List.length_replicate]
  show _ + (_ + 1) = _
  omega
theorem argsS_at {i : Nat} {s : SD} (hl : ds.length + 1 ≤ N.length) (h : (argsS N ds μ)[i]? = some s) : (∃ d, ds[i]? = some d ∧ s = .val d) ∨ s = .no ∨ (i = N.length - 1 ∧ s = .st μ) := by
  unfold argsS at h
  rcases Nat.lt_or_ge i ds.length with hi | hi
  · rw [List.getElem?_append_left (by rw [List.length_map]; exact hi), List.getElem?_map] at h
    cases hd : ds[i]? with
    | none => rw [hd] at h; cases h
    | some z => rw [hd] at h; cases h; exact .inl ⟨z, rfl, rfl⟩
  · rw [List.getElem?_append_right (by rw [List.length_map]; exact hi), List.length_map] at h
    rcases Nat.lt_or_ge (i - ds.length) (N.length - (ds.length + 1)) with hj | hj
    · rw [List.getElem?_append_left (by rw [List.length_replicate]; exact hj), List.getElem?_replicate, if_pos hj] at h
      cases h; exact .inr (.inl rfl)
    · rw [List.getElem?_append_right (by rw [List.length_replicate]; exact hj), List.length_replicate] at h
      have hi0 : i - ds.length - (N.length - (ds.length + 1)) = 0 := by
        cases z : i - ds.length - (N.length - (ds.length + 1)) with
        | zero => rfl
        | succ k => rw [z] at h; simp at h
      rw [hi0] at h; cases h
      exact .inr (.inr ⟨by omega, rfl⟩)
theorem argsS_st (hl : ds.length + 1 ≤ N.length) : (argsS N ds μ)[N.length - 1]? = some (.st μ) := by
  unfold argsS
  rw [List.getElem?_append_right (by rw [List.length_map]; omega), List.length_map, List.getElem?_append_right (by rw [List.length_replicate]; omega), List.length_replicate]
  rw [show N.length - 1 - ds.length - (N.length - (ds.length + 1)) = 0 by omega]; rfl
theorem EnvOk.startS (dm : ∀ a, M a → NT (Hb a)) (ex : Ex Hb H) (so : StoOk K Hb M μ H) (r : Rps K H (MSt M μ) ds vs) (hl : ds.length + 1 ≤ N.length) : EnvOk K Hb M (argsS N ds μ) (L2.start N vs) H := by
  have nown : ∀ (i : Nat) d, (argsS N ds μ)[i]? ≠ some (.own d) := fun i d h => by
    rcases argsS_at hl h with ⟨_, _, z⟩ | z | ⟨_, z⟩ <;> cases z
  have st1 : ∀ (i : Nat) ν, (argsS N ds μ)[i]? = some (.st ν) → i = N.length - 1 ∧ ν = μ := fun i ν h => by
    rcases argsS_at hl h with ⟨_, _, z⟩ | z | ⟨e, z⟩
    · cases z
    · cases z
    · cases z; exact ⟨e, rfl⟩
  have stt : ∀ a, Stt (argsS N ds μ) a → ∃ d, μ a = some d := fun a ⟨i, ν, d, h, h2⟩ => by
    rw [(st1 i ν h).2] at h2; exact ⟨d, h2⟩
  have noOw : ∀ i a, ¬ Ow (argsS N ds μ) (L2.start N vs) i a := fun i a ⟨⟨d, h⟩, _⟩ => nown i d h
  have mo : ∀ a, Mo M (argsS N ds μ) (L2.start N vs) a → MSt M μ a := fun a m => by
    rcases m with (m | m) | ⟨i, m⟩
    · exact .inl m
    · exact .inr (stt a m)
    · exact absurd m (noOw i a)
  refine ⟨?_, ex, dm, fun i a h => absurd h (noOw i a), fun i j a h => absurd h (noOw i a), fun i d h => ?_, fun i d h => absurd h (nown i d), fun a h => ?_, fun i a h => absurd h (noOw i a), fun i ν h a d q => ?_, fun i j ν ν' h h' => (st1 i ν h).1.trans (st1 j ν' h').1.symm⟩
  · rw [argsS_len hl]
    unfold L2.start
    rw [List.length_append, List.length_map, List.length_replicate, r.length]
    omega
  · rcases argsS_at hl h with ⟨e, h1, z⟩ | z | ⟨_, z⟩
    · cases z
      obtain ⟨v, q1, q2⟩ := r.get h1
      refine ⟨v, ?_, Rp.le (Le.sub mo) _ _ q2⟩
      have hi := (List.getElem?_eq_some_iff.mp h1).1
      unfold L2.start
      rw [List.getElem?_append_left (by rw [List.length_map, r.length]; exact hi), List.getElem?_map, q1]; rfl
    · cases z
    · cases z
  · obtain ⟨d, q⟩ := stt a h
    exact (so a d q).1
  · rw [(st1 i ν h).2] at q
    exact (so a d q).2.le (Le.sub mo) fun _ q => q
/-- what stands at the end -/
theorem EnvOk.out (E : EnvOk K Hb M ρ σ H) {t : Nat} (h : ρ[t]? = some (.st μ)) : StoOk K Hb M μ H ∧ ∀ a, MSt M μ a → Mo M ρ σ a := by
  have s : ∀ a, MSt M μ a → Mo M ρ σ a := fun a m => by
    rcases m with m | ⟨d, m⟩
    · exact .inl (.inl m)
    · exact .inl (.inr (.mk h m))
  exact ⟨fun a d q => ⟨E.stf a (.mk h q), (E.st t μ h a d q).le (Le.sub s) fun _ q => q⟩, s⟩
/-- what a caller owns besides the store -/
def Mow (M0 : MS) (ρ : List SD) (σ : L2.St) : MS := fun a => M0 a ∨ ∃ i, Ow ρ σ i a
theorem EnvOk.mow (E : EnvOk K H0 M0 ρ σ H) {t : Nat} (h : ρ[t]? = some (.st μ)) : ∀ a, MSt (Mow M0 ρ σ) μ a ↔ Mo M0 ρ σ a := fun a => by
  constructor
  · rintro ((m | m) | ⟨d, m⟩)
    · exact .inl (.inl m)
    · exact .inr m
    · exact .inl (.inr (.mk h m))
  · rintro ((m | m) | m)
    · exact .inl (.inl m)
    · exact .inr (E.one_st h m)
    · exact .inl (.inr m)
theorem EnvOk.mow_out (E : EnvOk K H0 M0 ρ σ H) {t : Nat} (h : ρ[t]? = some (.st μ)) {a : Addr} (m : Mow M0 ρ σ a) : μ a = none ∧ NT (H a) := by
  refine ⟨?_, E.domN a (m.elim (fun m => .inl (.inl m)) .inr)⟩
  cases z : μ a with
  | none => rfl
  | some d =>
    have hs : Stt ρ a := .mk h z
    rcases m with m | ⟨i, m⟩
    · exact absurd (E.stf a hs) (E.m0 a m).ne
    · exact absurd hs (E.sto i a m)
/-- behind a call that may have changed the store -/
theorem EnvOk.called (E : EnvOk K H0 M0 ρ σ H) {t : Nat} {μ' : Sto} (h : ρ[t]? = some (.st μ)) (hb : ∀ x o, H x = some o → μ x = none → Hb x = some o) (ex : Ex Hb H') (so : StoOk K Hb (Mow M0 ρ σ) μ' H') : EnvOk K H0 M0 (ρ.set t (.st μ')) σ H' := by
  have hl : t < ρ.length := (List.getElem?_eq_some_iff.mp h).1
  have sts : ∀ {j : Nat} {ν : Sto}, (ρ.set t (.st μ'))[j]? = some (.st ν) → j = t ∧ ν = μ' := fun {j ν} q => by
    rcases set_some q with ⟨e, z, _⟩ | ⟨ne, z⟩
    · cases z; exact ⟨e, rfl⟩
    · exact absurd (E.one j t ν μ z h) ne
  have stt : ∀ {a : Addr}, Stt (ρ.set t (.st μ')) a → ∃ d, μ' a = some d := fun ⟨j, ν, d, h1, h2⟩ => by
    rw [(sts h1).2] at h2; exact ⟨d, h2⟩
  have ow : ∀ j a, Ow (ρ.set t (.st μ')) σ j a → Ow ρ σ j a := fun j a q => by
    obtain ⟨⟨e, h1⟩, h2⟩ := q
    rcases set_some h1 with ⟨_, z, _⟩ | ⟨_, z⟩
    · cases z
    · exact ⟨⟨e, z⟩, h2⟩
  have nμ : ∀ a o, H0 a = some o → μ a = none := fun a o q => by
    cases z : μ a with
    | none => rfl
    | some d => rw [E.stf a (.mk h z)] at q; cases q
  have mo : ∀ a, Mo M0 (ρ.set t (.st μ')) σ a → MSt (Mow M0 ρ σ) μ' a := fun a m => by
    rcases m with (m | m) | ⟨i, m⟩
    · exact .inl (.inl m)
    · exact .inr (stt m)
    · exact .inl (.inr ⟨i, ow i a m⟩)
  have keep : ∀ a o, H a = some o → μ a = none → H' a = some o := fun a o q n => ex a o (hb a o q n)
  have l : Le H (Mo M0 ρ σ) H' (Mo M0 (ρ.set t (.st μ')) σ) := fun a o q m => by
    have n : μ a = none := by
      cases z : μ a with
      | none => rfl
      | some d => exact absurd (.inl (.inr (.mk h z))) m
    refine ⟨keep a o q n, fun z => ?_⟩
    rcases mo a z with (z | z) | ⟨d, z⟩
    · exact m (.inl (.inl z))
    · exact m (.inr z)
    · have := (so a d z).1
      rw [hb a o q n] at this; cases this
  refine ⟨by rw [List.length_set]; exact E.len, fun a o q => keep a o (E.ex a o q) (nμ a o q), E.m0, fun j a q => E.fresh j a (ow j a q), fun j k a q q' => E.inj j k a (ow j a q) (ow k a q'), fun j d q => ?_, fun j d q => ?_, fun a q => ?_, fun j a q k => ?_, fun j ν q a d k => ?_, fun j k ν ν' q q' => (sts q).1.trans (sts q').1.symm⟩
  · rcases set_some q with ⟨_, z, _⟩ | ⟨_, z⟩
    · cases z
    · obtain ⟨u, h1, h2⟩ := E.val j d z
      exact ⟨u, h1, Rp.le l _ _ h2⟩
  · rcases set_some q with ⟨_, z, _⟩ | ⟨_, z⟩
    · cases z
    · obtain ⟨a, h1, h2⟩ := E.own j d z
      have n := (E.mow_out h (.inr ⟨j, ⟨d, z⟩, h1⟩ : Mow M0 ρ σ a)).1
      exact ⟨a, h1, h2.le l fun o q => keep a o q n⟩
  · obtain ⟨d, z⟩ := stt q
    have := (so a d z).1
    cases y : H0 a with
    | none => rfl
    | some o => rw [hb a o (E.ex a o y) (nμ a o y)] at this; cases this
  · obtain ⟨d, z⟩ := stt k
    obtain ⟨n1, n2⟩ := E.mow_out h (.inr ⟨j, ow j a q⟩ : Mow M0 ρ σ a)
    cases y : H a with
    | none => exact n2.ne y
    | some o =>
      have := (so a d z).1
      rw [hb a o y n1] at this; cases this
  · rw [(sts q).2] at k
    refine (so a d k).2.le (Le.sub fun b m => ?_) fun _ q => q
    exact mo b m
end
/-- a call (its value), that may change the store or raise -/
def tRS (K : PySem.W.Frag) (W : WX) (ρ : List SD) (t : Nat) (R : Out) : TE := fun σ H Q => ∃ H0 M0, EnvOk K H0 M0 ρ σ H ∧
  (∀ μ' d v H', R μ' (.ok d) → EnvOk K H0 M0 (ρ.set t (.st μ')) σ H' → Rp K H' (Mo M0 (ρ.set t (.st μ')) σ) d v → Q v H') ∧
  (∀ μ' c fs cls dd H', R μ' (.er c fs) → EnvOk K H0 M0 (ρ.set t (.st μ')) σ H' → RpX K H' M0 c fs cls dd → W cls dd σ H')
abbrev ERS (X : Cx) (W : WX) (ρ : List SD) (t : Nat) (e : Expr) (R : Out) : Prop := PE X e (tRS X.K W ρ t R)
structure FDS (P : Program) (w : World) (K : PySem.W.Frag) (mg : Str → Option Value) (base : Heap) (k : Nat) (x : Str) (n : Nat) (S : SpS) : Prop where
  ex : ∃ (f : Addr) (fd : FuncData) (ps : List Str), mg x = some (.ref f) ∧ PySem.W.keepIn K (.ref f) = true ∧ Binds K fd ps [] ∧ FnOk P w K mg base (L2.CX P w) k f fd ps (spS K n S)
structure FMS (P : Program) (w : World) (K : PySem.W.Frag) (mg : Str → Option Value) (base : Heap) (k : Nat) (C : Addr) (m : Str) (n : Nat) (S : SpS) : Prop where
  ex : ∃ (f : Addr) (fd : FuncData) (ps : List Str), Meth K C m f ∧ Binds K fd ps [] ∧ FnOk P w K mg base (L2.CX P w) k f fd ps (spS K n S)
/-- an __init__ that makes a store's object -/
structure FIS (P : Program) (w : World) (K : PySem.W.Frag) (mg : Str → Option Value) (base : Heap) (k : Nat) (x : Str) (C : Addr) (n : Nat) (S : SpS) : Prop where
  g : mg x = some (.ref C)
  ex : ∃ (f : Addr) (fd : FuncData) (ps : List Str), Mk K C f ∧ Binds K fd ps [] ∧ FnOk P w K mg base (L2.CX P w) k f fd ps (spS K (n + 1) S)
section
variable {X : Cx} {W : WX} {ρ : List SD} {e o : Expr} {es : List Expr} {ds : List D} {d : D} {pos p apos : Pos} {C a : Addr} {x m : Str} {R : Out} {t : Nat} {μ : Sto} {fs : List (Str × D)} {S : SpS} {k n : Nat}
theorem sps_mk {K : PySem.W.Frag} {H H0 : Hp} {M0 : MS} {σ : L2.St} {vs : List V} {Q : VK} (E : EnvOk K H0 M0 ρ σ H) (ht : ρ[t]? = some (.st μ)) (r : Rps K H (Mo M0 ρ σ) ds vs) (hn : ds.length = n) (hS : S μ ds R)
    (q1 : ∀ μ' d v H', R μ' (.ok d) → EnvOk K H0 M0 (ρ.set t (.st μ')) σ H' → Rp K H' (Mo M0 (ρ.set t (.st μ')) σ) d v → Q v H')
    (q2 : ∀ μ' c fs cls dd H', R μ' (.er c fs) → EnvOk K H0 M0 (ρ.set t (.st μ')) σ H' → RpX K H' M0 c fs cls dd → W cls dd σ H') : spS K n S vs H Q (fun cls dd H' => W cls dd σ H') := by
  classical
  have hb : ∀ x o, H x = some o → μ x = none → (if (∃ d, μ x = some d) then none else H x) = some o := fun x o h n => by
    rw [if_neg (fun ⟨d, z⟩ => by rw [n] at z; cases z)]; exact h
  have ex : Ex (fun x => if (∃ d, μ x = some d) then none else H x) H := fun x o h => by
    by_cases z : ∃ d, μ x = some d
    · simp only [if_pos z] at h; cases h
    · simp only [if_neg z] at h; exact h
  have hl : t < ρ.length := (List.getElem?_eq_some_iff.mp ht).1
  refine ⟨fun x => if (∃ d, μ x = some d) then none else H x, Mow M0 ρ σ, μ, ds, R, fun b m => ?_, ex, fun b d h => ⟨if_pos ⟨d, h⟩, (E.st t μ ht b d h).le (Le.sub fun c m => (E.mow ht c).mp m) fun _ q => q⟩, Rps.le (Le.sub fun c m => (E.mow ht c).mp m) _ _ r, hn, hS, fun μ' d v H' hR e' so rp => ?_, fun μ' c fs cls dd H' hR e' so rx => ?_⟩
  · obtain ⟨n1, n2⟩ := E.mow_out ht m
    show NT (if (∃ d, μ b = some d) then none else H b)
    rw [if_neg (fun ⟨d, z⟩ => by rw [n1] at z; cases z)]; exact n2
  · have E' := E.called ht hb e' so
    have ht' : (ρ.set t (.st μ'))[t]? = some (.st μ') := List.getElem?_set_self hl
    refine q1 μ' d v H' hR E' (Rp.le (Le.sub fun c z => ?_) _ _ rp)
    rcases (E'.mow ht' c).mpr z with (z | ⟨i, ⟨y, z1⟩, z2⟩) | z
    · exact .inl (.inl z)
    · rcases set_some z1 with ⟨_, q, _⟩ | ⟨_, q⟩
      · cases q
      · exact .inl (.inr ⟨i, ⟨y, q⟩, z2⟩)
    · exact .inr z
  · exact q2 μ' c fs cls dd H' hR (E.called ht hb e' so) (rpx_sub (fun c m => .inl m) rx)
theorem er_callS (tk : Takes X W) (F : FDS X.prog X.w X.K X.mg X.base k x n S) (hr : Room k X.A) (hg : Gl X x) (ht : ρ[t]? = some (.st μ)) (ha : EA X ρ (e :: es) ds) (hS : S μ ds R) (hn : ds.length = n := by rfl)
    (hdb : (x == ("__debug__" : Str)) = false := by decide) (he : starEach (e :: es) X.env = (false, eval e X.env) :: starEach es X.env := by rfl) (hpl : (backTo pos (starEach es X.env)).any (·.1) = false := by rfl) :
    ERS X W ρ t (.Call (.Name x p) (e :: es) [] pos) R := by
  obtain ⟨f, fd, ps, h1, h2, h3, h4⟩ := F.ex
  exact pe_w (pe_callS h4 hr hg h1 h2 h3 (fun σ => passAt tk σ) ha hdb he hpl) fun σ H Q ⟨H0, M0, E, q1, q2⟩ => ⟨H0, M0, E, fun vs H1 e1 r1 => sps_mk (E.ext e1) ht r1 hn hS q1 q2⟩
theorem er_methS {pl : Sem Bool} (tk : Takes X W) (ho : ED X ρ o (.adr a)) (c : Cls X.K C) (F : FMS X.prog X.w X.K X.mg X.base k C m n S) (hr : Room k X.A) (ht : ρ[t]? = some (.st μ)) (hμ : μ a = some (.obj C fs)) (hl : fs.lookup m = none) (ha : EA X ρ (e :: es) ds) (hS : S μ (.adr a :: ds) R) (hn : ds.length + 1 = n := by rfl)
    (hst : starEach (e :: es) X.env = (false, eval e X.env) :: starEach es X.env := by rfl) (hpl : (backTo pos (starEach es X.env)).any (·.1) = false := by rfl)
    (hev : eval (.Call (.Attribute o m apos) (e :: es) [] pos) X.env = (do
      let ov ← eval o X.env
      standAt apos.atName
      let (f, first) ← holding [ov] (getMethod ov m pl)
      callWith pos f first (backTo pos (starEach (e :: es) X.env)) (backToKw pos (keywordEach [] X.env))) := by rfl) : ERS X W ρ t (.Call (.Attribute o m apos) (e :: es) [] pos) R := by
  obtain ⟨f, fd, ps, h1, h2, h3⟩ := F.ex
  refine pe_w (pe_methE ho c h1 h3 hr h2 (fun σ => passAt tk σ) ha hst hpl hev) fun σ H Q ⟨H0, M0, E, q1, q2⟩ => ?_
  refine ⟨H0, M0, E, fun v H1 e1 r1 => ?_⟩
  obtain rfl : v = .ref a := r1
  obtain ⟨dx, vs0, h, rf⟩ := (E.ext e1).st t μ ht a _ hμ
  refine ⟨a, dx, vs0, rfl, h, rf.miss hl, H0, M0, E.ext e1, fun vs H2 e3 r2 => ?_⟩
  exact sps_mk ((E.ext e1).ext e3) ht (ds := .adr a :: ds) ⟨.ref a, vs, rfl, rfl, r2⟩ hn hS q1 q2
theorem er_makeS (tk : Takes X W) (F : FIS X.prog X.w X.K X.mg X.base k x C n S) (hr : Room (k + 1) X.A) (hg : Gl X x) (ht : ρ[t]? = some (.st μ)) (ha : EA X ρ (e :: es) ds) {R0 : Addr → Out} (hS : ∀ b, μ b = none → S (putS μ b (.obj C [])) (.adr b :: ds) (R0 b)) (hR : ∀ b μ' d, R0 b μ' (.ok d) → d = .non) (hn : ds.length = n := by rfl)
    (hdb : (x == ("__debug__" : Str)) = false := by decide) (he : starEach (e :: es) X.env = (false, eval e X.env) :: starEach es X.env := by rfl) (hpl : (backTo pos (starEach es X.env)).any (·.1) = false := by rfl) :
    ERS X W ρ t (.Call (.Name x p) (e :: es) [] pos) (fun μ' r => ∃ b, μ b = none ∧ ((R0 b μ' (.ok .non) ∧ r = .ok (.adr b)) ∨ ∃ c fs, r = .er c fs ∧ R0 b μ' (.er c fs))) := by
  obtain ⟨f, fd, ps, h1, h2, h3⟩ := F.ex
  refine pe_w (pe_makeS h1 h3 hr hg F.g h2 (fun σ => passAt tk σ) ha hdb he hpl) fun σ H Q ⟨H0, M0, E, q1, q2⟩ => ?_
  refine ⟨H0, M0, E, fun vs H1 e1 r1 b dx nb ndx ne => ?_⟩
  have hl : t < ρ.length := (List.getElem?_eq_some_iff.mp ht).1
  have E1 := E.ext e1
  have ex1 : Ex H1 (upd (upd H1 dx (.own b)) b (.ins C dx [])) := fun c o hb => by
    rw [upd_ne (ne_of_none hb nb), upd_ne (ne_of_none hb ndx)]; exact hb
  have nμ : μ b = none := by
    cases z : μ b with
    | none => rfl
    | some y => exact absurd nb (E1.dom b (.inl (.inr (.mk ht z))))
  have E2 : EnvOk X.K H0 M0 (ρ.set t (.st (putS μ b (.obj C [])))) σ (upd (upd H1 dx (.own b)) b (.ins C dx [])) := E1.snew ht nb ex1 ⟨dx, [], upd_same, rfl⟩
  have ht2 : (ρ.set t (.st (putS μ b (.obj C []))))[t]? = some (.st (putS μ b (.obj C []))) := List.getElem?_set_self hl
  have r2 : Rps X.K (upd (upd H1 dx (.own b)) b (.ins C dx [])) (Mo M0 (ρ.set t (.st (putS μ b (.obj C [])))) σ) (.adr b :: ds) (.ref b :: vs) := by
    refine ⟨.ref b, vs, rfl, rfl, Rps.le (fun c o hc m => ⟨ex1 c o hc, fun z => ?_⟩) _ _ r1⟩
    have ncb : c ≠ b := fun q => by rw [q, nb] at hc; cases hc
    rcases z with (z | z) | ⟨i, ⟨y, z1⟩, z2⟩
    · exact m (.inl (.inl z))
    · obtain ⟨y, z⟩ := E2.one_st ht2 z
      rw [putS_ne ncb] at z
      exact m (.inl (.inr (.mk ht z)))
    · rcases set_some z1 with ⟨_, q, _⟩ | ⟨_, q⟩
      · cases q
      · exact m (.inr ⟨i, ⟨y, q⟩, z2⟩)
  refine sps_mk (R := R0 b) E2 ht2 r2 (congrArg (· + 1) hn) (hS b nμ) (fun μ' d v H' hR' E' rp => ?_) fun μ' c fs cls dd H' hR' E' rx => ?_
  · obtain rfl := hR b μ' d hR'
    rw [List.set_set] at E' rp
    exact ⟨rp, q1 μ' (.adr b) _ H' ⟨b, nμ, .inl ⟨hR', rfl⟩⟩ E' rfl⟩
  · rw [List.set_set] at E'
    exact q2 μ' c fs cls dd H' ⟨b, nμ, .inr ⟨c, fs, rfl, hR'⟩⟩ E' rx
end
section
variable {X : Cx} {W : WX} {ρ : List SD} {e : Expr} {pos p : Pos} {x : Str} {rest s1 s2 : List Stmt} {R : Po} {R1 : Out} {t : Nat}
theorem ers_mono {R2 : Out} (h : ERS X W ρ t e R1) (q : ∀ μ r, R1 μ r → R2 μ r) : ERS X W ρ t e R2 := pe_w h fun σ H Q ⟨H0, M0, E, q1, q2⟩ => ⟨H0, M0, E, fun μ' d v H' h => q1 μ' d v H' (q _ _ h), fun μ' c fs cls dd H' h => q2 μ' c fs cls dd H' (q _ _ h)⟩
theorem sds_exprS (he : ERS X W ρ t e R1) (hok : ∀ μ' d, R1 μ' (.ok d) → SDs X W (ρ.set t (.st μ')) rest R) (her : ∀ μ' c fs, R1 μ' (.er c fs) → R.ex (ρ.set t (.st μ')) c fs) (hs : swapsWith e none pos.line X.env = pure false := by rfl) : SDs X W ρ (.Expr e pos :: rest) R :=
  sds_cons (R1 := fun ρ1 => ∃ μ' d, R1 μ' (.ok d) ∧ ρ1 = ρ.set t (.st μ')) (ps_w (ps_expr he hs) fun Dn σ H ⟨H0, M0, E, q1, q2, q3, q4, q5⟩ => ⟨H0, M0, E, fun μ' d v H1 h E1 r1 => q1 _ σ H1 ⟨μ', d, h, rfl⟩ E1, fun μ' c fs cls dd H1 h E1 r1 => q5 _ c fs cls dd σ H1 (her μ' c fs h) E1 r1⟩) fun _ ⟨μ', d, h, z⟩ => by rw [z]; exact hok μ' d h
theorem sds_setS (i : Nat) {pos' : Pos} (he : ERS X W ρ t e R1) (hN : X.N.Nodup) (hi : X.N[i]? = some x) (hx : Loc X.env.scope x) (hok : ∀ μ' d, R1 μ' (.ok d) → SDs X W ((ρ.set t (.st μ')).set i (.val d)) rest R) (her : ∀ μ' c fs, R1 μ' (.er c fs) → R.ex (ρ.set t (.st μ')) c fs) (hl : i < ρ.length := by decide)
    (hs : swapsWith e (some (.Name x pos')) pos.line X.env = pure false := by rfl) (hf : X.fn x = true ∨ X.env.scope.names.lookup x = some .local := by first | exact .inl rfl | exact .inr rfl | assumption) : SDs X W ρ (.Assign [.Name x pos'] e pos :: rest) R :=
  sds_cons (R1 := fun ρ1 => ∃ μ' d, R1 μ' (.ok d) ∧ ρ1 = (ρ.set t (.st μ')).set i (.val d)) (ps_w (ps_set hN hi hx he hs hf) fun Dn σ H ⟨H0, M0, E, q1, q2, q3, q4, q5⟩ => ⟨H0, M0, E, fun μ' d v H1 h E1 r1 => q1 _ _ H1 ⟨μ', d, h, rfl⟩ (E1.set (by rw [← E.len]; exact hl) r1), fun μ' c fs cls dd H1 h E1 r1 => q5 _ c fs cls dd σ H1 (her μ' c fs h) E1 r1⟩) fun _ ⟨μ', d, h, z⟩ => by rw [z]; exact hok μ' d h
theorem sds_retS (he : ERS X W ρ t e R1) (hok : ∀ μ' d, R1 μ' (.ok d) → R.rt (ρ.set t (.st μ')) d) (her : ∀ μ' c fs, R1 μ' (.er c fs) → R.ex (ρ.set t (.st μ')) c fs) : SDs X W ρ (.Return (some e) pos :: rest) R :=
  pss_w (pss_cons (ps_ret he) pss_never) fun Dn σ H ⟨H0, M0, E, q1, q2, q3, q4, q5⟩ => ⟨H0, M0, E, fun μ' d v H1 h E1 r1 => q2 _ d v σ H1 (hok μ' d h) E1 r1, fun μ' c fs cls dd H1 h E1 r1 => q5 _ c fs cls dd σ H1 (her μ' c fs h) E1 r1⟩
/-- if e:, if not e:, e a call that changes the store -/
theorem sds_ifNS (he : ERS X W ρ t e R1) (hbl : ∀ μ' d, R1 μ' (.ok d) → ∃ b, d = .bl b) (h1 : ∀ μ', R1 μ' (.ok (.bl false)) → SDs X W (ρ.set t (.st μ')) s1 { R with nx := fun ρ1 => SDs X W ρ1 rest R }) (h2 : ∀ μ', R1 μ' (.ok (.bl true)) → SDs X W (ρ.set t (.st μ')) s2 { R with nx := fun ρ1 => SDs X W ρ1 rest R }) (her : ∀ μ' c fs, R1 μ' (.er c fs) → R.ex (ρ.set t (.st μ')) c fs)
    (ht : ∀ whole, isTrue e X.env whole = (do let v ← whole; standAt e.pos; holding [v] (truthy v)) := by intro _; rfl) : SDs X W ρ (.If (.UnaryOp .Not e p) s1 s2 pos :: rest) R :=
  sds_k (ps_w (ps_if (pt_not (pt_val he ht)) (pss_fam (ι := Sto) (p := fun μ' => R1 μ' (.ok (.bl false))) (t := fun μ' => tS X.K W (ρ.set t (.st μ')) { R with nx := fun ρ1 => SDs X W ρ1 rest R }) fun μ' hk => h1 μ' hk) (pss_fam (ι := Sto) (p := fun μ' => R1 μ' (.ok (.bl true))) (t := fun μ' => tS X.K W (ρ.set t (.st μ')) { R with nx := fun ρ1 => SDs X W ρ1 rest R }) fun μ' hk => h2 μ' hk)) fun Dn σ H ⟨H0, M0, E, q1, q2, q3, q4, q5⟩ =>
    ⟨H0, M0, E, fun μ' d v H1 h E1 r1 => by
      obtain ⟨b, rfl⟩ := hbl μ' d h
      refine ⟨b, r1, ?_⟩
      cases b with
      | false => exact iteT ⟨μ', h, H0, M0, E1, q1, q2, q3, q4, q5⟩
      | true => exact iteF ⟨μ', h, H0, M0, E1, q1, q2, q3, q4, q5⟩, fun μ' c fs cls dd H1 h E1 r1 => q5 _ c fs cls dd σ H1 (her μ' c fs h) E1 r1⟩)
theorem sds_ifS (he : ERS X W ρ t e R1) (hbl : ∀ μ' d, R1 μ' (.ok d) → ∃ b, d = .bl b) (h1 : ∀ μ', R1 μ' (.ok (.bl true)) → SDs X W (ρ.set t (.st μ')) s1 { R with nx := fun ρ1 => SDs X W ρ1 rest R }) (h2 : ∀ μ', R1 μ' (.ok (.bl false)) → SDs X W (ρ.set t (.st μ')) s2 { R with nx := fun ρ1 => SDs X W ρ1 rest R }) (her : ∀ μ' c fs, R1 μ' (.er c fs) → R.ex (ρ.set t (.st μ')) c fs)
    (ht : ∀ whole, isTrue e X.env whole = (do let v ← whole; standAt e.pos; holding [v] (truthy v)) := by intro _; rfl) : SDs X W ρ (.If e s1 s2 pos :: rest) R :=
  sds_k (ps_w (ps_if (pt_val he ht) (pss_fam (ι := Sto) (p := fun μ' => R1 μ' (.ok (.bl true))) (t := fun μ' => tS X.K W (ρ.set t (.st μ')) { R with nx := fun ρ1 => SDs X W ρ1 rest R }) fun μ' hk => h1 μ' hk) (pss_fam (ι := Sto) (p := fun μ' => R1 μ' (.ok (.bl false))) (t := fun μ' => tS X.K W (ρ.set t (.st μ')) { R with nx := fun ρ1 => SDs X W ρ1 rest R }) fun μ' hk => h2 μ' hk)) fun Dn σ H ⟨H0, M0, E, q1, q2, q3, q4, q5⟩ =>
    ⟨H0, M0, E, fun μ' d v H1 h E1 r1 => by
      obtain ⟨b, rfl⟩ := hbl μ' d h
      refine ⟨b, r1, ?_⟩
      cases b with
      | true => exact iteT ⟨μ', h, H0, M0, E1, q1, q2, q3, q4, q5⟩
      | false => exact iteF ⟨μ', h, H0, M0, E1, q1, q2, q3, q4, q5⟩, fun μ' c fs cls dd H1 h E1 r1 => q5 _ c fs cls dd σ H1 (her μ' c fs h) E1 r1⟩)
end
section
variable {P : Program} {w : World} {K : PySem.W.Frag} {mg : Str → Option Value} {base : Heap}
/-- a def that writes to a store keeps its promise, by its body -/
theorem fnS_of {x qual : Str} {st : Stmt} {f : Addr} {fd : FuncData} {N ps : List Str} {k : Nat} {S : SpS} (F : Fun K x qual st f fd) (sc : FnScope N ps (defScope st)) (hlen : ps.length + 1 ≤ N.length)
    (body : ∀ (cdv : Value) (A : Around) (outer : List Env) (s : Shared) (H : Hp) (E : XK) (μ : Sto) (ds : List D) (R : Out), Room k (A.deeper (envOfC qual (defScope st) s.heap.objs.size f cdv)) → ds.length = ps.length → S μ ds R →
      SDs (cxOf (L2.CX P w) P w K mg base N qual (defScope st) f cdv A outer s H E) (fun cls d _ H => E cls d H) (argsS N ds μ) (defBody st)
        { nx := fun ρ' => ∃ μ', ρ'[N.length - 1]? = some (.st μ') ∧ R μ' (.ok .non), rt := fun ρ' d => ∃ μ', ρ'[N.length - 1]? = some (.st μ') ∧ R μ' (.ok d), ex := fun ρ' c fs => ∃ μ', ρ'[N.length - 1]? = some (.st μ') ∧ R μ' (.er c fs) }) :
    FnOk P w K mg base (L2.CX P w) (k + 1) f fd ps (spS K ps.length S) :=
  F.okX sc (fun vs H Q E ⟨_, _, _, ds, _, _, _, _, h2, h3, _⟩ => h2.length.trans h3) fun cdv A outer s H vs Q E hr ⟨Hb, M, μ, ds, R, dm, ex, so, h2, h3, h4, h5, h6⟩ =>
    ⟨_, body cdv A outer s H E μ ds R hr h3 h4, Hb, M, EnvOk.startS dm ex so h2 (by rw [h3]; exact hlen),
      fun ρ' σ' H' ⟨μ', e, hR⟩ E' => h5 μ' .non .non H' hR E'.ex (E'.out e).1 rfl,
      fun ρ' d v σ' H' ⟨μ', e, hR⟩ E' r' => h5 μ' d v H' hR E'.ex (E'.out e).1 (Rp.le (Le.sub (E'.out e).2) _ _ r'),
      fun _ _ _ z => z.elim, fun _ _ _ z => z.elim, fun ρ' c fs cls dd σ' H' ⟨μ', e, hR⟩ E' r' => h6 μ' c fs cls dd H' hR E'.ex (E'.out e).1 r'⟩
theorem fdS_of {x qual : Str} {st : Stmt} {f : Addr} {fd : FuncData} {N ps : List Str} {k : Nat} {S : SpS} (F : Fun K x qual st f fd) (gx : mg x = some (.ref f)) (hb : Binds K fd ps []) (sc : FnScope N ps (defScope st)) (hlen : ps.length + 1 ≤ N.length)
    (body : ∀ (cdv : Value) (A : Around) (outer : List Env) (s : Shared) (H : Hp) (E : XK) (μ : Sto) (ds : List D) (R : Out), Room k (A.deeper (envOfC qual (defScope st) s.heap.objs.size f cdv)) → ds.length = ps.length → S μ ds R →
      SDs (cxOf (L2.CX P w) P w K mg base N qual (defScope st) f cdv A outer s H E) (fun cls d _ H => E cls d H) (argsS N ds μ) (defBody st)
        { nx := fun ρ' => ∃ μ', ρ'[N.length - 1]? = some (.st μ') ∧ R μ' (.ok .non), rt := fun ρ' d => ∃ μ', ρ'[N.length - 1]? = some (.st μ') ∧ R μ' (.ok d), ex := fun ρ' c fs => ∃ μ', ρ'[N.length - 1]? = some (.st μ') ∧ R μ' (.er c fs) }) :
    FDS P w K mg base (k + 1) x ps.length S := ⟨f, fd, ps, gx, F.kp, hb, fnS_of F sc hlen body⟩
theorem fmS_of {qual m : Str} {st : Stmt} {f C : Addr} {fd : FuncData} {N ps : List Str} {k : Nat} {S : SpS} (hM : Meth K C m f) (F : Fun K m qual st f fd) (hb : Binds K fd ps []) (sc : FnScope N ps (defScope st)) (hlen : ps.length + 1 ≤ N.length)
    (body : ∀ (cdv : Value) (A : Around) (outer : List Env) (s : Shared) (H : Hp) (E : XK) (μ : Sto) (ds : List D) (R : Out), Room k (A.deeper (envOfC qual (defScope st) s.heap.objs.size f cdv)) → ds.length = ps.length → S μ ds R →
      SDs (cxOf (L2.CX P w) P w K mg base N qual (defScope st) f cdv A outer s H E) (fun cls d _ H => E cls d H) (argsS N ds μ) (defBody st)
        { nx := fun ρ' => ∃ μ', ρ'[N.length - 1]? = some (.st μ') ∧ R μ' (.ok .non), rt := fun ρ' d => ∃ μ', ρ'[N.length - 1]? = some (.st μ') ∧ R μ' (.ok d), ex := fun ρ' c fs => ∃ μ', ρ'[N.length - 1]? = some (.st μ') ∧ R μ' (.er c fs) }) :
    FMS P w K mg base (k + 1) C m ps.length S := ⟨f, fd, ps, hM, hb, fnS_of F sc hlen body⟩
theorem fiS_of {x qual : Str} {st : Stmt} {f C : Addr} {fd : FuncData} {N ps : List Str} {self : Str} {k : Nat} {S : SpS} (g : mg x = some (.ref C)) (hM : Mk K C f) (F : Fun K "__init__" qual st f fd) (hb : Binds K fd (self :: ps) []) (sc : FnScope N (self :: ps) (defScope st)) (hlen : ps.length + 2 ≤ N.length)
    (body : ∀ (cdv : Value) (A : Around) (outer : List Env) (s : Shared) (H : Hp) (E : XK) (μ : Sto) (ds : List D) (R : Out), Room k (A.deeper (envOfC qual (defScope st) s.heap.objs.size f cdv)) → ds.length = (self :: ps).length → S μ ds R →
      SDs (cxOf (L2.CX P w) P w K mg base N qual (defScope st) f cdv A outer s H E) (fun cls d _ H => E cls d H) (argsS N ds μ) (defBody st)
        { nx := fun ρ' => ∃ μ', ρ'[N.length - 1]? = some (.st μ') ∧ R μ' (.ok .non), rt := fun ρ' d => ∃ μ', ρ'[N.length - 1]? = some (.st μ') ∧ R μ' (.ok d), ex := fun ρ' c fs => ∃ μ', ρ'[N.length - 1]? = some (.st μ') ∧ R μ' (.er c fs) }) :
    FIS P w K mg base (k + 1) x C ps.length S := ⟨g, f, fd, self :: ps, hM, hb, fnS_of F sc hlen body⟩
/-- a def that has a store of its own -/
theorem fd_ofS {x qual : Str} {st : Stmt} {f : Addr} {fd : FuncData} {N ps : List Str} {k : Nat} {S : List D → Res → Prop} (F : Fun K x qual st f fd) (gx : mg x = some (.ref f)) (hb : Binds K fd ps []) (sc : FnScope N ps (defScope st)) (hlen : ps.length + 1 ≤ N.length)
    (body : ∀ (cdv : Value) (A : Around) (outer : List Env) (s : Shared) (H : Hp) (E : XK) (ds : List D) (r : Res), Room k (A.deeper (envOfC qual (defScope st) s.heap.objs.size f cdv)) → ds.length = ps.length → S ds r →
      SDs (cxOf (L2.CX P w) P w K mg base N qual (defScope st) f cdv A outer s H E) (fun cls d _ H => E cls d H) (argsS N ds fun _ => none) (defBody st) { nx := fun _ => r = .ok .non, rt := fun _ d => r = .ok d, ex := fun _ c fs => r = .er c fs }) :
    FD P w K mg base (k + 1) x ps.length S := by
  refine ⟨f, fd, ps, gx, F.kp, hb, F.okX sc (fun vs H Q E h => ?_) (fun cdv A outer s H vs Q E hr h => ?_)⟩
  · obtain ⟨M, ds, r, _, h2, h3, _⟩ := h
    rw [h2.length]; exact h3
  · obtain ⟨M, ds, r, dm, h2, h3, h4, h5⟩ := h
    refine ⟨_, body cdv A outer s H E ds r hr h3 h4, H, M, EnvOk.startS dm (Ex.refl H) (fun a d z => by cases z) (Rps.le (Le.sub fun a m => m.elim id fun ⟨_, z⟩ => by cases z) _ _ h2) (by rw [h3]; exact hlen), ?_, ?_, ?_, ?_, ?_⟩
    · intro ρ' σ' H' hr' E'
      rw [hr'] at h5
      exact h5 .non H' E'.ex rfl
    · intro ρ' d v σ' H' hr' E' r'
      rw [hr'] at h5
      exact h5 v H' E'.ex (Rp.le (Le.sub fun a m => .inl (.inl m)) _ _ r')
    · intro _ _ _ z; exact z.elim
    · intro _ _ _ z; exact z.elim
    · intro ρ' c fs cls dd σ' H' hr' e' r'
      rw [hr'] at h5
      exact h5 cls dd H' e'.ex r'
end
end RW

end
section
/-! while; a store read as data; a thing of one's own put into the store -/
namespace RW
open PySem PySem.Spec PyProof.Rows L2
section
variable {X : Cx} {W : WX} {ρ : List SD} {c : Expr} {body rest : List Stmt} {pos : Pos} {R : Po}
theorem sds_while {S : Type} (env : S → List SD) (P : S → Prop) (m : S → Nat) (cond : S → Bool) (s0 : S) (hp : PassesOwn (model X.prog X.w) X.A X.env X.xe) (h0 : Wk ρ (env s0)) (p0 : P s0)
    (hc : ∀ s, P s → ET X (env s) c (cond s))
    (hs : ∀ s, P s → cond s = true → SDs X W (env s) body { R with nx := fun ρ' => ∃ s', (P s' ∧ m s' < m s) ∧ ρ' = env s', ct := fun ρ' => ∃ s', (P s' ∧ m s' < m s) ∧ ρ' = env s', bk := fun ρ1 => SDs X W ρ1 rest R })
    (hd : ∀ s, P s → cond s = false → SDs X W (env s) rest R) : SDs X W ρ (.While c body [] pos :: rest) R := by
  refine sds_wk h0 (sds_k (ps_w (ps_while hp (pt_fam (ι := S) (p := P) (t := fun s => tT X.K (env s) (cond s)) hc)
    (pss_fam (ι := S) (p := fun s => P s ∧ cond s = true) (t := fun s => tS X.K W (env s) { R with nx := fun ρ' => ∃ s', (P s' ∧ m s' < m s) ∧ ρ' = env s', ct := fun ρ' => ∃ s', (P s' ∧ m s' < m s) ∧ ρ' = env s', bk := fun ρ1 => SDs X W ρ1 rest R }) fun s h => hs s h.1 h.2))
    fun Dn σ H ⟨H0, M0, E, q1, q2, q3, q4, q5⟩ => ?_))
  refine ⟨fun n σ' H' => ∃ s, m s = n ∧ P s ∧ EnvOk X.K H0 M0 (env s) σ' H', ⟨m s0, s0, rfl, p0, E⟩, fun n σ1 H1 ⟨s, hm, hP, E1⟩ => ⟨s, hP, H0, M0, E1, fun H2 e2 => ?_⟩⟩
  cases hb : cond s with
  | false => exact iteF (q1 _ _ _ (hd s hP hb) (E1.ext e2))
  | true =>
    refine iteT ⟨fun σ' H' => ∃ s', (P s' ∧ m s' < m s) ∧ EnvOk X.K H0 M0 (env s') σ' H', fun σ' H' ⟨s', h1, E'⟩ => ⟨m s', by omega, s', rfl, h1.1, E'⟩, s, ⟨hP, hb⟩, H0, M0, E1.ext e2, ?_, q2, ?_, ?_, q5⟩
    · rintro ρ' σ' H' ⟨s', h1, rfl⟩ E'
      exact ⟨s', h1, E'⟩
    · intro ρ' σ' H' h1 E'
      exact q1 _ _ _ h1 E'
    · rintro ρ' σ' H' ⟨s', h1, rfl⟩ E'
      exact ⟨s', h1, E'⟩
end
/-! ### a store as data -/
mutual
inductive Fz (μ : Sto) : D → D → Prop
  | same {d : D} : Fz μ d d
  | obj {a C : Addr} {fs fs' : List (Str × D)} : μ a = some (.obj C fs) → FzF μ fs fs' → Fz μ (.adr a) (.obj C fs')
  | lst {a : Addr} {ds ds' : List D} : μ a = some (.lst ds) → Fzs μ ds ds' → Fz μ (.adr a) (.lst ds')
  | dt {a : Addr} {kvs : List (List Key × D)} : μ a = some (.dt kvs) → Fz μ (.adr a) (.dt kvs)
  | dk {a : Addr} {kvs : List (Key × D)} : μ a = some (.dk kvs) → Fz μ (.adr a) (.dk kvs)
inductive FzF (μ : Sto) : List (Str × D) → List (Str × D) → Prop
  | nil : FzF μ [] []
  | cons {f : Str} {d d' : D} {fs fs' : List (Str × D)} : Fz μ d d' → FzF μ fs fs' → FzF μ ((f, d) :: fs) ((f, d') :: fs')
inductive Fzs (μ : Sto) : List D → List D → Prop
  | nil : Fzs μ [] []
  | cons {d d' : D} {ds ds' : List D} : Fz μ d d' → Fzs μ ds ds' → Fzs μ (d :: ds) (d' :: ds')
end
section
variable {K : PySem.W.Frag} {H : Hp} {M M' : MS} {μ : Sto}
mutual
theorem Fz.rp (so : ∀ a d, μ a = some d → OwnAt K H M a d ∧ ¬ M' a) (s : ∀ a, M' a → M a) : ∀ {d d' : D} {v : V}, Fz μ d d' → Rp K H M d v → Rp K H M' d' v
  | _, _, _, .same, r => Rp.le (Le.sub s) _ _ r
  | _, _, v, .obj (a := a) h k, r => by
    obtain rfl : v = .ref a := r
    obtain ⟨⟨dx, vs, h1, h2⟩, h3⟩ := so _ _ h
    exact ⟨a, dx, vs, rfl, h3, h1, FzF.rp so s k h2⟩
  | _, _, v, .lst (a := a) h k, r => by
    obtain rfl : v = .ref a := r
    obtain ⟨⟨vs, h1, h2⟩, h3⟩ := so _ _ h
    exact ⟨a, vs, rfl, h3, h1, Fzs.rp so s k h2⟩
  | _, _, v, .dt (a := a) h, r => by
    obtain rfl : v = .ref a := r
    obtain ⟨⟨vs, h1, h2⟩, h3⟩ := so _ _ h
    exact ⟨a, vs, rfl, h3, h1, RpT.le (Le.sub s) _ _ h2⟩
  | _, _, v, .dk (a := a) h, r => by
    obtain rfl : v = .ref a := r
    obtain ⟨⟨vs, h1, h2⟩, h3⟩ := so _ _ h
    exact ⟨a, vs, rfl, h3, h1, RpK.le (Le.sub s) _ _ h2⟩
theorem FzF.rp (so : ∀ a d, μ a = some d → OwnAt K H M a d ∧ ¬ M' a) (s : ∀ a, M' a → M a) : ∀ {fs fs' : List (Str × D)} {vs : List (Str × V)}, FzF μ fs fs' → RpF K H M fs vs → RpF K H M' fs' vs
  | _, _, _, .nil, r => r
  | _, _, _, .cons k1 k2, ⟨x, r, e, h1, h2⟩ => ⟨x, r, e, Fz.rp so s k1 h1, FzF.rp so s k2 h2⟩
theorem Fzs.rp (so : ∀ a d, μ a = some d → OwnAt K H M a d ∧ ¬ M' a) (s : ∀ a, M' a → M a) : ∀ {ds ds' : List D} {vs : List V}, Fzs μ ds ds' → Rps K H M ds vs → Rps K H M' ds' vs
  | _, _, _, .nil, r => r
  | _, _, _, .cons k1 k2, ⟨x, r, e, h1, h2⟩ => ⟨x, r, e, Fz.rp so s k1 h1, Fzs.rp so s k2 h2⟩
end
end
/-- slots read without the store -/
inductive View (μ : Sto) : List SD → List SD → Prop
  | nil : View μ [] []
  | no {s : SD} {r r' : List SD} : View μ r r' → View μ (s :: r) (.no :: r')
  | val {d d' : D} {r r' : List SD} : Fz μ d d' → View μ r r' → View μ (.val d :: r) (.val d' :: r')
  | own {d : D} {r r' : List SD} : View μ r r' → View μ (.own d :: r) (.own d :: r')
section
variable {K : PySem.W.Frag} {H H0 : Hp} {M0 : MS} {ρ ρ' : List SD} {σ : L2.St} {μ : Sto}
theorem View.length {r r' : List SD} (v : View μ r r') : r'.length = r.length := by
  induction v with
  | nil => rfl
  | no _ ih => rw [List.length_cons, List.length_cons, ih]
  | val _ _ ih => rw [List.length_cons, List.length_cons, ih]
  | own _ ih => rw [List.length_cons, List.length_cons, ih]
theorem View.get {r r' : List SD} (v : View μ r r') : ∀ {i : Nat} {s : SD}, r'[i]? = some s → s = .no ∨ (∃ d d', r[i]? = some (.val d) ∧ Fz μ d d' ∧ s = .val d') ∨ ∃ d, r[i]? = some (.own d) ∧ s = .own d := by
  induction v with
  | nil => intro i s h; simp at h
  | no _ ih =>
    intro i s h
    cases i with
    | zero => cases h; exact .inl rfl
    | succ i => exact ih (by simpa using h)
  | val f _ ih =>
    intro i s h
    cases i with
    | zero => cases h; exact .inr (.inl ⟨_, _, rfl, f, rfl⟩)
    | succ i => exact ih (by simpa using h)
  | own _ ih =>
    intro i s h
    cases i with
    | zero => cases h; exact .inr (.inr ⟨_, rfl, rfl⟩)
    | succ i => exact ih (by simpa using h)
theorem EnvOk.view (E : EnvOk K H0 M0 ρ σ H) {t : Nat} (ht : ρ[t]? = some (.st μ)) (v : View μ ρ ρ') : EnvOk K H0 M0 ρ' σ H ∧ (∀ a, Mo M0 ρ' σ a → Mo M0 ρ σ a) ∧ ∀ a, Mo M0 ρ σ a → Mo M0 ρ' σ a ∨ Stt ρ a ∨ ∃ i, Ow ρ σ i a := by
  have nst : ∀ (i : Nat) ν, ρ'[i]? ≠ some (.st ν) := fun i ν h => by
    rcases v.get h with z | ⟨_, _, _, _, z⟩ | ⟨_, _, z⟩ <;> cases z
  have noSt : ∀ a, ¬ Stt ρ' a := fun a ⟨i, ν, _, h, _⟩ => nst i ν h
  have own : ∀ {i : Nat} {d : D}, ρ'[i]? = some (.own d) → ρ[i]? = some (.own d) := fun h => by
    rcases v.get h with z | ⟨_, _, _, _, z⟩ | ⟨_, h1, z⟩
    · cases z
    · cases z
    · cases z; exact h1
  have ow : ∀ i a, Ow ρ' σ i a → Ow ρ σ i a := fun i a ⟨⟨d, h1⟩, h2⟩ => ⟨⟨d, own h1⟩, h2⟩
  have s : ∀ a, Mo M0 ρ' σ a → Mo M0 ρ σ a := fun a m => by
    rcases m with (m | m) | ⟨i, m⟩
    · exact .inl (.inl m)
    · exact absurd m (noSt a)
    · exact .inr ⟨i, ow i a m⟩
  refine ⟨⟨v.length.trans E.len, E.ex, E.m0, fun i a h => E.fresh i a (ow i a h), fun i j a h k => E.inj i j a (ow i a h) (ow j a k), fun i d h => ?_, fun i d h => ?_, fun a h => absurd h (noSt a), fun i a _ => noSt a, fun i ν h => absurd h (nst i ν), fun i j ν ν' h => absurd h (nst i ν)⟩, s, fun a m => ?_⟩
  · rcases v.get h with z | ⟨d0, d', h1, f, z⟩ | ⟨_, _, z⟩
    · cases z
    · cases z
      obtain ⟨u, q1, q2⟩ := E.val i d0 h1
      refine ⟨u, q1, Fz.rp (fun a d q => ⟨E.st t μ ht a d q, fun m => ?_⟩) s f q2⟩
      have hs : Stt ρ a := .mk ht q
      rcases m with (m | m) | ⟨j, m⟩
      · exact (E.m0 a m).ne (E.stf a hs)
      · exact noSt a m
      · exact E.sto j a (ow j a m) hs
    · cases z
  · obtain ⟨a, q1, q2⟩ := E.own i d (own h)
    exact ⟨a, q1, q2.le (Le.sub s) fun _ q => q⟩
  · rcases m with (m | m) | m
    · exact .inl (.inl (.inl m))
    · exact .inr (.inl m)
    · exact .inr (.inr m)
end
section
variable {X : Cx} {W : WX} {ρ ρ' : List SD} {e : Expr} {d : D} {rest : List Stmt} {R : Po} {t : Nat} {μ : Sto}
/-- from here on without the store -/
theorem sds_view (ht : ρ[t]? = some (.st μ)) (v : View μ ρ ρ') (h : SDs X W ρ' rest R) : SDs X W ρ rest R := pss_w h fun Dn σ H ⟨H0, M0, E, q⟩ => ⟨H0, M0, (E.view ht v).1, q⟩
theorem et_view {b : Bool} (ht : ρ[t]? = some (.st μ)) (v : View μ ρ ρ') (h : ET X ρ' e b) : ET X ρ e b := pt_w h fun σ H Q ⟨H0, M0, E, q⟩ => ⟨H0, M0, (E.view ht v).1, q⟩
-- plain values that a def gives back
mutual
def flatT : D → Bool
  | .non => true | .bl _ => true | .int _ => true | .str _ => true
  | .tup ds => flatTs ds
  | _ => false
def flatTs : List D → Bool
  | [] => true
  | d :: ds => flatT d && flatTs ds
end
mutual
theorem Rp.evenT {K : PySem.W.Frag} {H : Hp} {M M' : MS} (k : ∀ a xs, M a → H a = some (.tup xs) → M' a) : ∀ (d : D) (v : V), flatT d = true → Rp K H M' d v → Rp K H M d v
  | .non, _, _, h => h
  | .bl _, _, _, h => h
  | .int _, _, _, h => h
  | .str _, _, _, h => h
  | .tup ds, v, z, ⟨a, xs, e, t, r⟩ => ⟨a, xs, e, ⟨fun z => t.1 (k a xs z t.2), t.2⟩, Rps.evenT k ds xs z r⟩
  | .lst _, _, z, _ => nomatch z
  | .scr _, _, z, _ => nomatch z
  | .obj _ _, _, z, _ => nomatch z
  | .me _ _ _, _, z, _ => nomatch z
  | .adr _, _, z, _ => nomatch z
  | .ty _, _, z, _ => nomatch z
  | .dk _, _, z, _ => nomatch z
  | .dt _, _, z, _ => nomatch z
  | .xc _ _ _, _, z, _ => nomatch z
  | .tag _ _, _, z, _ => nomatch z
theorem Rps.evenT {K : PySem.W.Frag} {H : Hp} {M M' : MS} (k : ∀ a xs, M a → H a = some (.tup xs) → M' a) : ∀ (ds : List D) (vs : List V), flatTs ds = true → Rps K H M' ds vs → Rps K H M ds vs
  | [], _, _, h => h
  | d :: ds, _, z, ⟨x, r, e, h1, h2⟩ => by
    have z := Bool.and_eq_true_iff.mp (show (flatT d && flatTs ds) = true from z)
    exact ⟨x, r, e, Rp.evenT k d x z.1 h1, Rps.evenT k ds r z.2 h2⟩
end
theorem not_tup {K : PySem.W.Frag} {H : Hp} {M : MS} {a : Addr} {d : D} {xs : List V} (h : OwnAt K H M a d) (r : H a = some (.tup xs)) : False := by
  have : ∀ o, H a = some o → (∀ ys, o ≠ .tup ys) → (∀ p ys, o ≠ .frz p ys) → False := fun o ho n1 n2 => by
    rw [ho] at r; cases r; exact n1 _ rfl
  cases d with
  | lst _ => obtain ⟨x, q, _⟩ := h; exact this _ q (fun _ z => nomatch z) (fun _ _ z => nomatch z)
  | obj _ _ => obtain ⟨y, x, q, _⟩ := h; exact this _ q (fun _ z => nomatch z) (fun _ _ z => nomatch z)
  | me _ _ _ => obtain ⟨_, y, x, q, _⟩ := h; exact this _ q (fun _ z => nomatch z) (fun _ _ z => nomatch z)
  | dk _ => obtain ⟨x, q, _⟩ := h; exact this _ q (fun _ z => nomatch z) (fun _ _ z => nomatch z)
  | dt _ => obtain ⟨x, q, _⟩ := h; exact this _ q (fun _ z => nomatch z) (fun _ _ z => nomatch z)
  | _ => exact h
theorem EnvOk.evenT {K : PySem.W.Frag} {H H' H0 : Hp} {M0 : MS} {σ : L2.St} (E : EnvOk K H0 M0 ρ σ H) (ht : ρ[t]? = some (.st μ)) (v : View μ ρ ρ') (e : Ex H H') : ∀ a xs, Mo M0 ρ σ a → H' a = some (.tup xs) → Mo M0 ρ' σ a := fun a xs m r => by
  have E' := E.ext e
  rcases (E'.view ht v).2.2 a m with z | ⟨i, ν, d, z1, z2⟩ | ⟨i, ⟨d, z1⟩, z2⟩
  · exact z
  · exact (not_tup (E'.st i ν z1 a d z2) r).elim
  · obtain ⟨b, q1, q2⟩ := E'.own i d z1
    rw [z2] at q1; cases q1
    exact (not_tup q2 r).elim
theorem ed_view (ht : ρ[t]? = some (.st μ)) (v : View μ ρ ρ') (h : ED X ρ' e d) (hf : flatT d = true) : ED X ρ e d := pe_w h fun σ H Q ⟨H0, M0, E, q⟩ => ⟨H0, M0, (E.view ht v).1, fun u H' e1 r => q u H' e1 (Rp.evenT (E.evenT ht v e1) d u hf r)⟩
/-- a thing of one's own put into the store -/
theorem sds_stow (i : Nat) (ht : ρ[t]? = some (.st μ)) (hi : ρ[i]? = some (.own d)) (h : ∀ a, μ a = none → SDs X W ((ρ.set i (.val (.adr a))).set t (.st (putS μ a d))) rest R) : SDs X W ρ rest R := by
  have hti : t ≠ i := fun z => by subst z; rw [ht] at hi; cases hi
  refine pss_w (pss_fam (ι := Addr) (p := fun a => μ a = none) (t := fun a => tS X.K W ((ρ.set i (.val (.adr a))).set t (.st (putS μ a d))) R) h) fun Dn σ H ⟨H0, M0, E, q⟩ => ?_
  obtain ⟨a, ha, hO⟩ := E.own i d hi
  have wa : Ow ρ σ i a := ⟨⟨d, hi⟩, ha⟩
  have nμ : μ a = none := by
    cases z : μ a with
    | none => rfl
    | some y => exact absurd (.mk ht z) (E.sto i a wa)
  have hil : i < ρ.length := (List.getElem?_eq_some_iff.mp hi).1
  have htl : t < ρ.length := (List.getElem?_eq_some_iff.mp ht).1
  have gt : ∀ {j : Nat} {s : SD}, ((ρ.set i (.val (.adr a))).set t (.st (putS μ a d)))[j]? = some s → (j = t ∧ s = .st (putS μ a d)) ∨ (j = i ∧ s = .val (.adr a)) ∨ (j ≠ t ∧ j ≠ i ∧ ρ[j]? = some s) := fun {j s} h => by
    rcases set_some h with ⟨e, z, _⟩ | ⟨n1, z⟩
    · exact .inl ⟨e, z⟩
    · rcases set_some z with ⟨e, z, _⟩ | ⟨n2, z⟩
      · exact .inr (.inl ⟨e, z⟩)
      · exact .inr (.inr ⟨n1, n2, z⟩)
  have ow : ∀ j b, Ow ((ρ.set i (.val (.adr a))).set t (.st (putS μ a d))) σ j b → j ≠ i ∧ Ow ρ σ j b := fun j b ⟨⟨y, h1⟩, h2⟩ => by
    rcases gt h1 with ⟨_, z⟩ | ⟨_, z⟩ | ⟨_, n, z⟩
    · cases z
    · cases z
    · exact ⟨n, ⟨y, z⟩, h2⟩
  have sts : ∀ {j : Nat} {ν : Sto}, ((ρ.set i (.val (.adr a))).set t (.st (putS μ a d)))[j]? = some (.st ν) → j = t ∧ ν = putS μ a d := fun h => by
    rcases gt h with ⟨e, z⟩ | ⟨_, z⟩ | ⟨n, _, z⟩
    · cases z; exact ⟨e, rfl⟩
    · cases z
    · exact absurd (E.one _ _ _ _ z ht) n
  have stt : ∀ b, Stt ((ρ.set i (.val (.adr a))).set t (.st (putS μ a d))) b → Stt ρ b ∨ b = a := fun b ⟨j, ν, y, h1, h2⟩ => by
    rw [(sts h1).2] at h2
    by_cases z : b = a
    · exact .inr z
    · rw [putS_ne z] at h2; exact .inl (.mk ht h2)
  have s : ∀ b, Mo M0 ((ρ.set i (.val (.adr a))).set t (.st (putS μ a d))) σ b → Mo M0 ρ σ b := fun b m => by
    rcases m with (m | m) | ⟨j, m⟩
    · exact .inl (.inl m)
    · rcases stt b m with m | m
      · exact .inl (.inr m)
      · exact .inr ⟨i, m ▸ wa⟩
    · exact .inr ⟨j, (ow j b m).2⟩
  refine ⟨a, nμ, H0, M0, ⟨by rw [List.length_set, List.length_set]; exact E.len, E.ex, E.m0, fun j b h => E.fresh j b (ow j b h).2, fun j k b h h' => E.inj j k b (ow j b h).2 (ow k b h').2, fun j y h => ?_, fun j y h => ?_, fun b h => ?_, fun j b h k => ?_, fun j ν h b y h2 => ?_, fun j k ν ν' h h' => (sts h).1.trans (sts h').1.symm⟩, q⟩
  · rcases gt h with ⟨_, z⟩ | ⟨e, z⟩ | ⟨_, _, z⟩
    · cases z
    · cases z; exact ⟨.ref a, by rw [e]; exact ha, rfl⟩
    · obtain ⟨u, q1, q2⟩ := E.val j y z
      exact ⟨u, q1, Rp.le (Le.sub s) _ _ q2⟩
  · rcases gt h with ⟨_, z⟩ | ⟨_, z⟩ | ⟨_, _, z⟩
    · cases z
    · cases z
    · obtain ⟨b, q1, q2⟩ := E.own j y z
      exact ⟨b, q1, q2.le (Le.sub s) fun _ q => q⟩
  · rcases stt b h with h | h
    · exact E.stf b h
    · rw [h]; exact E.fresh i a wa
  · obtain ⟨n, w⟩ := ow j b h
    rcases stt b k with k | k
    · exact E.sto j b w k
    · subst k; exact n (E.inj j i b w wa)
  · rw [(sts h).2] at h2
    by_cases z : b = a
    · subst z
      rw [putS_same] at h2; cases h2
      exact hO.le (Le.sub s) fun _ q => q
    · rw [putS_ne z] at h2
      exact (E.st t μ ht b y h2).le (Le.sub s) fun _ q => q
end
end RW

end
section
/-! sorted() of pairs: an int, different in each, and a tuple -/
namespace RW
open PySem PySem.Spec PyProof.Rows L2
/-- a pair of an int and an object -/
def Pk (h : Heap) (v : Value) (k : Int) (b : Addr) : Prop := ∃ a xs t, v = .ref a ∧ h.IsTuple a xs ∧ xs.toList = [.int k t, .ref b]
theorem Pk.keeps {h h' : Heap} {v : Value} {k : Int} {b : Addr} (x : Pk h v k b) (f : ∀ b o, h.get? b = some o → o.cls = .type "tuple" → h'.get? b = some o) : Pk h' v k b := by
  obtain ⟨a, xs, t, e, ⟨o, ho, hc, n, hd⟩, i⟩ := x
  exact ⟨a, xs, t, e, ⟨o, f _ _ ho hc, hc, n, hd⟩, i⟩
def firstI (h : Heap) (v : Value) : Int := match v with
  | .ref a => match h.get? a with
    | some o => match o.data with
      | .seq xs _ => match xs.toList with
        | .int n _ :: _ => n
        | _ => 0
      | _ => 0
    | none => 0
  | _ => 0
theorem Pk.first {h : Heap} {v : Value} {k : Int} {b : Addr} (x : Pk h v k b) : firstI h v = k := by
  obtain ⟨a, xs, t, rfl, ⟨o, ho, hc, n, hd⟩, i⟩ := x
  simp only [firstI, ho, hd, i]
/-- such pairs, and no two with the same int -/
def PksOk (h : Heap) (vs : List Value) : Prop := (∀ v, v ∈ vs → ∃ k b, Pk h v k b) ∧ ∀ v u, v ∈ vs → u ∈ vs → firstI h v = firstI h u → v = u
theorem PksOk.keeps {h h' : Heap} {vs : List Value} (x : PksOk h vs) (f : ∀ b o, h.get? b = some o → o.cls = .type "tuple" → h'.get? b = some o) : PksOk h' vs := by
  refine ⟨fun v hv => ?_, fun v u hv hu e => x.2 v u hv hu ?_⟩
  · obtain ⟨k, b, p⟩ := x.1 v hv
    exact ⟨k, b, p.keeps f⟩
  · obtain ⟨k, b, p⟩ := x.1 v hv
    obtain ⟨k', b', p'⟩ := x.1 u hu
    rw [p.first, p'.first]
    rw [(p.keeps f).first, (p'.keeps f).first] at e
    exact e
theorem PksOk.firsts {h : Heap} : ∀ {vs : List Value}, (∀ v, v ∈ vs → ∃ k b, Pk h v k b) → ∃ fs, PySem.W.KatTups h vs fs ∧ fs.length = vs.length ∧ ∀ f, f ∈ fs → ∃ n t, f = Value.int n t
  | [], _ => ⟨[], PySem.W.KatTups.nil, rfl, fun f hf => by simp at hf⟩
  | v :: vs, x => by
    obtain ⟨fs, k, hl, hi⟩ := PksOk.firsts fun u hu => x u (List.mem_cons_of_mem _ hu)
    obtain ⟨m, b, a, xs, t, rfl, ⟨o, ho, hc, n, hd⟩, i⟩ := x v List.mem_cons_self
    refine ⟨.int m t :: fs, PySem.W.KatTups.cons ho hc hd ?_ k, by rw [List.length_cons, List.length_cons, hl], fun f hf => ?_⟩
    · have z := congrArg (fun l : List Value => l[0]?) i
      simpa using z
    · rcases List.mem_cons.mp hf with rfl | hf
      · exact ⟨m, t, rfl⟩
      · exact hi f hf
def kLt (h : Heap) (v u : Value) : Bool := decide (firstI h v < firstI h u)
theorem kLt_swo (h : Heap) : SrtO.Swo (kLt h) := by
  refine ⟨fun x y h1 => ?_, fun x y z h1 h2 => ?_⟩
  · have := of_decide_eq_true h1
    exact decide_eq_false (by omega)
  · have a := of_decide_eq_false h1
    have b := of_decide_eq_false h2
    exact decide_eq_false (by omega)
section
variable {prog : Program} {w : World} {A : Around} {E : Value → Shared → Prop} {s : Shared}
theorem eqBool_one {a : Addr} {Q : Bool → Shared → Prop} (h : Q true s) : wpAny (model prog w) A (eqBool (.ref a) (.ref a)) Q E s := by
  unfold eqBool
  refine wpAny_holding ?_
  refine wpAny_ite_split (fun _ => ?_) (fun n => absurd (beq_self_eq_true (Value.ref a)) n)
  exact wpAny_bind (wpAny_rule (wpAny_pure h))
theorem pks_cmp {vs : List Value} (x : PksOk s.heap vs) (r : Value → Int) (hr : ∀ v, v ∈ vs → r v = firstI s.heap v) :
    SrtO.Cmp prog w A s (tuples' true) (fun p => p.1 ∈ vs) fun p q => decide (r p.1 < r q.1) := by
  intro p q hp hq
  show wpAny (model prog w) A (keyLt' (tuples' true) p.1 q.1) (fun c s' => s' = s ∧ c = decide (r p.1 < r q.1)) (fun _ _ => False) s
  rw [hr _ hp, hr _ hq]
  have same := x.2 p.1 q.1 hp hq
  obtain ⟨k, b, tp⟩ := x.1 _ hp
  obtain ⟨k', b', tq⟩ := x.1 _ hq
  rw [tp.first, tq.first] at same ⊢
  obtain ⟨a, xs, t, e1, ⟨o, ho, hc, n, hdt⟩, i⟩ := tp
  obtain ⟨a', ys, u, e2, ⟨o', ho', hc', n', hdt'⟩, i'⟩ := tq
  rw [e1, e2] at same ⊢
  refine PySem.W.kat_lt ho hdt ho' hdt' ?_
  have sz : decide (xs.size < ys.size) = false := by
    have l1 := congrArg List.length i
    have l2 := congrArg List.length i'
    rw [Array.length_toList] at l1 l2
    exact decide_eq_false (by rw [l1, l2]; exact Nat.lt_irrefl _)
  rw [sz, i, i']
  show PySem.W.KatLex prog w A true false _ [(Value.int k t, Value.int k' u), (Value.ref b, Value.ref b')] 0 s
  refine PySem.W.kat_cons (wpAny_eqBool_int ?_)
  by_cases e : k = k'
  · have ea := same e
    injection ea with ea
    subst ea
    rw [ho] at ho'
    cases ho'
    rw [hdt] at hdt'
    injection hdt' with hx
    subst hx
    rw [i] at i'
    injection i' with j1 j2
    injection j1 with j3
    injection j2 with j4
    injection j4 with j5
    subst e; subst j5
    rw [beq_self_eq_true]
    exact PySem.W.kat_yes (PySem.W.kat_cons (eqBool_one (PySem.W.kat_yes (PySem.W.kat_nil ⟨rfl, (decide_eq_false (Int.lt_irrefl _)).symm⟩))))
  · rw [show (k == k') = false from beq_eq_false_iff_ne.mpr e]
    exact PySem.W.kat_no (TS.oneLt_ints _ ⟨rfl, rfl⟩)
theorem sorted_pairs {l : Addr} {vs : List Value} {Q : Value → Shared → Prop} (hl : s.heap.IsList l vs.toArray) (hz : vs.length ≤ sizeLine) (x : PksOk s.heap vs)
    (h : ∀ out : List Value, out.Perm vs → out.Pairwise (fun u v => firstI s.heap u ≤ firstI s.heap v) → Q (.ref (s.heap.objs.size + 1)) { s with heap := sortedAll s.heap vs out.toArray }) :
    wpAny (model prog w) A (call (.builtin "sorted") [.ref l]) Q E s := by
  refine SrtO.sorted_ord (kLt_swo s.heap) hl hz (fun h2 h₁ a ha kk => ?_) fun out hs hb => h out hb.perm (hs.imp fun {u v} q => ?_)
  · intro h' keep
    have k' : ∀ b o, s.heap.get? b = some o → o.cls = .type "tuple" → h'.get? b = some o := fun b o e _ => keep b o (kk b o e).1 (kk b o e).2
    have x' : PksOk h' vs := x.keeps k'
    obtain ⟨fs, k, hlf, hi⟩ := PksOk.firsts x'.1
    refine ⟨tuples' true, fun Q E hq => ?_, pks_cmp (s := { s with heap := h' }) x' (fun v => firstI s.heap v) fun v hv => ?_⟩
    · refine PySem.W.kat_kind (T := Value.type "int") k (by omega) (fun f hf => ?_) rfl ?_
      · obtain ⟨n, t, rfl⟩ := hi f hf
        exact PySem.W.Looks.of_pure rfl
      · have e : (Value.type "int" != Value.type "tuple") = true := by first | decide +kernel | rfl | decide
        rw [e]
        exact hq
    · obtain ⟨n, b, t0⟩ := x.1 v hv
      show firstI s.heap v = firstI h' v
      rw [t0.first, (t0.keeps k').first]
  · have := of_decide_eq_false q
    omega
end
def PkV (K : PySem.W.Frag) (H : Hp) (x : V) (k : Int) (b : Addr) : Prop := ∃ t, x = .ref t ∧ SqT K H t [.int k, .ref b]
def rSortP (K : PySem.W.Frag) : List V → Hp → VK → Prop := fun vs H Q => ∃ (a : Addr) (xs : List V), vs = [V.ref a] ∧ SqL K H a xs ∧ (∀ x ∈ xs, ∃ k b, PkV K H x k b) ∧
  (∀ (i j : Nat) x y, xs[i]? = some x → xs[j]? = some y → i ≠ j → ∃ k k' b b', PkV K H x k b ∧ PkV K H y k' b' ∧ k ≠ k') ∧
  ∀ (ys : List V) (p : Addr), ys.Perm xs → ys.Pairwise (fun x y => ∀ n m b c, PkV K H x n b → PkV K H y m c → n ≤ m) → H p = none → Q (.ref p) (upd H p (.lst ys))
section
variable {X : Cx}
theorem pk_raw {pins : List (Addr × Obj)} {s : Shared} {σ : L2.St} {H : Hp} (I : L2.Inv X pins σ H s) {t : Addr} {k : Int} {b : Addr} (h : SqT X.K H t [.int k, .ref b]) : Pk s.heap (.ref t) k b := by
  obtain ⟨its, rv, hT, _⟩ := I.tuple h
  cases rv with
  | cons r1 t1 =>
    cases t1 with
    | cons r2 t2 =>
      cases t2
      obtain ⟨u, rfl⟩ := r1
      cases r2
      exact ⟨t, _, u, rfl, hT, rfl⟩
theorem cr_sortP : CallR X (.builtin "sorted") (rSortP X.K) := by
  intro pins s σ H vs us Q I r h
  obtain ⟨a, xs, rfl, hs, hx, hd, q⟩ := h
  obtain ⟨its, rv, hl, hz⟩ := I.list hs
  rw [Vals.ref1 r]
  obtain ⟨e1, e2⟩ := bkV_refs rv fun x m => by
    obtain ⟨k, b, t, e, _⟩ := hx x m
    exact ⟨t, e⟩
  have raw : ∀ x k b, PkV X.K H x k b → ∀ v, x = bkV v → Pk s.heap v k b := fun x k b ⟨t, e, ht⟩ v ev => by
    rw [bkV_ref (ev.symm.trans e)]
    exact pk_raw I ht
  refine sorted_pairs hl.isList (by rw [← rv.length]; exact hz) ⟨fun v hv => ?_, fun v u hv hu e => ?_⟩ fun out h1 h2 => ?_
  · obtain ⟨k, b, p⟩ := hx (bkV v) (by rw [e1]; exact List.mem_map.mpr ⟨v, hv, rfl⟩)
    exact ⟨k, b, raw _ _ _ p _ rfl⟩
  · obtain ⟨i, hi⟩ := List.getElem?_of_mem hv
    obtain ⟨j, hj⟩ := List.getElem?_of_mem hu
    by_cases ij : i = j
    · subst ij
      rw [hi] at hj
      exact Option.some.inj hj
    · obtain ⟨k, k', b, b', p1, p2, ne⟩ := hd i j (bkV v) (bkV u) (by rw [e1, List.getElem?_map, hi]; rfl) (by rw [e1, List.getElem?_map, hj]; rfl) ij
      rw [(raw _ _ _ p1 _ rfl).first, (raw _ _ _ p2 _ rfl).first] at e
      exact absurd e ne
  · obtain ⟨ep, he'⟩ := PyProof.Rows.sortedAll_at s.heap its out.toArray
    have h3 : ∀ u ∈ out, ∃ a, u = Value.ref a := fun u hu => e2 u (h1.mem_iff.mp hu)
    have hp : (out.map bkV).Perm xs := by
      rw [e1]
      exact h1.map bkV
    have hlen : (out.map bkV).length ≤ sizeLine := by
      rw [hp.length_eq]
      exact hz
    refine ⟨.ref _, upd H (s.heap.objs.size + 1) (.lst (out.map bkV)), I.laid (t' := s.toks) (fun _ _ => PyProof.Rows.sortedAll_old) (Nat.le_succ _) ⟨hlen, out, ep, bkV_vals h3, he'⟩, rfl, q _ _ hp ?_ (I.hok.fresh (Nat.le_succ _))⟩
    rw [List.pairwise_map]
    refine List.Pairwise.imp (fun {u v} huv n m b c hn hm => ?_) h2
    rw [(raw _ _ _ hn _ rfl).first, (raw _ _ _ hm _ rfl).first] at huv
    exact huv
end
/-! over data -/
abbrev encK (q : Int × List D) : D := .tup [.int q.1, .tup q.2]
theorem pk_of_rp {K : PySem.W.Frag} {H : Hp} {M : MS} {q : Int × List D} {v : V} (h : Rp K H M (encK q) v) : ∃ b, PkV K H v q.1 b := by
  obtain ⟨a, xs, rfl, t, r⟩ := h
  obtain ⟨x, r1, rfl, e1, r2⟩ := r
  obtain ⟨y, r3, rfl, e2, r4⟩ := r2
  cases r4
  obtain ⟨b, ys, rfl, _, _⟩ := e2
  rw [show x = .int q.1 from e1] at t
  exact ⟨b, a, rfl, t.sq⟩
theorem rps_permE {α : Type} {enc : α → D} {K : PySem.W.Frag} {H : Hp} {M : MS} {ys xs : List V} (hp : ys.Perm xs) : ∀ {ds : List α}, Rps K H M (ds.map enc) xs → ∃ es : List α, es.Perm ds ∧ Rps K H M (es.map enc) ys := by
  induction hp with
  | nil => exact fun {ds} h => ⟨ds, .refl _, h⟩
  | cons x _ ih =>
    intro ds h
    cases ds with
    | nil => cases h
    | cons d ds =>
      obtain ⟨v, r, e, h1, h2⟩ := h
      injection e with e1 e2
      subst e1; subst e2
      obtain ⟨es, p, q⟩ := ih h2
      exact ⟨d :: es, p.cons d, _, _, rfl, h1, q⟩
  | swap x y l =>
    intro ds h
    cases ds with
    | nil => cases h
    | cons d ds =>
      obtain ⟨v, r, e, h1, h2⟩ := h
      injection e with e1 e2
      subst e1; subst e2
      cases ds with
      | nil => cases h2
      | cons d2 ds =>
        obtain ⟨v2, r2, e, h3, h4⟩ := h2
        injection e with e1 e2
        subst e1; subst e2
        exact ⟨d2 :: d :: ds, .swap d d2 ds, _, _, rfl, h3, _, _, rfl, h1, h4⟩
  | trans _ _ ih1 ih2 =>
    intro ds h
    obtain ⟨es, p, q⟩ := ih2 h
    obtain ⟨es2, p2, q2⟩ := ih1 q
    exact ⟨es2, p2.trans p, q2⟩
theorem rps_pairK {K : PySem.W.Frag} {H : Hp} {M : MS} : ∀ {es : List (Int × List D)} {ys : List V}, Rps K H M (es.map encK) ys → ys.Pairwise (fun x y => ∀ n m b c, PkV K H x n b → PkV K H y m c → n ≤ m) → es.Pairwise fun a b => a.1 ≤ b.1
  | [], _, _, _ => .nil
  | e :: es, ys, h, p => by
    obtain ⟨v, r, rfl, h1, h2⟩ := h
    rw [List.pairwise_cons] at p
    refine .cons (fun b hb => ?_) (rps_pairK h2 p.2)
    obtain ⟨i, hi⟩ := List.getElem?_of_mem hb
    obtain ⟨u, hu, q⟩ := h2.get (i := i) (d := encK b) (by rw [List.getElem?_map, hi]; rfl)
    obtain ⟨b1, g1⟩ := pk_of_rp h1
    obtain ⟨b2, g2⟩ := pk_of_rp q
    exact p.1 u (List.mem_of_getElem? hu) _ _ _ _ g1 g2
theorem rise_uniqK {α : Type} {f : α → Int} : ∀ {zs es : List α}, zs.Pairwise (fun a b => f a < f b) → es.Pairwise (fun a b => f a ≤ f b) → es.Perm zs → es = zs
  | [], es, _, _, p => p.eq_nil
  | z :: zs, [], _, _, p => absurd p.symm.eq_nil (by simp)
  | z :: zs, e :: es, hz, he, p => by
    rw [List.pairwise_cons] at hz he
    have e1 : e = z := by
      have m1 : e ∈ z :: zs := p.mem_iff.mp List.mem_cons_self
      have m2 : z ∈ e :: es := p.mem_iff.mpr List.mem_cons_self
      rcases List.mem_cons.mp m1 with h | h
      · exact h
      · rcases List.mem_cons.mp m2 with h' | h'
        · exact h'.symm
        · have a := hz.1 e h
          have b := he.1 z h'
          omega
    subst e1
    rw [rise_uniqK hz.2 he.2 (List.Perm.cons_inv p)]
theorem co_sortP {X : Cx} {xs zs : List (Int × List D)} (hp : zs.Perm xs) (hs : zs.Pairwise fun a b => a.1 < b.1) :
    CallO X (.builtin "sorted") [.lst (xs.map encK)] (.lst (zs.map encK)) := ⟨_, cr_sortP, fun H M vs dm r Q q => by
  obtain ⟨x, r, rfl, ⟨a, us, rfl, m, t, rx⟩, rfl⟩ := r
  have hl := rx.length
  rw [List.length_map] at hl
  have at_i : ∀ (i : Nat) u, us[i]? = some u → ∃ hi : i < xs.length, ∃ b, PkV X.K H u (xs[i]).1 b := fun i u hi => by
    have hi2 := (List.getElem?_eq_some_iff.mp hi).1
    have hi3 : i < xs.length := by omega
    have hg : xs[i]? = some xs[i] := List.getElem?_eq_getElem hi3
    obtain ⟨u', hu', q'⟩ := rx.get (i := i) (d := encK xs[i]) (by rw [List.getElem?_map, hg]; rfl)
    rw [hi] at hu'; cases hu'
    exact ⟨hi3, pk_of_rp q'⟩
  have nd : (xs.map Prod.fst).Nodup := by
    have : (zs.map Prod.fst).Nodup := List.pairwise_map.mpr (hs.imp fun {a b} h e => by rw [e] at h; exact Int.lt_irrefl _ h)
    exact (hp.map Prod.fst).nodup_iff.mp this
  refine ⟨a, us, rfl, SqL.of t, fun u hu => ?_, fun i j x y hx hy ij => ?_, fun ys p h1 h2 np => ?_⟩
  · obtain ⟨i, hi⟩ := List.getElem?_of_mem hu
    obtain ⟨_, b, g⟩ := at_i i u hi
    exact ⟨_, b, g⟩
  · obtain ⟨h1, b, g⟩ := at_i i x hx
    obtain ⟨h2, b', g'⟩ := at_i j y hy
    refine ⟨_, _, b, b', g, g', fun e => ij ?_⟩
    exact (List.getElem_inj (xs := xs.map Prod.fst) (h₀ := (by rw [List.length_map]; exact h1)) (h₁ := (by rw [List.length_map]; exact h2)) nd).mp (by rw [List.getElem_map, List.getElem_map]; exact e)
  · obtain ⟨es, p1, r1⟩ := rps_permE h1 rx
    have e := rise_uniqK hs (rps_pairK r1 h2) (p1.trans hp.symm)
    rw [e] at r1
    exact q p _ np (Ex.new np) (OwnAt.new_lst np r1)⟩
end RW
/-! len(set(xs)) of a list of ints -/
namespace RW
open PySem PySem.Spec PyProof.Rows L2
theorem met_run (ns : List Int) : ∀ i, i ≤ ns.length → (firstMet (fun i => ns.getD i 0) i).length = nDist (ns.take i) ∧ ∀ x, x ∈ firstMet (fun i => ns.getD i 0) i ↔ x ∈ ns.take i
  | 0, _ => ⟨rfl, fun x => Iff.rfl⟩
  | i + 1, h => by
    obtain ⟨h1, h2⟩ := met_run ns i (by omega)
    have hi : i < ns.length := h
    have e : ns.getD i 0 = ns[i] := by rw [List.getD_eq_getElem?_getD, List.getElem?_eq_getElem hi]; rfl
    rw [firstMet_succ, take_one hi, nDist_snoc, e]
    unfold step_dedup
    by_cases z : ns[i] ∈ ns.take i
    · have y : (firstMet (fun i => ns.getD i 0) i).any (· == ns[i]) = true := List.any_eq_true.mpr ⟨_, (h2 _).mpr z, beq_self_eq_true _⟩
      rw [if_pos y, if_pos z]
      refine ⟨h1, fun x => ⟨fun q => List.mem_append_left _ ((h2 x).mp q), fun q => (h2 x).mpr ?_⟩⟩
      rcases List.mem_append.mp q with q | q
      · exact q
      · rw [List.mem_singleton.mp q]; exact z
    · have y : ¬ (firstMet (fun i => ns.getD i 0) i).any (· == ns[i]) = true := fun q => by
        obtain ⟨x, hx, ex⟩ := List.any_eq_true.mp q
        exact z ((h2 _).mp (by rw [← beq_iff_eq.mp ex]; exact hx))
      rw [if_neg y, if_neg z]
      refine ⟨by rw [List.length_append, h1]; rfl, fun x => ?_⟩
      rw [List.mem_append, List.mem_append, h2]
/-- a set of ints, by what it holds and how many these are -/
def SetJ (P : Program) (w : World) (a : Addr) (S : Int → Bool) (n : Nat) : HO := .ext fun h => h.SetOf (intKind P w) a S n
theorem setJ_at {P : Program} {w : World} {H : Hp} {h : Heap} {a : Addr} {S : Int → Bool} {n : Nat} (R : h.SetOf (intKind P w) a S n) : ObjOk P w H h a (SetJ P w a S n) := by
  refine ⟨R, ?_, fun h1 h2 p k => ?_⟩
  · have ⟨o, _, _, _, ho, _⟩ := R
    exact ⟨o, ho⟩
  · have p : h1.SetOf (intKind P w) a S n := p
    obtain ⟨o, es, ep, t, ho, r⟩ := p
    exact ⟨o, es, ep, t, k o ho, r⟩
section
variable {X : Cx} {ρ : List SD} {pos p pos2 p2 : Pos}
def rSetJ (X : Cx) : List V → Hp → VK → Prop := fun xs H Q => ∃ (l : Addr) (ns : List Int), xs = [V.ref l] ∧ SqL X.K H l (ns.map V.int) ∧ ns.length ≤ 4000 ∧
  ∀ a S, H a = none → Q (.ref a) (upd H a (SetJ X.prog X.w a S (nDist ns)))
theorem cr_setJ (hc : X.calm = true) : CallR X (.type "set") (rSetJ X) := by
  intro pins s σ H xs us Q I r h
  obtain ⟨l, ns, rfl, hl, hz, q⟩ := h
  rw [Vals.ref1 r]
  obtain ⟨its, rv, pl, _⟩ := I.list hl
  have hn : its.toArray.size = ns.length := by rw [List.size_toArray, ← rv.length, List.length_map]
  refine call_set_list (ns := ns) (I.ok.hd hc) pl.isList (by simpa using rv.ints) (by rw [hn]; unfold scanBound; omega) fun h' tk hS hk => ?_
  obtain ⟨m1, _⟩ := met_run ns ns.length (Nat.le_refl _)
  rw [List.take_length] at m1
  rw [hn, m1] at hS
  exact ⟨.ref s.heap.objs.size, upd H s.heap.objs.size (SetJ X.prog X.w s.heap.objs.size _ (nDist ns)), I.laid (t' := tk) (fun b o e => hk b o (Heap.lt_size e) e) (Nat.le_refl _) (setJ_at hS), rfl, q _ _ (I.hok.fresh (Nat.le_refl _))⟩
theorem cr_lenJ : CallR X (.builtin "len") (fun xs H Q => ∃ a S n, xs = [V.ref a] ∧ H a = some (SetJ X.prog X.w a S n) ∧ n ≤ 4000 ∧ Q (.int n) H) := by
  intro pins s σ H xs us Q I r h
  obtain ⟨a, S, n, rfl, ha, hz, q⟩ := h
  rw [Vals.ref1 r]
  have hS : s.heap.SetOf (intKind X.prog X.w) a S n := (I.hok a _ ha).1
  obtain ⟨o, es, ep, t, ho, hex, hd, _, _, hb, hf, hn⟩ := hS
  exact call_len_set ho hex hd hf (by rw [hn]; omega) ⟨.int n, H, I.tok _, ⟨_, by rw [hn]⟩, q⟩
def tSetJ (X : Cx) (ρ : List SD) (n : Nat) : TE := fun σ H Q => ∃ H0 M0, EnvOk X.K H0 M0 ρ σ H ∧ ∀ D H' S, Ex H H' → H' D = some (SetJ X.prog X.w D S n) → Q (.ref D) H'
theorem pe_setJ {e : Expr} {ns : List Int} (hc : X.calm = true) (hg : Gl X "set") (hm : X.mg "set" = none) (he : ED X ρ e (.lst (ns.map .int))) (hz : ns.length ≤ 4000)
    (hs : starEach [e] X.env = (false, eval e X.env) :: starEach [] X.env := by rfl) (hpl : (backTo pos (starEach [] X.env)).any (·.1) = false := by rfl) : PE X (.Call (.Name "set" p) [e] [] pos) (tSetJ X ρ (nDist ns)) :=
  pe_w (pe_callTy (cr_setJ hc) hg hm boot_set (ea_cons he ea_nil hs) (by decide) (by decide) hs hpl) fun σ H Q ⟨H0, M0, E, q⟩ => ⟨H0, M0, E, fun vs H1 e1 r1 => by
    obtain ⟨x, r, rfl, ⟨a, us, rfl, m, t, rx⟩, rfl⟩ := r1
    rw [rx.ints] at t
    exact ⟨a, ns, rfl, SqL.of t, hz, fun b S np => q _ _ S (e1.trans (Ex.new np)) upd_same⟩⟩
theorem ed_lenJ {e : Expr} {n : Nat} (he : PE X e (tSetJ X ρ n)) (hn : n ≤ 4000) (hg : Gl X "len") (hm : X.mg "len" = none) (hs : starEach [e] X.env = [(false, eval e X.env)] := by rfl) : ED X ρ (.Call (.Name "len" p) [e] [] pos2) (.int n) :=
  pe_w (pe_callB cr_lenJ hg hm PySem.boot_len (pa_cons he pa_nil (by rw [hs]; rfl)) (by decide) (by decide) (by rw [hs]; rfl)) fun σ H Q ⟨H0, M0, E, q⟩ => ⟨H0, M0, E, fun D H' S e1 hS => ⟨D, S, n, rfl, hS, hn, q _ H' e1 rfl⟩⟩
/-- len(set(xs)) -/
theorem ed_lenSet {e : Expr} {ns : List Int} (hc : X.calm = true) (hg : Gl X "len") (hm : X.mg "len" = none) (hg2 : Gl X "set") (hm2 : X.mg "set" = none) (he : ED X ρ e (.lst (ns.map .int))) (hz : ns.length ≤ 4000)
    (hs : starEach [e] X.env = (false, eval e X.env) :: starEach [] X.env := by rfl) (hs2 : starEach [.Call (.Name "set" p2) [e] [] pos] X.env = [(false, eval (.Call (.Name "set" p2) [e] [] pos) X.env)] := by rfl) : ED X ρ (.Call (.Name "len" p) [.Call (.Name "set" p2) [e] [] pos] [] pos2) (.int (nDist ns : Nat)) :=
  ed_lenJ (pe_setJ hc hg2 hm2 he hz hs) (Nat.le_trans (nDist_le _ ns rfl).1 hz) hg hm hs2
end
end RW
/-! a starred list; what sorted() of pairs makes, as a function -/
namespace RW
open PySem PySem.Spec PyProof.Rows L2
theorem ea_starL {X : Cx} {ρ : List SD} {e : Expr} {p : Pos} {ds : List D} {es' : List Expr} {ds' : List D} (h : ED X ρ e (.lst ds)) (h' : EA X ρ es' ds') (hs : starEach (.Starred e p :: es') X.env = (true, eval e X.env) :: starEach es' X.env := by rfl) : EA X ρ (.Starred e p :: es') (ds ++ ds') :=
  pa_w (StX.pa_star h h' hs) fun σ H Q ⟨H0, M0, E, q⟩ => ⟨H0, M0, E, fun v H1 e1 r1 => by
    obtain ⟨a, xs, rfl, m, t, rx⟩ := r1
    exact ⟨a, xs, rfl, .inr (SqL.of t), H0, M0, E.ext e1, fun vs H2 e2 r2 => q _ H2 (e1.trans e2) (Rps.append (Rps.le (Le.ex e2) _ _ rx) r2)⟩⟩
def sortK {β : Type} (l : List (Int × β)) : List (Int × β) := l.mergeSort fun a b => decide (a.1 ≤ b.1)
theorem sortK_perm {β : Type} (l : List (Int × β)) : (sortK l).Perm l := List.mergeSort_perm l _
theorem sortK_asc {β : Type} (l : List (Int × β)) (h : (l.map Prod.fst).Nodup) : (sortK l).Pairwise fun a b => a.1 < b.1 := by
  have h1 : (sortK l).Pairwise fun a b => decide (a.1 ≤ b.1) = true := List.pairwise_mergeSort (fun a b c x y => by
    have x := of_decide_eq_true x
    have y := of_decide_eq_true y
    exact decide_eq_true (by omega)) (fun a b => by
    rw [Bool.or_eq_true, decide_eq_true_eq, decide_eq_true_eq]
    omega) l
  have h2 : ((sortK l).map Prod.fst).Nodup := ((sortK_perm l).map Prod.fst).nodup_iff.mpr h
  refine (h1.and (List.pairwise_map.mp h2)).imp fun {a b} q => ?_
  have q1 := of_decide_eq_true q.1
  have q2 := q.2
  omega
theorem co_sortII {X : Cx} {l : List (Int × Int)} (h : (l.map Prod.fst).Nodup) (hb : ∀ q ∈ l, (0 ≤ q.1 ∧ q.1 < 100000) ∧ 0 ≤ q.2 ∧ q.2 < 100000) :
    CallO X (.builtin "sorted") [.lst (l.map fun q => .tup [.int q.1, .int q.2])] (.lst ((sortK l).map fun q => .tup [.int q.1, .int q.2])) := by
  have e : ∀ k : List (Int × Int), (k.map fun q => D.tup [.int q.1, .int q.2]) = (k.map fun q => [q.1, q.2]).map encT := fun k => by rw [List.map_map]; rfl
  rw [e, e]
  refine co_sortT (n := 2) (B := 100000) (by decide) (fun x hx => ?_) ((sortK_perm l).map _) ?_
  · obtain ⟨q, hq, rfl⟩ := List.mem_map.mp hx
    have := hb q hq
    refine ⟨rfl, fun m hm => ?_⟩
    simp only [List.mem_cons, List.not_mem_nil, or_false] at hm
    rcases hm with rfl | rfl
    · exact this.1
    · exact this.2
  · rw [List.pairwise_map]
    refine (sortK_asc l h).imp_of_mem fun {a b} ha hbm q => ?_
    have h1 := hb a ((sortK_perm l).mem_iff.mp ha)
    have h2 := hb b ((sortK_perm l).mem_iff.mp hbm)
    show a.1 * 100000 ^ 1 + (a.2 * 100000 ^ 0 + 0) < b.1 * 100000 ^ 1 + (b.2 * 100000 ^ 0 + 0)
    omega
theorem co_sortIC {X : Cx} {l : List (Int × Str × Int)} (h : (l.map Prod.fst).Nodup) :
    CallO X (.builtin "sorted") [.lst (l.map fun q => .tup [.int q.1, .tup [.str q.2.1, .int q.2.2]])] (.lst ((sortK l).map fun q => .tup [.int q.1, .tup [.str q.2.1, .int q.2.2]])) := by
  have e : ∀ k : List (Int × Str × Int), (k.map fun q => D.tup [.int q.1, .tup [.str q.2.1, .int q.2.2]]) = (k.map fun q => (q.1, [D.str q.2.1, D.int q.2.2])).map encK := fun k => by rw [List.map_map]; rfl
  rw [e, e]
  refine co_sortP ((sortK_perm l).map _) ?_
  rw [List.pairwise_map]
  exact sortK_asc l h
end RW
/-! a comprehension over triples -/
namespace RW
open PySem PySem.Spec PyProof.Rows L2
def pr3 (ρ : List SD) (i j k : Nat) (u v z : D) : List SD := ((ρ.set i (.val u)).set j (.val v)).set k (.val z)
theorem pr3_wipe {ρ : List SD} {i j k : Nat} {u v z : D} (hij : i ≠ j) (hik : i ≠ k) (hjk : j ≠ k) : pr3 (wipeR ρ [i, j, k]) i j k u v z = pr3 ρ i j k u v z := by
  unfold pr3 wipeR wipeR wipeR wipeR
  rw [set_set', List.set_comm _ _ (Ne.symm hij), set_set', List.set_comm _ _ (Ne.symm hik), List.set_comm _ _ (Ne.symm hjk), set_set']
section
variable {X : Cx} {ρ : List SD} {tg : Expr} {pos : Pos}
theorem q3_hno {i j k : Nat} {x y z : Str} (h1 : ∀ d, ρ[i]? ≠ some (SD.hot d)) (h2 : ∀ d, ρ[j]? ≠ some (SD.hot d)) (h3 : ∀ d, ρ[k]? ≠ some (SD.hot d)) : ∀ n ∈ ([(x, i), (y, j), (z, k)] : List (Str × Nat)).map (·.2), ∀ d, ρ[n]? ≠ some (SD.hot d) := fun n hn d => by
  rcases List.mem_cons.mp hn with q | hn
  · rw [q]; exact h1 d
  rcases List.mem_cons.mp hn with q | hn
  · rw [q]; exact h2 d
  · rw [show n = k from List.mem_singleton.mp hn]; exact h3 d
theorem q3_hf {i j k : Nat} {u v w : D} (hd : (i ≠ j ∧ i ≠ k) ∧ j ≠ k) (hl : i < ρ.length) (hl2 : j < ρ.length) (hl3 : k < ρ.length) : tupF 3 (consF (setF i) [i] (consF (setF j) [j] (consF (setF k) [k] nilF))) (wipeR ρ [i, j, k]) (.tup [u, v, w]) (pr3 ρ i j k u v w) := by
  rw [← pr3_wipe hd.1.1 hd.1.2 hd.2]
  have hw : (wipeR ρ [i, j, k]).length = ρ.length := by
    unfold wipeR wipeR wipeR wipeR
    rw [List.length_set, List.length_set, List.length_set]
  exact ⟨[u, v, w], rfl, rfl, consF_name (by rw [hw]; exact hl) (consF_name (by rw [List.length_set, hw]; exact hl2) (consF_name (by rw [List.length_set, List.length_set, hw]; exact hl3) nilF_mk))⟩
theorem q3_hk {i j k : Nat} {x y z : Str} {u v w : D} : ∀ n : Nat, n ∉ ([(x, i), (y, j), (z, k)] : List (Str × Nat)).map (·.2) → (pr3 ρ i j k u v w)[n]? = ρ[n]? := fun n hn => by
  have e1 : n ≠ i := fun q => hn (by rw [q]; exact List.mem_cons_self)
  have e2 : n ≠ j := fun q => hn (by rw [q]; exact List.mem_cons_of_mem _ List.mem_cons_self)
  have e3 : n ≠ k := fun q => hn (by rw [q]; exact List.mem_cons_of_mem _ (List.mem_cons_of_mem _ (List.mem_singleton.mpr rfl)))
  unfold pr3
  rw [List.getElem?_set_ne (Ne.symm e3), List.getElem?_set_ne (Ne.symm e2), List.getElem?_set_ne (Ne.symm e1)]
theorem eo_lcq3 {α : Type} {xs : List α} {u v w : α → D} {elt iter : Expr} {ifs : List Expr} {scope : Scope} {x y z : Str} (i j k : Nat) {t : α → Bool} {g : α → D} (hc : X.calm = true) (hN : X.N.Nodup) (hi : WD X ρ tg iter (xs.map fun x => .tup [u x, v x, w x])) (ok : BlkOk X.N X.env.scope scope [(x, i), (y, j), (z, k)])
    (hg : ∀ (s : Shared) (H : Hp) (C : Addr) (cl : List (Str × Addr)) (fp : List Addr), TD (X.blk s H scope (compEnvC scope cl C X.env) fp) tg (tupF 3 (consF (setF i) [i] (consF (setF j) [j] (consF (setF k) [k] nilF)))) ([i] ++ ([j] ++ ([k] ++ []))))
    (hd : (i ≠ j ∧ i ≠ k) ∧ j ≠ k) (hl : i < ρ.length) (hl2 : j < ρ.length) (hl3 : k < ρ.length) (hno : ∀ d, ρ[i]? ≠ some (SD.hot d)) (hno2 : ∀ d, ρ[j]? ≠ some (SD.hot d)) (hno3 : ∀ d, ρ[k]? ≠ some (SD.hot d))
    (ht : ∀ (s : Shared) (H : Hp) (C : Addr) (cl : List (Str × Addr)) (fp : List Addr) (x : α), x ∈ xs → PTs (X.blk s H scope (compEnvC scope cl C X.env) fp) ifs (tT X.K (pr3 ρ i j k (u x) (v x) (w x)) (t x)))
    (he : ∀ (s : Shared) (H : Hp) (C : Addr) (cl : List (Str × Addr)) (fp : List Addr) (x : α), x ∈ xs → t x = true → ED (X.blk s H scope (compEnvC scope cl C X.env) fp) (pr3 ρ i j k (u x) (v x) (w x)) elt (g x))
    (hz : xs.length < 100000) {ys : List D} (hys : (xs.filter t).map g = ys) (hs : ∀ x, foldedSetIterable iter X.env x = pure x := by intro _; rfl) :
    EO X ρ (.ListComp elt [⟨tg, iter, ifs, 0⟩] scope pos) (.lst ys) := hys ▸
  eo_lc hc hN hi ok hg (fun i hi => hi) (q3_hno hno hno2 hno3) (fun x => pr3 ρ i j k (u x) (v x) (w x)) t g (fun x _ => q3_hf hd hl hl2 hl3) (fun x _ => q3_hk) ht he hz hs
theorem sds_setLcq3 {α : Type} {xs : List α} {u v w : α → D} {elt iter : Expr} {ifs : List Expr} {scope : Scope} {x y z zz : Str} {W : WX} {R : Po} {rest : List Stmt} (a i j k : Nat) {t : α → Bool} {g : α → D} (hc : X.calm = true) {py spos : Pos} (hN : X.N.Nodup) (hy : X.N[a]? = some zz) (hyl : X.env.scope.names.lookup zz = some .local)
    (hsw : swapsWith (.ListComp elt [⟨tg, iter, ifs, 0⟩] scope pos) (some (.Name zz py)) spos.line X.env = pure true) (hi : WD X ρ tg iter (xs.map fun x => .tup [u x, v x, w x])) (ok : BlkOk X.N X.env.scope scope [(x, i), (y, j), (z, k)])
    (hg : ∀ (s : Shared) (H : Hp) (C : Addr) (cl : List (Str × Addr)) (fp : List Addr), TD (X.blk s H scope (compEnvC scope cl C X.env) fp) tg (tupF 3 (consF (setF i) [i] (consF (setF j) [j] (consF (setF k) [k] nilF)))) ([i] ++ ([j] ++ ([k] ++ []))))
    (hd : (i ≠ j ∧ i ≠ k) ∧ j ≠ k) (hl : i < ρ.length) (hl2 : j < ρ.length) (hl3 : k < ρ.length) (hno : ∀ d, ρ[i]? ≠ some (SD.hot d)) (hno2 : ∀ d, ρ[j]? ≠ some (SD.hot d)) (hno3 : ∀ d, ρ[k]? ≠ some (SD.hot d))
    (ht : ∀ (s : Shared) (H : Hp) (C : Addr) (cl : List (Str × Addr)) (fp : List Addr) (x : α), x ∈ xs → PTs (X.blk s H scope (compEnvC scope cl C X.env) fp) ifs (tT X.K (pr3 ρ i j k (u x) (v x) (w x)) (t x)))
    (he : ∀ (s : Shared) (H : Hp) (C : Addr) (cl : List (Str × Addr)) (fp : List Addr) (x : α), x ∈ xs → t x = true → ED (X.blk s H scope (compEnvC scope cl C X.env) fp) (pr3 ρ i j k (u x) (v x) (w x)) elt (g x))
    (hz : xs.length < 100000) {ys : List D} (hys : (xs.filter t).map g = ys) (hl' : a < ρ.length) (h : SDs X W (ρ.set a (.own (.lst ys))) rest R) (hs : ∀ x, foldedSetIterable iter X.env x = pure x := by intro _; rfl) :
    SDs X W ρ (.Assign [.Name zz py] (.ListComp elt [⟨tg, iter, ifs, 0⟩] scope pos) spos :: rest) R :=
  sds_setLc a hc hN hy hyl hsw hi ok hg (fun i hi => hi) (q3_hno hno hno2 hno3) (fun x => pr3 ρ i j k (u x) (v x) (w x)) t g (fun x _ => q3_hf hd hl hl2 hl3) (fun x _ => q3_hk) ht he hz hl' (hys.symm ▸ h) hs
end
end RW
/-! e in xs, e not in xs, xs owned -/
namespace RW
open PySem PySem.Spec PyProof.Rows L2
section
variable {X : Cx} {ρ : List SD} {e : Expr} {x : Str} {d : D} {ds : List D} {p pos : Pos}
theorem ed_niO (i : Nat) (hρ : ρ[i]? = some (.own (.lst ds))) (he : ED X ρ e d) (h : flatD d = true) (h' : ds.all flatD = true) (hN : X.N[i]? = some x) (hv : Vis X.env.scope x) (hd : (x == ("__debug__" : Str)) = false := by decide) (hcd : (x == ("__classdict__" : Str)) = false := by decide)
    (hm : behindInMarks .NotIn (.Name x p) = false := by first | exact nomark _ | rfl) : ED X ρ (.Compare e [.NotIn] [.Name x p] pos) (.bl (!inD d ds)) :=
  pe_w (pe_cmpR op_notIn_seq he (ed_own i hρ hN hv hd hcd) hm) fun σ H Q ⟨H0, M0, E, q⟩ => ⟨H0, M0, E, fun v H1 e1 r1 => ⟨H0, M0, E.ext e1, fun a hp hO => by
    obtain ⟨xs, ho, rx⟩ := hO
    obtain ⟨a1, a2⟩ := r1.flat h
    obtain ⟨b1, b2⟩ := rx.flat h'
    exact ⟨a, xs, rfl, .inl (SqL.of ho), a2, b2, q _ _ e1 (by rw [a1, b1]; rfl)⟩⟩⟩
theorem et_niO (i : Nat) (hρ : ρ[i]? = some (.own (.lst ds))) (he : ED X ρ e d) (h : flatD d = true) (h' : ds.all flatD = true) (hN : X.N[i]? = some x) (hv : Vis X.env.scope x) (hd : (x == ("__debug__" : Str)) = false := by decide) (hcd : (x == ("__classdict__" : Str)) = false := by decide)
    (hm : behindInMarks .NotIn (.Name x p) = false := by first | exact nomark _ | rfl) : ET X ρ (.Compare e [.NotIn] [.Name x p] pos) (!inD d ds) :=
  pt_w (pt_cmpR op_notIn_seq he (ed_own i hρ hN hv hd hcd) hm) fun σ H Q hh => tTest_ed (fun σ H Q ⟨H0, M0, E, q⟩ => ⟨H0, M0, E, fun v H1 e1 r1 => ⟨H0, M0, E.ext e1, fun a hp hO => by
    obtain ⟨xs, ho, rx⟩ := hO
    obtain ⟨a1, a2⟩ := r1.flat h
    obtain ⟨b1, b2⟩ := rx.flat h'
    exact ⟨a, xs, rfl, .inl (SqL.of ho), a2, b2, q _ _ e1 (by rw [a1, b1]; rfl)⟩⟩⟩) hh
theorem ed_inO (i : Nat) (hρ : ρ[i]? = some (.own (.lst ds))) (he : ED X ρ e d) (h : flatD d = true) (h' : ds.all flatD = true) (hN : X.N[i]? = some x) (hv : Vis X.env.scope x) (hd : (x == ("__debug__" : Str)) = false := by decide) (hcd : (x == ("__classdict__" : Str)) = false := by decide)
    (hm : behindInMarks .In (.Name x p) = false := by first | exact nomark _ | rfl) : ED X ρ (.Compare e [.In] [.Name x p] pos) (.bl (inD d ds)) :=
  pe_w (pe_cmpR op_in_seq he (ed_own i hρ hN hv hd hcd) hm) fun σ H Q ⟨H0, M0, E, q⟩ => ⟨H0, M0, E, fun v H1 e1 r1 => ⟨H0, M0, E.ext e1, fun a hp hO => by
    obtain ⟨xs, ho, rx⟩ := hO
    obtain ⟨a1, a2⟩ := r1.flat h
    obtain ⟨b1, b2⟩ := rx.flat h'
    exact ⟨a, xs, rfl, .inl (SqL.of ho), a2, b2, q _ _ e1 (by rw [a1, b1]; rfl)⟩⟩⟩
theorem et_inO (i : Nat) (hρ : ρ[i]? = some (.own (.lst ds))) (he : ED X ρ e d) (h : flatD d = true) (h' : ds.all flatD = true) (hN : X.N[i]? = some x) (hv : Vis X.env.scope x) (hd : (x == ("__debug__" : Str)) = false := by decide) (hcd : (x == ("__classdict__" : Str)) = false := by decide)
    (hm : behindInMarks .In (.Name x p) = false := by first | exact nomark _ | rfl) : ET X ρ (.Compare e [.In] [.Name x p] pos) (inD d ds) :=
  pt_w (pt_cmpR op_in_seq he (ed_own i hρ hN hv hd hcd) hm) fun σ H Q hh => tTest_ed (fun σ H Q ⟨H0, M0, E, q⟩ => ⟨H0, M0, E, fun v H1 e1 r1 => ⟨H0, M0, E.ext e1, fun a hp hO => by
    obtain ⟨xs, ho, rx⟩ := hO
    obtain ⟨a1, a2⟩ := r1.flat h
    obtain ⟨b1, b2⟩ := rx.flat h'
    exact ⟨a, xs, rfl, .inl (SqL.of ho), a2, b2, q _ _ e1 (by rw [a1, b1]; rfl)⟩⟩⟩) hh
end
end RW

end
section
/-! C(e, .., k = v): an __init__ with keyword-only parameters; x += e -/
namespace RW
open PySem PySem.Spec PyProof.Rows L2
section
variable {P : Program} {w : World} {K : PySem.W.Frag} {mg : Str → Option Value} {base : Heap}
/-- the promise of an __init__ at calls with n values and the keywords ks; the values dv are put behind them -/
structure FIK (P : Program) (w : World) (K : PySem.W.Frag) (mg : Str → Option Value) (base : Heap) (k : Nat) (x : Str) (C : Addr) (n : Nat) (ks : List Str) (dv : List D) (dz : List V) (S : List D → Res → Prop) : Prop where
  g : mg x = some (.ref C)
  ex : ∃ (f : Addr) (fd : FuncData) (ps : List Str) (m : Nat) (g : List Value → List Value → List Value), Mk K C f ∧ KBn K fd ps (n + 1) ks g (fun vs zs => vs ++ (zs ++ dz)) ∧ m = n + (ks.length + dz.length) ∧ FnOk P w K mg base (L2.CX P w) k f fd ps (spI K C m S)
  dv : ∀ H M, Rps K H M dv dz
end
section
variable {X : Cx} {W : WX} {ρ : List SD} {e : Expr} {es : List Expr} {ds zs : List D} {kws : List Keyword} {pos p : Pos} {x : Str} {r : Res} {C : Addr}
theorem er_makeK {k n : Nat} {ks : List Str} {dv : List D} {dz : List V} {S : List D → Res → Prop} (tk : Takes X W) (F : FIK X.prog X.w X.K X.mg X.base k x C n ks dv dz S) (hr : Room (k + 1) X.A) (hg : Gl X x) (ha : EA X ρ (e :: es) ds) (hk : EK X ρ kws zs) (hS : S (ds ++ (zs ++ dv)) r) (hob : ∀ d, r = .ok d → ∃ fs, d = .obj C fs) (hn : ds.length = n := by rfl) (hm : zs.length = ks.length := by rfl)
    (hdb : (x == ("__debug__" : Str)) = false := by decide) (he : starEach (e :: es) X.env = (false, eval e X.env) :: starEach es X.env := by rfl)
    (hall : (backToKw pos (keywordEach kws X.env)).all (·.1.isSome) = true := by rfl) (hks : (backToKw pos (keywordEach kws X.env)).filterMap (·.1) = ks := by rfl)
    (hpl : ((backTo pos (starEach (e :: es) X.env)).any (·.1) || (backToKw pos (keywordEach kws X.env)).any (·.1.isNone)) = false := by rfl) :
    ER X W ρ (.Call (.Name x p) (e :: es) kws pos) r := by
  obtain ⟨hG, ⟨f, fd, ps, m, g, M, hb, h4, h5⟩, hdv⟩ := F
  refine ⟨fun pins s σ H Q I hQ => wpAny_Call_Name_kw (ld_glob I hg hG ?_ hdb)⟩
  obtain ⟨H0, M0, E, q⟩ := hQ
  refine PySem.W.callWith_KW (h₀ := X.base) I.ok.mod.kin M.kp hall ?_ hpl he
  refine thn (ha.run pos pins s σ H (fun vs H1 => Ex H H1 ∧ Rps X.K H1 (Mo M0 ρ σ) ds vs) I ⟨H0, M0, E, fun _ _ a b => ⟨a, b⟩⟩) fun us s1 ⟨vs, H1, I1, ru, e1, r1⟩ => ?_
  refine thn (hk.run pos pins s1 σ H1 (fun vs H2 => Ex H1 H2 ∧ Rps X.K H2 (Mo M0 ρ σ) zs vs) I1 ⟨H0, M0, E.ext e1, fun _ _ a b => ⟨a, b⟩⟩) fun ws s2 ⟨ws', H2, I2, rz, e2, r2⟩ => ?_
  refine ⟨I2.kIn, ?_⟩
  rw [hks]
  have lu : us.length = n := ru.length.symm.trans (r1.length.trans hn)
  have lw : ws.length = ks.length := rz.length.symm.trans (r2.length.trans hm)
  have rAll : Rps X.K H2 (Mo M0 ρ σ) (ds ++ (zs ++ dv)) (vs ++ (ws' ++ dz)) := Rps.append (Rps.le (Le.ex e2) _ _ r1) (Rps.append r2 (hdv _ _))
  have lm : (ds ++ (zs ++ dv)).length = m := by
    rw [List.length_append, List.length_append, hn, hm, h4, ← (hdv H2 (Mo M0 ρ σ)).length]
  have na : H2 (s2.heap.objs.size + 1) = none := I2.hok.fresh (Nat.le_succ _)
  have ndx : H2 s2.heap.objs.size = none := I2.hok.fresh (Nat.le_refl _)
  have I3 := Inv.made (C := C) I2
  have ru' : Vals (V.ref (s2.heap.objs.size + 1) :: vs) (Value.ref (s2.heap.objs.size + 1) :: us) := .cons rfl ru
  have all := hb.rel ru' rz
  have ex1 : Ex H2 (upd (upd H2 s2.heap.objs.size (.own (s2.heap.objs.size + 1))) (s2.heap.objs.size + 1) (.ins C s2.heap.objs.size [])) := fun b o hb => by
    rw [upd_ne (ne_of_none hb na), upd_ne (ne_of_none hb ndx)]; exact hb
  have ma : ¬ Mo M0 ρ σ (s2.heap.objs.size + 1) := fun m => ((E.ext e1).ext e2).dom _ m na
  have goal : spI X.K C m S (V.ref (s2.heap.objs.size + 1) :: (vs ++ (ws' ++ dz))) (upd (upd H2 s2.heap.objs.size (.own (s2.heap.objs.size + 1))) (s2.heap.objs.size + 1) (.ins C s2.heap.objs.size [])) (fun v H3 => v = .non ∧ Q (.ref (s2.heap.objs.size + 1)) H3) fun cls dd H' => W cls dd σ H' := by
    refine ⟨H2, Mo M0 ρ σ, ds ++ (zs ++ dv), r, s2.heap.objs.size + 1, s2.heap.objs.size, vs ++ (ws' ++ dz), rfl, na, ex1, upd_same, ((E.ext e1).ext e2).domN, rAll, lm, hS, ?_⟩
    cases r with
    | ok d =>
      obtain ⟨fs, rfl⟩ := hob d rfl
      refine fun H' e3 hO => ⟨rfl, q _ H' ((e1.trans e2).trans e3) ?_⟩
      obtain ⟨dx', vs', h, rf⟩ := hO
      exact ⟨_, dx', vs', rfl, ma, h, RpF.le (Le.sub fun b m => .inl m) _ _ rf⟩
    | er c fs => exact fun cls dd H' e3 r3 => q cls dd H' ((e1.trans e2).trans e3) r3
  refine wpAny_call (make_map (f := f) I2.kIn M.makes M.init (beq_iff_eq.mp M.fn) (codeAny_mono (h5.run _ X.stack _ _ ⟨Value.ref (s2.heap.objs.size + 1) :: us, ks.zip ws⟩ (g (Value.ref (s2.heap.objs.size + 1) :: us) ws) (V.ref (s2.heap.objs.size + 1) :: (vs ++ (ws' ++ dz))) _ _ (hr.make C us (ks.zip ws)) (I3.env0.make C us (ks.zip ws)) (hb.to _ _ ws I3.kIn (by rw [List.length_cons, lu]) lw) all goal) fun rr s' hq' => ?_))
  cases rr with
  | error e => exact passAt tk σ pins _ _ e s' I3 hq'
  | ok fl =>
    cases fl with
    | ret u =>
      obtain ⟨v, H', I4, rv, ev, q3⟩ := I3.after hq'
      subst ev
      exact ⟨rv, ⟨V.ref _, H', I4, rfl, q3⟩⟩
    | next => exact hq'.elim
    | brk => exact hq'.elim
    | cont => exact hq'.elim
end
section
variable {P : Program} {w : World} {K : PySem.W.Frag} {mg : Str → Option Value} {base : Heap}
theorem fnik_of {qual : Str} {params : Arguments} {sts : List Stmt} {scope : Scope} {kws : List (Str × V)} {f C : Addr} {fd : FuncData} {N ps : List Str} {self : Str} {k : Nat} {S : List D → Res → Prop} (F : FunD K "__init__" qual params sts scope [] kws f fd) (sc : FnScope N (self :: ps) scope) (hlen : ps.length + 1 ≤ N.length)
    (body : ∀ (cdv : Value) (A : Around) (outer : List Env) (s : Shared) (H : Hp) (E : XK) (ds : List D) (r : Res) (a : Addr), Room k (A.deeper (envOfC qual scope s.heap.objs.size f cdv)) → ds.length = ps.length → S ds r →
      SDs (cxOf (L2.CX P w) P w K mg base N qual scope f cdv A outer s H E) (fun cls d _ H => E cls d H) (.own (.me a C []) :: (ds.map SD.val ++ List.replicate (N.length - (ds.length + 1)) .no)) sts
        { nx := fun ρ' => ∃ fs, ρ'[0]? = some (.own (.me a C fs)) ∧ r = .ok (.obj C fs), rt := fun _ _ => False, ex := fun _ c fs => r = .er c fs }) :
    FnOk P w K mg base (L2.CX P w) (k + 1) f fd (self :: ps) (spI K C ps.length S) := by
  refine F.ok sc (fun vs H Q E h => ?_) (fun cdv A outer s H vs Q E hr h => ?_)
  · obtain ⟨Hb, M, ds, r, a, dx, us, rfl, _, _, _, _, h2, h3, _⟩ := h
    rw [List.length_cons, List.length_cons, h2.length]; exact congrArg (· + 1) h3
  · obtain ⟨Hb, M, ds, r, a, dx, us, rfl, na, ex0, ha, dm, h2, h3, h4, h5⟩ := h
    refine ⟨_, body cdv A outer s H E ds r a hr h3 h4, Hb, M, ?_, ?_, fun _ _ _ _ _ z => z.elim, fun _ _ _ z => z.elim, fun _ _ _ z => z.elim, ?_⟩
    · exact EnvOk.startI na ex0 ha dm h2 (by rw [h3]; exact hlen)
    · intro ρ' σ' H' ⟨fs, hf, hr'⟩ E'
      rw [hr'] at h5
      obtain ⟨a', h6, h7, dx', vs', h8, h9⟩ := E'.own 0 _ hf
      subst h7
      refine h5 H' E'.ex ⟨dx', vs', h8, RpF.le (Le.sub fun b m => ?_) _ _ h9⟩
      rcases m with m | m
      · exact .inl (.inl m)
      · exact .inr ⟨0, ⟨_, hf⟩, by rw [m]; exact h6⟩
    · intro ρ' c fs cls dd σ' H' hr' E' r'
      rw [hr'] at h5
      exact h5 cls dd H' E'.ex r'
theorem fik_of {k n : Nat} {x kn qual : Str} {b : Bool} {fd : FuncData} {f C : Addr} {ps : List Str} {params : Arguments} {body : List Stmt} {scope : Scope} {S : List D → Res → Prop} (F : FunD K "__init__" qual params body scope [] [(kn, .bl b)] f fd) (hg : mg x = some (.ref C)) (hM : Mk K C f) (hn : ps.length = n + 2)
    (h0 : ∀ (D : Addr) (doc pm : Value) (an : Option Addr) (cdv ct : Value) (us mv : List Value), us.length = n + 1 → mv.length = 1 → KwChain D (([(kn, V.bl b)].map (·.1)).zip mv) (bindArgs (PySem.W.fnOf "__init__" qual params body scope .none (.ref D) doc pm an cdv ct) ⟨us, []⟩) (ps.zip (us ++ mv)))
    (h1 : ∀ (D : Addr) (doc pm : Value) (an : Option Addr) (cdv ct : Value) (us ws : List Value), us.length = n + 1 → ws.length = 1 → KwChain D [] (bindArgs (PySem.W.fnOf "__init__" qual params body scope .none (.ref D) doc pm an cdv ct) ⟨us, [kn].zip ws⟩) (ps.zip (us ++ ws)))
    (hf : FnOk P w K mg base (L2.CX P w) k f fd ps (spI K C (n + 1) S)) : FIK P w K mg base k x C n [] [.bl b] [.bl b] S ∧ FIK P w K mg base k x C n [kn] [] [] S := by
  have rel : ∀ {vs mz zs : List V} {us mv ws : List Value}, Vals vs us → Vals mz mv → Vals zs ws → Vals (vs ++ (zs ++ mz)) (us ++ (ws ++ mv)) := fun r1 r2 r3 => r1.append (r3.append r2)
  obtain ⟨mv0, b0⟩ := F.kbinds0 (ps := ps) (n + 1) [] [(kn, .bl b)] (fun us mv ws => us ++ (ws ++ mv)) (by simp) (fun q h => h) rel (fun D doc pm an cdv ct us mv ws l1 l2 l3 => by
    obtain rfl := List.eq_nil_of_length_eq_zero l3
    exact h0 D doc pm an cdv ct us mv l1 l2)
  obtain ⟨mv1, b1⟩ := F.kbinds0 (ps := ps) (n + 1) [kn] [] (fun us mv ws => us ++ (ws ++ mv)) (by simp) (fun q h => nomatch h) rel (fun D doc pm an cdv ct us mv ws l1 l2 l3 => by
    obtain rfl := List.eq_nil_of_length_eq_zero l2
    rw [List.append_nil]
    exact h1 D doc pm an cdv ct us ws l1 l3)
  exact ⟨⟨hg, ⟨f, fd, ps, n + 1, _, hM, b0, rfl, hf⟩, fun H M => ⟨_, _, rfl, rfl, rfl⟩⟩, ⟨hg, ⟨f, fd, ps, n + 1, _, hM, b1, rfl, hf⟩, fun H M => rfl⟩⟩
end
section
variable {X : Cx} {W : WX} {ρ : List SD} {e : Expr} {rest : List Stmt} {R : Po} {pos pos' : Pos} {x : Str} {a b : Int}
/-- x += e, ints -/
theorem sds_aug (i : Nat) (hρ : ρ[i]? = some (.val (.int a))) (he : ED X ρ e (.int b)) (hN : X.N.Nodup) (hi : X.N[i]? = some x) (hx : Loc X.env.scope x) (h : SDs X W (ρ.set i (.val (.int (a + b)))) rest R)
    (hf : X.fn x = true ∨ X.env.scope.names.lookup x = some .local := by first | exact .inl rfl | exact .inr rfl | assumption) : SDs X W ρ (.AugAssign (.Name x pos') .Add e pos :: rest) R :=
  sds_cons (R1 := fun ρ1 => ρ1 = ρ.set i (.val (.int (a + b)))) (ps_w (ps_aug hN hi hx he ip_add hf) fun Dn σ H ⟨H0, M0, E, q1, _⟩ => by
    obtain ⟨v, e1, rv⟩ := E.val i _ hρ
    have ev : v = .int a := rv
    subst ev
    refine ⟨_, e1, H0, M0, E, fun y H1 ex r1 => ?_⟩
    have ey : y = .int b := r1
    subst ey
    have hl : i < ρ.length := (List.getElem?_eq_some_iff.mp hρ).1
    exact ⟨a, b, rfl, rfl, q1 _ _ _ rfl ((E.ext ex).set (by rw [← E.len]; exact hl) rfl)⟩) fun _ z => by rw [z]; exact h
end
section
variable {X : Cx} {ρ : List SD} {e : Expr} {α : Type} {f : α → D} {xs : List α} {lo hi : Option Int}
/-- a piece of a list that is made over data -/
theorem ed_cut (h : ED X ρ e (.tup (RW.cut (xs.map f) lo hi))) : ED X ρ e (.tup ((RW.cut xs lo hi).map f)) := by rw [← cut_map]; exact h
theorem ed_cutL (h : ED X ρ e (.lst (RW.cut (xs.map f) lo hi))) : ED X ρ e (.lst ((RW.cut xs lo hi).map f)) := by rw [← cut_map]; exact h
end
/-! a tuple times one: the tuple itself -/
theorem tuple_once (l : Addr) (its : Array Value) (n : Nat) (dd : Option Addr) (sl : Array (Option Value)) (u : Tok) :
    Meets (Builtin.«tuple.__mul__» ⟨[.ref l, .int 1 u], []⟩) (fun _ R s => s.heap.get? l = some { cls := .type "tuple", dict := dd, data := .seq its n, slots := sl } ∧ R (.ok (.ret (.ref l))) s) :=
  .of_wp fun prog w A R s ⟨hl, h⟩ => by
    obtain ⟨hp, g, d, tk, os⟩ := s
    have ix := AutoSeq1.idx_int
    wp_walk using wpAny_loadPart' hl
    exact ⟨_, rfl, h⟩
def rOnceT (K : PySem.W.Frag) : R2 := fun x y H Q => ∃ l xs, x = .ref l ∧ y = .int 1 ∧ SqT K H l xs ∧ Q (.ref l) H
theorem op_once {X : Cx} : OpR X (binaryOp .Mult) (rOnceT X.K) := by
  intro pins s σ H x y v u Q I rx ry h
  obtain ⟨l, xs, rfl, rfl, hT, q⟩ := h
  cases rx
  obtain ⟨t, rfl⟩ := ry
  obtain ⟨its, r, ⟨⟨cls, dd, data, sl⟩, ho, hc, n, hd⟩, _⟩ := I.tuple hT
  dsimp only at hc hd
  subst hc hd
  exact wpAny_binaryOp_repeat_ref (T := "tuple") (U := "int") (by decide) ⟨_, ho, rfl⟩ (fun z => typeIs_int z 1 t) noFill_tuple_mul F.fills_int_mul F.slot_int_rmul repeat_tuple F.slot_int_index.lookup
    (call_meets F.slot_int_rmul (typeIs_int s 1 t) F.entry_int_rmul (F.args_int_rmul_2 _ _) (int_rmul_tuple 1 t l its.toArray n dd sl)
      ⟨ho, rfl, ⟨_, ho, rfl⟩, call_meets F.slot_tuple_mul ⟨_, ho, rfl⟩ F.entry_tuple_mul (F.args_tuple_mul_2 _ _) (tuple_once l its.toArray n dd sl t) ⟨ho, ⟨.ref l, H, I, rfl, q⟩⟩⟩)
theorem opd_once {X : Cx} {ds : List D} : OpD X (binaryOp .Mult) (.tup ds) (.int 1) (.tup ds) := ⟨_, op_once, fun H M u v dm rx ry Q q => by
  obtain ⟨a, xs, rfl, ta, rx⟩ := rx
  exact ⟨a, xs, rfl, ry, ta.sq, q _ H (Ex.refl H) ⟨a, xs, rfl, ta, rx⟩⟩⟩
theorem opd_repT1 {X : Cx} {ds : List D} {k : Int} (h : (1 ≤ k ∧ k ≤ 1000) ∧ ds.length ≤ 1000) (hn : ds ≠ []) : OpD X (binaryOp .Mult) (.tup ds) (.int k) (.tup (List.replicate k.toNat ds).flatten) := by
  by_cases z : k = 1
  · subst z
    have e : (List.replicate (Int.toNat 1) ds).flatten = ds := by show (ds ++ []) = ds; exact List.append_nil ds
    rw [e]
    exact opd_once
  · exact opd_repT ⟨⟨by omega, h.1.2⟩, h.2⟩ hn
end RW

end
section
/-! a list times a number; list + list as a new object -/
namespace RW
open PySem PySem.Spec PyProof.Rows L2
theorem opd_repL {X : Cx} {ds : List D} {k : Int} (h : (0 ≤ k ∧ k ≤ 1000) ∧ ds.length ≤ 1000) : OpD X (binaryOp .Mult) (.lst ds) (.int k) (.lst (List.replicate k.toNat ds).flatten) := ⟨_, op_rep, fun H M u v dm rx ry Q q => by
  obtain ⟨a, xs, rfl, ma, ta, rx⟩ := rx
  have ey : v = .int k := ry
  have hb : xs.length * k.toNat ≤ 1000 * 1000 := Nat.mul_le_mul (by rw [rx.length]; exact h.2) (by omega)
  refine ⟨a, k, xs, rfl, ey, ta, by omega, by omega, Nat.le_trans hb (by decide), fun p np => q _ _ (Ex.new np) ⟨p, _, rfl, fun m => dm p m np, upd_same, Rps.le (Le.ex (Ex.new np)) _ _ ?_⟩⟩
  generalize k.toNat = n
  induction n with
  | zero => exact rfl
  | succ n ih => rw [List.replicate_succ, List.replicate_succ, List.flatten_cons, List.flatten_cons]; exact Rps.append rx ih⟩
theorem eo_cat {X : Cx} {ρ : List SD} {a b : Expr} {ds es : List D} {pos : Pos} (ha : ED X ρ a (.lst ds)) (hb : ED X ρ b (.lst es)) (h : ds.length + es.length ≤ 1000000) : EO X ρ (.BinOp a .Add b pos) (.lst (ds ++ es)) :=
  pe_w (pe_op op_cat ha hb) fun σ H Q ⟨H0, M0, E, q⟩ => t2 (ra := fun _ _ _ => True) (rb := fun _ _ _ => True) E fun x y H' e rx ry => by
    obtain ⟨a, xs, rfl, ma, ta, rx⟩ := rx
    obtain ⟨b, ys, rfl, mb, tb, ry⟩ := ry
    exact ⟨a, b, xs, ys, rfl, rfl, ta, tb, by rw [rx.length, ry.length]; exact Nat.le_trans h (by decide), fun p np => q p _ (e.back np) (e.trans (Ex.new np)) (OwnAt.new_lst np (Rps.append rx ry))⟩
/-- list(range(a, b)) -/
theorem eo_listR2 {X : Cx} {ρ : List SD} {e e2 : Expr} {lo n : Int} {p p2 pos pos2 : Pos} (hc : X.calm = true) (hg : Gl X "list") (hm : X.mg "list" = none) (hg2 : Gl X "range") (hm2 : X.mg "range" = none) (h : ED X ρ e (.int lo)) (h' : ED X ρ e2 (.int n)) (hn : (0 ≤ lo ∧ lo ≤ 100000) ∧ 0 ≤ n ∧ n ≤ 100000)
    (na : starEach [e, e2] X.env = (false, eval e X.env) :: starEach [e2] X.env := by rfl) (nb : starEach [e2] X.env = (false, eval e2 X.env) :: starEach [] X.env := by rfl) (hp : (backTo pos2 (starEach [e2] X.env)).any (·.1) = false := by rfl)
    (na2 : starEach [.Call (.Name "range" p2) [e, e2] [] pos2] X.env = (false, eval (.Call (.Name "range" p2) [e, e2] [] pos2) X.env) :: starEach [] X.env := by rfl) :
    EO X ρ (.Call (.Name "list" p) [.Call (.Name "range" p2) [e, e2] [] pos2] [] pos) (.lst ((rng lo (n - lo).toNat).map .int)) :=
  pe_w (pe_listRg hc hg hm (prg_2 hg2 hm2 h h' na nb hp) na2) fun σ H Q ⟨H0, M0, E, q⟩ => t2 (ra := fun _ _ _ => True) (rb := fun _ _ _ => True) E fun x y H1 e1 rx ry => ⟨lo, n, rx, ry, RgOk.of_le (by omega) (by omega) (by omega) (by omega), fun a na => q a _ (e1.back na) (e1.trans (Ex.new na)) (OwnAt.new_lst na (by
    have : rgV lo n = (rng lo (n - lo).toNat).map V.int := by
      unfold rgV rng
      rw [List.map_map]
      rfl
    rw [this]
    exact rps_ints _))⟩
end RW

end
section
/-! s.endswith(t) -/
namespace RW
open PySem PySem.Spec PyProof.Rows L2
section
variable {X : Cx} {ρ : List SD}
/-- s.endswith(t) -/
theorem ed_ends {a b : Expr} {s t : Str} {apos cpos : Pos} (ha : ED X ρ a (.str s)) (hb : ED X ρ b (.str t)) (hbase : attributeBase a ("endswith" : Str) X.env (eval a X.env) = eval a X.env := by rfl)
    (hfew : ((backTo cpos (starEach (b :: []) X.env)).all (fun x => !x.1) && (backToKw cpos (keywordEach [] X.env)).all (fun x => x.1.isSome)
      && decide ((b :: []).length + ([] : List Keyword).length + (if ([] : List Keyword).isEmpty then 0 else 1) < 30)) = true := by rfl)
    (hline : (apos.endLine == cpos.line) = true := by rfl) (hs0 : starEach (b :: []) X.env = (false, eval b X.env) :: starEach [] X.env := by rfl) (hplain : (backTo cpos (starEach [] X.env)).any (·.1) = false := by rfl) :
    ED X ρ (.Call (.Attribute a ("endswith" : Str) apos) [b] [] cpos) (.bl (Txt.endswith s t)) :=
  pe_w (pe_bm PySem.F.plainAttrs_str PySem.F.slot_str_endswith PySem.F.type_str_endswith mt_endswith ha (pa_cons hb pa_nil hs0) hbase hfew hline hs0 hplain) fun σ H Q ⟨H0, M0, E, q⟩ =>
    ⟨H0, M0, E, fun v H1 e1 r1 => by
      obtain rfl : v = .str s := r1
      exact ⟨rfl, H0, M0, E.ext e1, fun u H2 e2 r2 => by
        obtain rfl : u = .str t := r2
        exact ⟨s, t, rfl, rfl, q _ H2 (e1.trans e2) rfl⟩⟩⟩
end
end RW

end
section
/-! list(enumerate(v)) -/
namespace RW
open PySem PySem.Spec PyProof.Rows L2
section
variable {prog : Program} {w : World} {A : Around} {E : Value → Shared → Prop} {s : Shared}
/-- the next pair while the last one is still out -/
theorem enum_held_next {e it T : Addr} {fp : List Addr} {n i : Nat} {c : Int} {P : Nat → Value → Prop} {St : Nat → Heap → Prop} {old : Value} {f : Bool} {oT : Obj} {Q : Value → Shared → Prop}
    (D : Draws prog w A it fp n P St) (he : IsEnumHeld s.heap e it c old T f) (hT : s.heap.get? T = some oT) (hTe : T ≠ e) (hTi : T ≠ it) (hst : St i s.heap) (hlt : i < n) (hne : e ≠ it) (hef : e ∉ fp)
    (hQ : ∀ x h' tk, P i x → IsEnumHeld h' e it (c + 1) old T true → St (i + 1) h' →
      h'.get? s.heap.objs.size = some { cls := .type "tuple", data := .seq #[.int c tk, x] } →
      (∀ b o, b ≠ e → b ≠ it → s.heap.get? b = some o → h'.get? b = some o) → Q (.ref s.heap.objs.size) { s with heap := h', toks := tk + 1 }) :
    wpAny (model prog w) A (Builtin.«enumerate.__next__» ⟨[.ref e], []⟩) (fun fin s' => ∃ v, fin = .done (.ret v) ∧ Q v s') E s := by
  obtain ⟨hp, g, d, tk₀, os⟩ := s
  show wpAny _ _ (field (.ref e) 2 >>= _) _ _ _
  refine wpAny_bind (wpAny_field he rfl (x := .ref it) rfl ?_)
  refine wpAny_bind (D.item i _ _ _ hlt hst fun x g1 tk px st1 m1 => ?_)
  replace m1 : Heap.SameBut it hp g1 := m1
  have e1 : IsEnumHeld g1 e it c old T f := (m1.2 e hne).trans he
  show wpAny _ _ (field (.ref e) 3 >>= _) _ _ ⟨g1, g, d, tk, os⟩
  refine wpAny_bind (wpAny_field e1 rfl (x := rawInt c) rfl ?_)
  show wpAny _ _ (field (.ref e) 4 >>= _) _ _ ⟨g1, g, d, tk, os⟩
  refine wpAny_bind (wpAny_field e1 rfl (x := .none) rfl ?_)
  show wpAny _ _ (mkInt c >>= _) _ _ ⟨g1, g, d, tk, os⟩
  refine wpAny_bind (wpAny_mkInt ?_)
  show wpAny _ _ (setField (.ref e) 3 (rawInt (c + 1)) >>= _) _ _ ⟨g1, g, d, tk + 1, os⟩
  refine wpAny_bind (wpAny_setField_rec e1 (by simp) fun g2 e2 m2 => ?_)
  replace m2 : Heap.SameBut e g1 g2 := m2
  replace e2 : IsEnumHeld g2 e it (c + 1) old T f := e2
  show wpAny _ _ (setField (.ref e) 4 .none >>= _) _ _ ⟨g2, g, d, tk + 1, os⟩
  refine wpAny_bind (wpAny_setField_rec e2 (by simp) fun g3 e3 m3 => ?_)
  replace m3 : Heap.SameBut e g2 g3 := m3
  replace e3 : IsEnumHeld g3 e it (c + 1) old T f := e3
  show wpAny _ _ (newTuple [.int c tk, x] >>= _) _ _ ⟨g3, g, d, tk + 1, os⟩
  refine wpAny_bind (wpAny_newTuple ?_)
  have e4 : IsEnumHeld (g3.push { cls := .type "tuple", data := .seq #[.int c tk, x] }) e it (c + 1) old T f := Heap.get?_push_of_some _ e3
  generalize eg : g3.push { cls := .type "tuple", data := .seq #[.int c tk, x] } = g4 at e4
  have sz : g3.objs.size = hp.objs.size := by rw [m3.1, m2.1, m1.1]
  have el : e < hp.objs.size := Heap.lt_size he
  have t4 : g4.get? hp.objs.size = some { cls := .type "tuple", data := .seq #[.int c tk, x] } := by rw [← eg, ← sz]; exact Heap.get?_push_size _ rfl
  have k4 : ∀ b o, b ≠ e → b ≠ it → hp.get? b = some o → g4.get? b = some o := fun b o be bi hb => by
    rw [← eg]; exact Heap.get?_push_of_some _ (m3.extBut b o be (m2.extBut b o be (m1.extBut b o bi hb)))
  have s4 : St (i + 1) g4 := D.frame _ _ _ st1 fun b hb o y => by
    have be : b ≠ e := fun q => hef (q ▸ hb)
    rw [← eg]; exact Heap.get?_push_of_some _ (m3.extBut b o be (m2.extBut b o be y))
  show wpAny _ _ (Builtin.SmallTypes.ownedTupleIsFree (.ref e) >>= _) _ _ ⟨g4, g, d, tk + 1, os⟩
  rw [sz]
  refine wpAny_bind (wpAny_tupleHeld_enum (s := ⟨g4, g, d, tk + 1, os⟩) e4 (k4 T oT hTe hTi hT) fun g5 e5 m5 => ?_)
  replace m5 : Heap.SameBut e g4 g5 := m5
  simp only [Bool.false_eq_true, if_false]
  refine wpAny_pure ⟨_, rfl, hQ x g5 tk px e5 (D.frame _ _ _ s4 fun b hb o y => m5.extBut b o (fun q => hef (q ▸ hb)) y) (m5.extBut _ _ (Nat.ne_of_gt el) t4) fun b o be bi hb => m5.extBut b o be (k4 b o be bi hb)⟩
/-- an enumerate, asked for anything or not -/
def EnA (h : Heap) (e it S : Addr) (i : Int) : Prop := (∃ old, IsEnum h e it i old) ∨ ∃ old T f oT, IsEnumHeld h e it i old T f ∧ h.get? T = some oT ∧ T ≠ e ∧ T ≠ it ∧ T ≠ S
theorem EnA.obj {h : Heap} {e it S : Addr} {i : Int} (x : EnA h e it S i) : ∃ o, h.get? e = some o ∧ o.cls = .type "enumerate" := by
  rcases x with ⟨_, q⟩ | ⟨_, _, _, _, q, _⟩
  · exact ⟨_, q, rfl⟩
  · exact ⟨_, q, rfl⟩
theorem EnA.at {h h' : Heap} {e it S : Addr} {i : Int} (x : EnA h e it S i) (k : ∀ b o, b ≠ S → h.get? b = some o → h'.get? b = some o) (ne : e ≠ S) : EnA h' e it S i := by
  rcases x with ⟨old, q⟩ | ⟨old, T, f, oT, q, z, a, b, c⟩
  · exact .inl ⟨old, k _ _ ne q⟩
  · exact .inr ⟨old, T, f, oT, k _ _ ne q, k _ _ c z, a, b, c⟩
theorem next_enA {e it S : Addr} {fp : List Addr} {n i : Nat} {P : Nat → Value → Prop} {St : Nat → Heap → Prop} {Q : Option Value → Shared → Prop}
    (D : Draws prog w A.in1 it fp n P St) (he : EnA s.heap e it S i) (hst : St i s.heap) (hlt : i < n) (hne : e ≠ it) (hef : e ∉ fp) (hS : S < s.heap.objs.size)
    (hQ : ∀ x h' tk, P i x → EnA h' e it S ((i : Int) + 1) → St (i + 1) h' →
      h'.get? s.heap.objs.size = some { cls := .type "tuple", data := .seq #[.int (i : Int) tk, x] } →
      (∀ b o, b ≠ e → b ≠ it → s.heap.get? b = some o → h'.get? b = some o) → Q (some (.ref s.heap.objs.size)) { s with heap := h', toks := tk + 1 }) :
    wpAny (model prog w) A (pyNext (.ref e)) Q E s := by
  rcases he with ⟨old, he⟩ | ⟨old, T, f, oT, he, hT, t1, t2, t3⟩
  · have l1 := Heap.lt_size he
    have l2 : it < s.heap.objs.size := by obtain ⟨_, y⟩ := D.live _ _ hst; exact Heap.lt_size y
    exact wpAny_pyNext_enum_itemC D he hst hlt hne hef fun x h' tk px eo st ht _ k => hQ x h' tk px (.inr ⟨x, _, false, _, eo, ht, Nat.ne_of_gt l1, Nat.ne_of_gt l2, Nat.ne_of_gt hS⟩) st ht k
  · have ty : s.TypeIs (.ref e) "enumerate" := ⟨_, he, rfl⟩
    unfold pyNext
    exact wpAny_bind (wpAny_attempt (wpAny_callSpecial?_slot (name := Str.ofString "__next__") ty F.slot_enumerate_next
      (wpAny_call_entry F.slot_enumerate_next ty F.entry_enumerate_next
        (enum_held_next D he hT t1 t2 hst hlt hne hef fun x h' tk px eo st ht k => wpAny_pure (hQ x h' tk px (.inr ⟨old, T, true, oT, eo, k _ _ t1 t2 hT, t1, t2, t3⟩) st ht k)) (F.args_enumerate_next_1 _))))
theorem done_enA {e it S : Addr} {fp : List Addr} {n : Nat} {i : Int} {P : Nat → Value → Prop} {St : Nat → Heap → Prop} {Q : Option Value → Shared → Prop}
    (D : Draws prog w A.in1 it fp n P St) (he : EnA s.heap e it S i) (hst : St n s.heap)
    (hQ : ∀ h', Heap.ExtBut it s.heap h' → Q none { s with heap := h' }) : wpAny (model prog w) A (pyNext (.ref e)) Q E s := by
  rcases he with ⟨old, he⟩ | ⟨old, T, f, oT, he, hT, t1, t2, t3⟩
  · exact wpAny_pyNext_enum_endD D he hst hQ
  · have ty : s.TypeIs (.ref e) "enumerate" := ⟨_, he, rfl⟩
    unfold pyNext
    refine wpAny_bind (wpAny_attempt (wpAny_callSpecial?_slot (name := Str.ofString "__next__") ty F.slot_enumerate_next
      (wpAny_call_entry F.slot_enumerate_next ty F.entry_enumerate_next ?_ (F.args_enumerate_next_1 _))))
    show wpAny _ _ (field (.ref e) 2 >>= _) _ _ _
    refine wpAny_bind (wpAny_field he rfl (x := .ref it) rfl ?_)
    refine wpAny_bind (D.done _ _ _ hst fun h' x ex hx => ?_)
    obtain ⟨o, ho, hc⟩ := hx
    exact wpAny_bind (wpAny_isInstance (T := "StopIteration") (b := true) ⟨o, ho, hc⟩ isSubtype_stop (wpAny_pure (hQ _ ex)))
end
theorem HsK.at {t : Bool} {h h' : Heap} {a : Addr} {its : Array Value} (x : HsK t h a its) (k : ∀ o, h.get? a = some o → h'.get? a = some o) : HsK t h' a its := by
  cases t with
  | true => obtain ⟨o, e, r⟩ := x; exact ⟨o, k o e, r⟩
  | false => obtain ⟨o, e, r⟩ := x; exact ⟨o, k o e, r⟩
/-- the pairs that stand in a heap -/
def Ens (H0 H : Hp) (xs Ts : List V) : Prop := Ts.length = xs.length ∧ ∀ (j : Nat) (x : V), xs[j]? = some x → ∃ T, Ts[j]? = some (.ref T) ∧ H T = some (.tup [.int (j : Int), x]) ∧ H0 T = none
def lstObj (acc : Array Value) (c : Nat) : Obj := { cls := .type "list", dict := none, data := .seq acc c, slots := #[] }
theorem ext_loopE {X : Cx} {pins : List (Addr × Obj)} {σ : L2.St} {A : Around} {R : Result → Shared → Prop} {H0 : Hp} (hh : A.handled = none) (t : Bool) {a e it S : Addr} {xs : List V} {its : List Value} {res : Value} (rv : Vals xs its) (hn : its.length ≤ sizeLine) (n1 : e ≠ it) (n2 : a ≠ e) (n3 : a ≠ it) (n4 : S ≠ e) (n5 : S ≠ it) (n6 : S ≠ a) :
    ∀ (k i : Nat) (s : Shared) (H : Hp) (acc : Array Value) (c : Nat) (Ts : List V), xs.length = i + k → Inv X pins σ H s → (∀ b ∈ [e, it, S], FpOk X pins H b) → HsK t s.heap a its.toArray → EnA s.heap e it S i → ItK t s.heap it a i →
      s.heap.get? S = some (lstObj acc c) → Ens H0 H (xs.take i) Ts → Ex H0 H → Vals Ts acc.toList →
      (∀ s' H' acc' c' Ts', Inv X pins σ H' s' → Ex H H' → FpOk X pins H' S → s'.heap.get? S = some (lstObj acc' c') → Ens H0 H' xs Ts' → Vals Ts' acc'.toList → R (.ok (.ret res)) s') →
      codeAny (model X.prog X.w) A (.builtin "list.extend.loop" ⟨[.ref S, .ref e, res], []⟩) R s := by
  have nl : xs.length = its.length := rv.length
  intro k
  induction k with
  | zero =>
    intro i s H acc c Ts hk I hf hs he hi hS hE h0 hV hR
    have D := drawsK (prog := X.prog) (w := X.w) (A := A.in1.in1) hh t it a n3 its.toArray
    have ei : i = its.toArray.size := by rw [List.size_toArray, ← nl, hk]; rfl
    subst ei
    refine codeAny_builtin F.entry_extend_loop ?_
    rw [Around.under_plainId F.plain_extend_loop _]
    show wpAny _ A.in1 (pyNext (.ref e) >>= _) _ _ s
    refine wpAny_bind (done_enA D he ⟨hi, hs⟩ fun h' k1 => ?_)
    have I1 : Inv X pins σ H { s with heap := h' } := I.turnedL (t' := s.toks) (ch := [it]) (fun b o nb q => k1 b o (fun z => nb (by simp [z])) q) fun b hb => hf b (by rw [List.mem_singleton.mp hb]; simp)
    refine wpAny_pure (hR _ H acc c Ts I1 (Ex.refl _) (hf S (by simp)) (k1 _ _ n5 hS) ?_ hV)
    rwa [List.take_of_length_le (by omega)] at hE
  | succ k ih =>
    intro i s H acc c Ts hk I hf hs he hi hS hE h0 hV hR
    have D := drawsK (prog := X.prog) (w := X.w) (A := A.in1.in1) hh t it a n3 its.toArray
    have hlt : i < its.toArray.size := by rw [List.size_toArray, ← nl]; omega
    have lS := Heap.lt_size hS
    have le : e < s.heap.objs.size := by obtain ⟨o, q, _⟩ := he.obj; exact Heap.lt_size q
    have li : it < s.heap.objs.size := by obtain ⟨o, q, _⟩ := hi.cls; exact Heap.lt_size q
    refine codeAny_builtin F.entry_extend_loop ?_
    rw [Around.under_plainId F.plain_extend_loop _]
    show wpAny _ A.in1 (pyNext (.ref e) >>= _) _ _ s
    refine wpAny_bind (next_enA D he ⟨hi, hs⟩ hlt n1 (by simp [n1, Ne.symm n2]) lS fun u h1 tk hu he1 st1 ht k1 => ?_)
    obtain ⟨x, hx⟩ : ∃ x, xs[i]? = some x := ⟨_, List.getElem?_eq_getElem (by omega)⟩
    have rx : RelV x u := val_at rv hx hu
    have I1 : Inv X pins σ (upd H s.heap.objs.size (.tup [.int (i : Nat), x])) { s with heap := h1, toks := tk + 1 } :=
      pair_laid (ch := [e, it]) I (fun b o nb q => k1 b o (fun z => nb (by simp [z])) (fun z => nb (by simp [z])) q) (fun b hb => hf b (List.mem_append_left [S] hb)) (Nat.le_refl _) ⟨tk, rfl⟩ rx ⟨_, ht, rfl, _, rfl⟩
    have fr := I.hok.fresh (Nat.le_refl s.heap.objs.size)
    have ex1 : Ex H (upd H s.heap.objs.size (.tup [.int (i : Nat), x])) := Ex.new fr
    have hf1 : ∀ b ∈ [e, it, S], FpOk X pins (upd H s.heap.objs.size (.tup [.int (i : Nat), x])) b := fun b hb => by
      have q := hf b hb
      refine ⟨?_, q.2⟩
      have nb : b ≠ s.heap.objs.size := by
        rcases List.mem_cons.mp hb with z | hb
        · rw [z]; exact Nat.ne_of_lt le
        · rcases List.mem_cons.mp hb with z | hb
          · rw [z]; exact Nat.ne_of_lt li
          · rw [List.mem_singleton.mp hb]; exact Nat.ne_of_lt lS
      rw [upd_ne nb]
      exact q.1
    have hS1 : h1.get? S = some (lstObj acc c) := k1 _ _ n4 n5 hS
    have kS : ∀ b o, b ≠ S → h1.get? b = some o → (h1.update S (Obj.mapSeq (·.push (.ref s.heap.objs.size)))).get? b = some o := fun b o nb q => (Heap.get?_update_other _ _ (Ne.symm nb)).trans q
    have az : acc.size = i := by
      have v1 : acc.size = Ts.length := Array.length_toList.symm.trans hV.length.symm
      have v2 : Ts.length = min i xs.length := hE.1.trans (List.length_take ..)
      rw [v1, v2]
      exact Nat.min_eq_left (by omega)
    show wpAny _ A.in1 (updateSeq S (·.push (.ref s.heap.objs.size)) >>= _) _ _ _
    refine wpAny_bind (wpAny_updateSeq hS1 rfl (wpAny_pure ⟨plainId_quiet F.plain_extend_loop _, ih (i + 1) _ (upd H s.heap.objs.size (.tup [.int (i : Nat), x])) (acc.push (.ref s.heap.objs.size)) _ (Ts ++ [.ref s.heap.objs.size]) (by omega) (I1.turnedL (t' := tk + 1) (ch := [S]) (fun b o nb q => kS b o (fun z => nb (by simp [z])) q) fun b hb => hf1 b (by rw [List.mem_singleton.mp hb]; simp)) hf1
      (st1.2.at fun o q => kS _ o (Ne.symm n6) q) (by
        have q := he1.at kS (Ne.symm n4)
        rw [show ((i + 1 : Nat) : Int) = (i : Int) + 1 by omega]
        exact q) (st1.1.at fun o q => kS _ o (Ne.symm n5) q) (Heap.get?_update_self _ hS1 rfl) ?_ (h0.trans ex1) ?_ fun s' H' acc' c' Ts' I' e' f' g' E' V' => hR s' H' acc' c' Ts' I' (ex1.trans e') f' g' E' V'⟩)
      (by rw [az]; rw [List.size_toArray] at hlt; omega) (by show (acc.push _).size ≤ sizeLine + 1; rw [Array.size_push, az]; rw [List.size_toArray] at hlt; omega))
    · have l0 : Ts.length = i := by rw [hE.1, List.length_take]; omega
      refine ⟨by rw [List.length_append, l0, List.length_take]; show i + 1 = _; omega, fun j y hy => ?_⟩
      rw [List.getElem?_take] at hy
      split at hy
      · rename_i hj
        by_cases z : j < i
        · obtain ⟨T, e1, e2, e3⟩ := hE.2 j y (by rw [List.getElem?_take, if_pos z]; exact hy)
          exact ⟨T, by rw [List.getElem?_append_left (by omega)]; exact e1, ex1 _ _ e2, e3⟩
        · have : j = i := by omega
          subst this
          rw [hx] at hy; cases hy
          exact ⟨_, by rw [List.getElem?_append_right (by omega), l0, Nat.sub_self]; rfl, upd_same, h0.back fr⟩
      · cases hy
    · rw [Array.toList_push]
      exact Vals.append hV (.cons rfl .nil)
theorem sq_size {X : Cx} {pins : List (Addr × Obj)} {σ : L2.St} {H : Hp} {s : Shared} {t : Bool} {a : Addr} {xs : List V} (I : Inv X pins σ H s) (q : SqK t X.K H a xs) : xs.length ≤ sizeLine := by
  cases t with
  | true => obtain ⟨its, r, p, z⟩ := I.tuple q; exact z
  | false => obtain ⟨its, r, p, z⟩ := I.list q; exact z
theorem enumerate_no_len : typeLookup (.type "enumerate") "__len__" = pure none := by rw [typeLookup_type, builtinLookup_eq_fast]; kernel_rfl
theorem enumerate_no_hint : typeLookup (.type "enumerate") "__length_hint__" = pure none := by rw [typeLookup_type, builtinLookup_eq_fast]; kernel_rfl
theorem init_listE {X : Cx} {pins : List (Addr × Obj)} {σ : L2.St} {A : Around} {R : Result → Shared → Prop} {s : Shared} {H : Hp} (hh : A.handled = none) (t : Bool) {a e it S : Addr} {xs : List V} {its : List Value} (rv : Vals xs its) (hn : its.length ≤ sizeLine) (n1 : e ≠ it) (n2 : a ≠ e) (n3 : a ≠ it) (n4 : S ≠ e) (n5 : S ≠ it) (n6 : S ≠ a)
    (I : Inv X pins σ H s) (hf : ∀ b ∈ [e, it, S], FpOk X pins H b) (hs : HsK t s.heap a its.toArray) (he : IsEnum s.heap e it 0 .none) (hi : ItK t s.heap it a 0) (hS : s.heap.get? S = some { cls := .type "list", data := .seq #[] })
    (hR : ∀ s' H' acc' c' Ts', Inv X pins σ H' s' → Ex H H' → FpOk X pins H' S → s'.heap.get? S = some (lstObj acc' c') → Ens H H' xs Ts' → Vals Ts' acc'.toList → R (.ok (.ret .none)) s') :
    wpAny (model X.prog X.w) A.in1 (Builtin.«list.__init__» ⟨[.ref S, .ref e], []⟩)
      (fun fin s' => match fin with | .done f => R (.ok f) s' | .again c' => c'.quiet = true ∧ codeAny (model X.prog X.w) A c' R s') (fun x s' => R (.error x) s') s := by
  show wpAny _ A.in1 (do let old ← Builtin.List.listItems (.ref S); Builtin.List.listUpdate (.ref S) (fun _ => #[]); letGo old.toList.reverse; Builtin.List.listExtendWith (.ref S) (.ref e) .none) _ _ s
  refine wpAny_bind ?_
  unfold Builtin.List.listItems
  refine wpAny_bind (wpAny_seqItems hS rfl (wpAny_pure ?_))
  show wpAny _ A.in1 (updateSeq S (fun _ => #[]) >>= fun _ => letGo (#[] : Array Value).toList.reverse >>= fun _ => Builtin.List.listExtendWith (.ref S) (.ref e) .none) _ _ s
  refine wpAny_bind (wpAny_updateSeq hS rfl ?_)
  have hS1 := Heap.get?_update_self (Obj.mapSeq (fun _ => (#[] : Array Value))) hS rfl
  have k1 : ∀ b o, b ≠ S → s.heap.get? b = some o → (s.heap.update S (Obj.mapSeq (fun _ => (#[] : Array Value)))).get? b = some o := fun b o nb q => (Heap.get?_update_other _ _ (Ne.symm nb)).trans q
  generalize eg : s.heap.update S (Obj.mapSeq (fun _ => (#[] : Array Value))) = g1 at hS1 k1
  refine wpAny_bind (wpAny_letGo ?_)
  have ty : ({ s with heap := g1 } : Shared).TypeIs (.ref e) "enumerate" := ⟨_, k1 _ _ (Ne.symm n4) he, rfl⟩
  show wpAny _ A.in1 (Builtin.List.listExtendWith (.ref S) (.ref e) .none) _ _ { s with heap := g1 }
  unfold Builtin.List.listExtendWith
  refine wpAny_bind (wpAny_typeOf ty ?_)
  have h1 : Builtin.List.listSameRef (.ref S) (.ref e) = false := by simp [Builtin.List.listSameRef, n4]
  have h2 : (Value.type "enumerate" == Value.type "list") = false := by decide
  have h3 : (Value.type "enumerate" == Value.type "tuple") = false := by decide
  simp only [h1, h2, h3, Bool.or_false, Bool.false_eq_true, if_false]
  refine wpAny_bind (wpAny_pyIter_enum (k1 _ _ (Ne.symm n4) he) ?_)
  refine wpAny_bind (wpAny_holding ?_)
  unfold Builtin.List.listLengthHint
  refine wpAny_bind (wpAny_specialOf ty enumerate_no_len ?_)
  show wpAny _ A.in1 (specialOf (Value.ref e) (Str.ofString "__length_hint__") >>= _) _ _ _
  refine wpAny_bind (wpAny_specialOf ty enumerate_no_hint ?_)
  refine wpAny_pure ?_
  show wpAny _ A.in1 (rule "list.extend.makes-room" >>= fun _ => Builtin.List.listTouch (.ref S) >>= fun _ =>
    again (.builtin "list.extend.loop" ⟨[.ref S, .ref e, .none], []⟩)) _ _ _
  refine wpAny_bind (wpAny_rule ?_)
  refine wpAny_bind ?_
  show wpAny _ A.in1 (updateSeq S (·.push .none) >>= fun _ => updateSeq S (·.pop)) _ _ _
  refine wpAny_bind (wpAny_updateSeq hS1 rfl ?_)
  have hS2 := Heap.get?_update_self (Obj.mapSeq (·.push Value.none)) hS1 rfl
  refine wpAny_updateSeq (hz := by seq_fits) hS2 rfl ?_
  have hS3 := Heap.get?_update_self (Obj.mapSeq (·.pop)) hS2 rfl
  have k3 : ∀ b o, b ≠ S → s.heap.get? b = some o → ((g1.update S (Obj.mapSeq (·.push Value.none))).update S (Obj.mapSeq (·.pop))).get? b = some o :=
    fun b o nb q => (Heap.get?_update_other _ _ (Ne.symm nb)).trans ((Heap.get?_update_other _ _ (Ne.symm nb)).trans (k1 b o nb q))
  have I3 : Inv X pins σ H { s with heap := (g1.update S (Obj.mapSeq (·.push Value.none))).update S (Obj.mapSeq (·.pop)) } := I.turnedL (t' := s.toks) (ch := [S]) (fun b o nb q => k3 b o (fun z => nb (by simp [z])) q) fun b hb => hf b (by rw [List.mem_singleton.mp hb]; simp)
  refine wpAny_pure ⟨plainId_quiet F.plain_extend_loop _, ext_loopE hh t rv hn n1 n2 n3 n4 n5 n6 xs.length 0 _ H _ _ [] (by omega) I3 hf
    (hs.at fun o q => k3 _ o (Ne.symm n6) q) (.inl ⟨.none, k3 _ _ (Ne.symm n4) he⟩) (hi.at fun o q => k3 _ o (Ne.symm n5) q) hS3 ⟨rfl, fun j x h => by simp at h⟩ (Ex.refl _) .nil hR⟩
theorem call_listE {X : Cx} {pins : List (Addr × Obj)} {σ : L2.St} {A : Around} {E : Value → Shared → Prop} {Q : Value → Shared → Prop} {s : Shared} {H : Hp} (hh : A.handled = none) (t : Bool) {a e it : Addr} {xs : List V} {its : List Value} (rv : Vals xs its) (hn : its.length ≤ sizeLine)
    (I : Inv X pins σ H s) (hf : ∀ b ∈ [e, it], FpOk X pins H b) (hs : HsK t s.heap a its.toArray) (he : IsEnum s.heap e it 0 .none) (hi : ItK t s.heap it a 0)
    (hQ : ∀ s' H' S Ts, Inv X pins σ (upd H' S (.lst Ts)) s' → Ex H H' → H' S = none → Ens H H' xs Ts → Q (.ref S) s') :
    wpAny (model X.prog X.w) A (call (.type "list") [.ref e]) Q E s := by
  have n1 : e ≠ it := by
    obtain ⟨o, q, c, _⟩ := hi.cls
    exact apart_cls he q rfl c (by cases t <;> decide)
  have n2 : a ≠ e := by
    obtain ⟨o, q, c⟩ := hs.cls
    exact apart_cls q he c rfl (by cases t <;> decide)
  have n3 : a ≠ it := it_seq hi hs
  have la : a < s.heap.objs.size := by obtain ⟨o, q, _⟩ := hs.cls; exact Heap.lt_size q
  have le := Heap.lt_size he
  have li : it < s.heap.objs.size := by obtain ⟨o, q, _⟩ := hi.cls; exact Heap.lt_size q
  refine callType_codes (Q₁ := fun obj s1 => obj = .ref s.heap.objs.size ∧ s1 = { s with heap := s.heap.push { cls := .type "list", data := .seq #[] } }) F.called_list (F.typeCall_list_1 _) F.entry_list_init
    (code_list_new _ ⟨rfl, rfl⟩) fun obj s1 q1 => ?_
  obtain ⟨rfl, rfl⟩ := q1
  have hS : (s.heap.push { cls := .type "list", data := .seq #[] }).get? s.heap.objs.size = some { cls := .type "list", data := .seq #[] } := Heap.get?_push_size _ rfl
  have k0 : ∀ b o, s.heap.get? b = some o → (s.heap.push { cls := .type "list", data := .seq #[] }).get? b = some o := fun b o q => Heap.get?_push_of_some _ q
  have fS := I.fpOk (Nat.le_refl s.heap.objs.size) (I.hok.fresh (Nat.le_refl _))
  refine ⟨⟨_, hS, rfl⟩, F.args_list_init_2 _ _, init_listE (A := A.in1) hh t rv hn n1 n2 n3 (Nat.ne_of_gt le) (Nat.ne_of_gt li) (Nat.ne_of_gt la) (I.kept (t' := s.toks) k0) (fun b hb => ?_) (hs.at fun o q => k0 _ o q) (k0 _ _ he) (hi.at fun o q => k0 _ o q) hS fun s' H' acc' c' Ts' I' e' f' g' E' V' => ⟨rfl, ?_⟩⟩
  · rcases List.mem_cons.mp hb with z | hb
    · exact hf b (by simp [z])
    · rcases List.mem_cons.mp hb with z | hb
      · exact hf b (by simp [z])
      · rw [List.mem_singleton.mp hb]; exact fS
  · refine hQ s' H' _ Ts' (I'.take (t' := s'.toks) (h' := s'.heap) (fun b ob _ q => q) f' ?_) e' f'.1 E'
    refine ⟨?_, acc'.toList, c', V', by rw [Array.toArray_toList]; exact g'⟩
    rw [E'.1, rv.length]; exact hn
def tLstEn (K : PySem.W.Frag) (ta : TA) : TE := fun σ H Q => ta σ H fun vs H1 => ∃ t a xs, vs = [.ref a] ∧ SqK t K H1 a xs ∧ ∀ H2 S Ts, Ex H1 H2 → H2 S = none → Ens H1 H2 xs Ts → Q (.ref S) (upd H2 S (.lst Ts))
theorem pe_listEn {X : Cx} {e : Expr} {ta : TA} {p pos p2 pos2 : Pos} (hc : X.calm = true) (hg : Gl X "list") (hm : X.mg "list" = none) (hg2 : Gl X "enumerate") (hm2 : X.mg "enumerate" = none) (ha : PA X [e] ta) (hs : starEach [e] X.env = [(false, eval e X.env)] := by rfl)
    (na : starEach [.Call (.Name "enumerate" p2) [e] [] pos2] X.env = (false, eval (.Call (.Name "enumerate" p2) [e] [] pos2) X.env) :: starEach [] X.env := by rfl) :
    PE X (.Call (.Name "list" p) [.Call (.Name "enumerate" p2) [e] [] pos2] [] pos) (tLstEn X.K ta) := by
  refine ⟨fun pins s σ H Q I h => ?_⟩
  have mk : wpAny (model X.prog X.w) X.A (eval (.Call (.Name "enumerate" p2) [e] [] pos2) X.env) (fun v s2 => ∃ H1 t a u it xs its, v = .ref u ∧ Inv X pins σ H1 s2 ∧ Vals xs its ∧ its.length ≤ sizeLine ∧ (∀ b ∈ [u, it], FpOk X pins H1 b) ∧ HsK t s2.heap a its.toArray ∧ IsEnum s2.heap u it 0 .none ∧ ItK t s2.heap it a 0 ∧ ∀ H2 S Ts, Ex H1 H2 → H2 S = none → Ens H1 H2 xs Ts → Q (.ref S) (upd H2 S (.lst Ts))) X.xe s := by
    refine Call_ (ld_blt I hg2 hm2 boot_enumerate (PyProof.Rows.callWith_type1 (thn (ha.run pos2 pins s σ H _ I h) ?_) hs rfl))
    rintro us s1 ⟨vs, H1, I1, r1, t, a, xs, rfl, q, hR⟩
    cases r1 with
    | cons r rr =>
      cases rr; cases r
      obtain ⟨its, rv, hq⟩ := sq_here I1 q
      refine enum1_call (beginsK t a its.toArray) hq fun h' he hi hk => ?_
      have fr : ∀ b ∈ [s1.heap.objs.size + 1, s1.heap.objs.size], FpOk X pins H1 b := by
        intro b hb
        have le : s1.heap.objs.size ≤ b := by
          rcases List.mem_cons.mp hb with z | z
          · rw [z]; exact Nat.le_succ _
          · rw [List.mem_singleton.mp z]; exact Nat.le_refl _
        exact I1.fpOk le (I1.hok.fresh le)
      exact ⟨H1, t, a, s1.heap.objs.size + 1, s1.heap.objs.size, xs, its, rfl, I1.kept (t' := s1.toks) hk, rv, by rw [← rv.length]; exact sq_size I1 q, fr, hq.at fun o z => hk _ o z, he, it_new hi, hR⟩
  refine Call_ (ld_blt I hg hm boot_list (PyProof.Rows.callWith_type1 (args_cons (thn mk fun x s1 ⟨H1, t, a, u, it, xs, its, ex, I1, rv, hn, hf, hq, he, hi, hR⟩ => args_nil ?_) na) na))
  subst ex
  refine call_listE (I1.ok.hd hc) t rv hn I1 hf hq he hi fun s' H' S Ts I' e' n' E' => ⟨.ref S, _, I', rfl, hR _ _ _ e' n' E'⟩
theorem rps_ens {K : PySem.W.Frag} {H0 H : Hp} {M : MS} (dm : ∀ a, M a → H0 a ≠ none) : ∀ {ds : List D} {xs Ts : List V} {n : Nat}, Rps K H M ds xs → Ts.length = xs.length → (∀ (j : Nat) (x : V), xs[j]? = some x → ∃ T, Ts[j]? = some (.ref T) ∧ H T = some (.tup [.int ((n + j : Nat) : Int), x]) ∧ H0 T = none) → Rps K H M (numbered n ds) Ts
  | [], xs, Ts, n, r, l, h => by
    rw [show xs = [] from r] at l
    exact List.length_eq_zero_iff.mp l
  | d :: ds, _, Ts, n, ⟨x, r, hx, h1, h2⟩, l, h => by
    subst hx
    obtain ⟨T, e1, e2, e3⟩ := h 0 x rfl
    cases Ts with
    | nil => cases e1
    | cons z Ts =>
      cases e1
      refine ⟨.ref T, Ts, rfl, ⟨T, _, rfl, ⟨fun m => dm T m e3, e2⟩, _, _, rfl, rfl, _, _, rfl, h1, rfl⟩, rps_ens dm h2 (by simpa using l) fun j y hy => ?_⟩
      obtain ⟨T', g1, g2, g3⟩ := h (j + 1) y hy
      exact ⟨T', g1, by rw [show n + 1 + j = n + (j + 1) by omega]; exact g2, g3⟩
theorem eo_listEn {X : Cx} {ρ : List SD} {e : Expr} {p p2 pos pos2 : Pos} {t : Bool} {ds : List D} (hc : X.calm = true) (hg : Gl X "list") (hm : X.mg "list" = none) (hg2 : Gl X "enumerate") (hm2 : X.mg "enumerate" = none) (h : ED X ρ e (sqD t ds))
    (hs : starEach [e] X.env = (false, eval e X.env) :: starEach [] X.env := by rfl) (na : starEach [.Call (.Name "enumerate" p2) [e] [] pos2] X.env = (false, eval (.Call (.Name "enumerate" p2) [e] [] pos2) X.env) :: starEach [] X.env := by rfl) :
    EO X ρ (.Call (.Name "list" p) [.Call (.Name "enumerate" p2) [e] [] pos2] [] pos) (.lst (numbered 0 ds)) :=
  pe_w (pe_listEn hc hg hm hg2 hm2 (ea_cons h ea_nil hs) (by rw [hs]; rfl) na) fun σ H Q ⟨H0, M0, E, q⟩ => ⟨H0, M0, E, fun vs H1 e1 r1 => by
    obtain ⟨x, r, rfl, h1, h2⟩ := r1
    cases h2
    obtain ⟨a, xs, rfl, sq, rx, later⟩ := sqD_rp h1 (Le.ex (Ex.refl _))
    refine ⟨t, a, xs, rfl, sq, fun H2 S Ts e2 nS en => q S _ ((e1.trans e2).back nS) ((e1.trans e2).trans (Ex.new nS)) (OwnAt.new_lst nS (rps_ens (H0 := H1) (E.ext e1).dom (Rps.le (Le.ex e2) _ _ rx) en.1 fun j y hy => by rw [Nat.zero_add]; exact en.2 j y hy))⟩⟩
theorem numbered_enumL {α : Type} (f : α → D) (xs : List α) : numbered 0 (xs.map f) = (enumL xs).map (fun q => .tup [.int q.1, f q.2]) := numbered_map f xs 0
theorem eo_listEnI {X : Cx} {ρ : List SD} {e : Expr} {p p2 pos pos2 : Pos} {xs : List Int} (hc : X.calm = true) (hg : Gl X "list") (hm : X.mg "list" = none) (hg2 : Gl X "enumerate") (hm2 : X.mg "enumerate" = none) (h : ED X ρ e (.tup (xs.map .int)))
    (hs : starEach [e] X.env = (false, eval e X.env) :: starEach [] X.env := by rfl) (na : starEach [.Call (.Name "enumerate" p2) [e] [] pos2] X.env = (false, eval (.Call (.Name "enumerate" p2) [e] [] pos2) X.env) :: starEach [] X.env := by rfl) :
    EO X ρ (.Call (.Name "list" p) [.Call (.Name "enumerate" p2) [e] [] pos2] [] pos) (.lst ((enumL xs).map fun q => .tup [.int q.1, .int q.2])) :=
  numbered_enumL D.int xs ▸ eo_listEn (t := true) hc hg hm hg2 hm2 h hs na
/-- min(xs) of ints -/
theorem cd_minL {X : Cx} (hc : X.calm = true) {ns : List Int} {m : Int} (h1 : m ∈ ns) (h2 : ∀ y ∈ ns, m ≤ y) : CallD X (.builtin "min") [.lst (ns.map D.int)] (.int m) := ⟨_, cr_min hc, fun H M vs dm r Q q => by
  obtain ⟨x1, r1, rfl, hx, rfl⟩ := r
  obtain ⟨a, xs, rfl, ma, ta, rx⟩ := hx
  refine ⟨a, ns, rfl, by rw [← Rps.ints rx]; exact SqL.of ta, List.length_pos_iff.mpr (fun z => by rw [z] at h1; cases h1), fun k k1 k2 => ?_⟩
  have : k = m := Int.le_antisymm (k2 _ h1) (h2 _ k1)
  rw [this]
  exact q _ H (Ex.refl H) rfl⟩
end RW

end
section
namespace RW
open PySem PySem.Spec PyProof.Rows L2
/-! a call that does not raise needs nobody who takes what it raises -/
theorem takes_no {X : Cx} : Takes X (fun _ _ _ _ => False) := fun _ _ ⟨_, _, _, _, _, _, _, _, _, _, _, _, _, _, _, _, w⟩ => w.elim
theorem lcr_strT {α : Type} {xs : List α} {t : α → Bool} {F : α → Str} : ((xs.filter t).map fun x => D.str (F x)) = ((xs.filter t).map F).map D.str := by rw [List.map_map]; rfl
end RW

end
section
set_option maxHeartbeats 0
namespace RW
open PySem PySem.Spec PyProof.Rows L2
set_option hygiene false
local macro_rules | `(tactic| walk_at "vis") => `(tactic| first | exact Or.inl rfl | exact Or.inr (Or.inl rfl) | exact Or.inr (Or.inr rfl))
local macro_rules | `(tactic| walk_at "loc") => `(tactic| first | exact Or.inl rfl | exact Or.inr rfl)
local macro_rules | `(tactic| walk_at "side0") => `(tactic| first | omega | assumption | decide | (refine And.intro ?_ ?_ <;> walk_at "side0") | (simp; done) | (simp; omega))
local macro_rules | `(tactic| walk_at "side") => `(tactic| walk_at "side0")
local macro_rules | `(tactic| walk_at "len") => `(tactic| first | exact Nat.le_of_ble_eq_true rfl | decide | (show _ < _; simp only [List.length_set, List.length_cons, List.length_nil]; omega) | (simp; done) | (simp; omega))
local macro_rules | `(tactic| walk_at "opAdd") => `(tactic| first | exact opd_add | (refine opd_addS ?_; walk_at "side") | (refine opd_cat ?_; walk_at "side") | (refine opd_catL ?_; walk_at "side"))
local macro_rules | `(tactic| walk_at "opSub") => `(tactic| exact opd_sub)
local macro_rules | `(tactic| walk_at "opMult") => `(tactic| first | (refine opd_mulR ?_; constructor <;> decide) | (refine opd_mulL ?_; constructor <;> decide) | (refine opd_mulR ?_; walk_at "side") | (refine opd_mulL ?_; walk_at "side"))
local macro_rules | `(tactic| walk_at "opFloorDiv") => `(tactic| first | (refine opd_fdiv ?_; constructor <;> decide) | (refine opd_fdiv ?_; walk_at "side"))
local macro_rules | `(tactic| walk_at "opMod") => `(tactic| first | (refine opd_mod ?_; decide) | (refine opd_mod ?_; walk_at "side"))
local macro_rules | `(tactic| walk_at "opBitAnd") => `(tactic| exact opd_and)
local macro_rules | `(tactic| walk_at "opBitOr") => `(tactic| exact opd_or)
local macro_rules | `(tactic| walk_at "opLShift") => `(tactic| (refine opd_shl ?_; walk_at "side"))
local macro_rules | `(tactic| walk_at "opRShift") => `(tactic| (refine opd_shr ?_; walk_at "side"))
local macro_rules | `(tactic| walk_at "unUSub") => `(tactic| exact und_neg)
local macro_rules | `(tactic| walk_at "unInvert") => `(tactic| exact und_inv)
local macro_rules | `(tactic| walk_at "cmpLt") => `(tactic| exact opd_lt)
local macro_rules | `(tactic| walk_at "cmpLtE") => `(tactic| exact opd_le)
local macro_rules | `(tactic| walk_at "cmpGt") => `(tactic| exact opd_gt)
local macro_rules | `(tactic| walk_at "cmpGtE") => `(tactic| exact opd_ge)
local macro_rules | `(tactic| walk_at "cmpEq") => `(tactic| first | exact opd_eqI | exact opd_eqS | exact opd_eqB | (refine opd_eq hr.units ?_ ?_; walk_at "plain"; walk_at "plain"))
local macro_rules | `(tactic| walk_at "cmpNotEq") => `(tactic| first | exact opd_neI | exact opd_neS | exact opd_neB | (refine opd_ne hr.units ?_ ?_; walk_at "plain"; walk_at "plain"))
local macro_rules | `(tactic| walk_at "cmpIs") => `(tactic| exact opd_isN)
local macro_rules | `(tactic| walk_at "cmpIsNot") => `(tactic| exact opd_notN)
local macro_rules | `(tactic| walk_at "cmpIn") => `(tactic| first | exact opd_inC | (refine opd_inT ?_ ?_; walk_at "flat"; walk_at "flat") | (refine opd_inL ?_ ?_; walk_at "flat"; walk_at "flat") | (refine opd_inDL hr.units65 ?_ ?_; walk_at "plain"; walk_at "plain"))
local macro_rules | `(tactic| walk_at "cmpNotIn") => `(tactic| first | exact opd_niC | (refine opd_niT ?_ ?_; walk_at "flat"; walk_at "flat") | (refine opd_niL ?_ ?_; walk_at "flat"; walk_at "flat"))
local macro_rules | `(tactic| walk_at "flat") => `(tactic| first | rfl | (simp [flatD]; done) | assumption)
local macro_rules | `(tactic| walk_at "plain") => `(tactic| first | rfl | assumption | (simp [plainD, plainDs]; done))
local macro_rules | `(tactic| walk_at "ifd") => `(tactic| first | exact ifd_int | exact ifd_str | exact ifd_bl | exact ifd_tup | exact ifd_lst | exact ifd_any)
local macro_rules | `(tactic| walk_at "sld") => `(tactic| first | exact sld_tup | exact sld_lst | (refine sld_str ?_; walk_at "side"))
local macro_rules | `(tactic| walk_at "ix") => `(tactic| first | exact ixd_tup rfl | exact ixd_lst rfl | (refine ixd_lst (atI_map ?_); walk_at "side") | (refine ixd_tup (atI_map ?_); walk_at "side"))
local macro_rules | `(tactic| walk_at "S") => `(tactic| first | exact ⟨_, rfl, rfl⟩ | exact ⟨_, _, rfl, rfl⟩ | exact ⟨_, _, _, rfl, rfl⟩ | (refine ⟨_, rfl, ?_, rfl⟩; walk_at "side") | (refine ⟨_, _, rfl, ?_, rfl⟩; walk_at "side") | (refine ⟨_, _, _, rfl, ?_, rfl⟩; walk_at "side") | exact ⟨_, _, _, _, rfl, rfl⟩ | (refine ⟨_, _, _, _, rfl, ?_, rfl⟩; walk_at "side"))
local macro_rules | `(tactic| walk_at "call_len") => `(tactic| first | exact cd_len_lstM | exact cd_len_tupM | exact cd_len_lst | exact cd_len_tup | exact cd_len_scr | (refine cd_len_str ?_; walk_at "side"))
local macro_rules | `(tactic| walk_at "call_int") => `(tactic| first | exact cd_int | exact cd_intB | (refine cd_intS ?_ ?_; walk_at "itxt"; walk_at "side"))
local macro_rules | `(tactic| walk_at "call_abs") => `(tactic| exact cd_abs)
local macro_rules | `(tactic| walk_at "call_str") => `(tactic| (refine cd_str ?_; walk_at "side"))
local macro_rules | `(tactic| walk_at "call_tuple") => `(tactic| first | exact cd_tupleL | exact cd_tupleT)
local macro_rules | `(tactic| walk_at "call_all") => `(tactic| exact cd_all rfl)
local macro_rules | `(tactic| walk_at "call_any") => `(tactic| exact cd_any rfl)
local macro_rules | `(tactic| walk_at "call_sum") => `(tactic| exact cd_sum rfl)
local macro_rules | `(tactic| walk_at "call_isinstance") => `(tactic| first | exact isi_tup_tuple | exact isi_tup_list | exact isi_tup_int | exact isi_tup_str | exact isi_tup_bool | exact isi_lst_tuple | exact isi_lst_list | exact isi_lst_int | exact isi_lst_str | exact isi_lst_bool | exact isi_int_tuple | exact isi_int_list | exact isi_int_int | exact isi_int_str | exact isi_int_bool | exact isi_str_tuple | exact isi_str_list | exact isi_str_int | exact isi_str_str | exact isi_str_bool | exact isi_bl_tuple | exact isi_bl_list | exact isi_bl_int | exact isi_bl_str | exact isi_bl_bool | exact isi_non_tuple | exact isi_non_list | exact isi_non_int | exact isi_non_str | exact isi_non_bool)
local macro_rules | `(tactic| walk_at "callo") => `(tactic| first | exact co_listL | exact co_listT)
local macro_rules | `(tactic| walk_at "truv") => `(tactic| first | exact trd_int | exact trd_lst | exact trd_tup | (refine trd_str ?_; walk_at "side"))
local macro_rules | `(tactic| walk_at "tgt") => `(tactic| first | exact ⟨(by walk_at "len"), rfl⟩ | (refine pairF ?_ ?_; walk_at "len"; walk_at "len") | (refine ⟨[_, _, _], rfl, rfl, consF_name ?_ (consF_name ?_ (consF_name ?_ nilF_mk))⟩; walk_at "len"; walk_at "len"; walk_at "len"))
local macro_rules | `(tactic| walk_at "pass") => `(tactic| first | exact passes_of rfl | exact PassesOwn.never | exact po1)
local macro_rules | `(tactic| walk_at "wk") => `(tactic| repeat first | exact Wk.nil | refine Wk.no ?_ | refine Wk.eq ?_ | refine Wk.frz ?_)
local macro_rules | `(tactic| walk_at "ret") => `(tactic| first | rfl | assumption)
local macro_rules | `(tactic| walk_at "lcr") => `(tactic| first | exact lcr_int | exact lcr_str | exact lcr_bl | exact lcr_int' | rfl)
local macro_rules | `(tactic| walk_at "ixo") => `(tactic| first | exact atI_nat rfl | (refine atI_map ?_; walk_at "side"))
local macro_rules | `(tactic| walk_at "call_max") => `(tactic| exact cd_max2 rfl)
local macro_rules | `(tactic| walk_at "call_min") => `(tactic| exact cd_min2 rfl)
local macro_rules | `(tactic| walk_at "call_divmod") => `(tactic| (refine cd_divmod ?_; walk_at "side"))

def topS (i : Nat) : Stmt := PySem.Challenge.pw_raisedwreck_k29_roots.main.body.getD i (.Pass ⟨0, 0, 0, 0⟩)
structure Txt (mg : Str → Option Value) : Prop where
  m_ValueError : mg "ValueError" = none
  m_all : mg "all" = none
  m_bool : mg "bool" = none
  m_enumerate : mg "enumerate" = none
  m_int : mg "int" = none
  m_isinstance : mg "isinstance" = none
  m_len : mg "len" = none
  m_list : mg "list" = none
  m_min : mg "min" = none
  m_range : mg "range" = none
  m_str : mg "str" = none
  m_tuple : mg "tuple" = none
  m_zip : mg "zip" = none
  c_BLOCK : ∃ t, mg "BLOCK" = some (.int 2 t)
  c_CONTENTS : ∃ t, mg "CONTENTS" = some (.int 4 t)
  c_GENERATIONS : ∃ t, mg "GENERATIONS" = some (.int 3 t)
  c_LETTERS : ∃ t, mg "LETTERS" = some (.str "abcdefghijklmnopqrstuvwxyz" t)
  c_LETTERS_AND_DIGITS : ∃ t, mg "LETTERS_AND_DIGITS" = some (.str "abcdefghijklmnopqrstuvwxyz0123456789" t)
  c_LONGEST_NAME : ∃ t, mg "LONGEST_NAME" = some (.int 12 t)
  c_MOST_CELLS : ∃ t, mg "MOST_CELLS" = some (.int 24 t)
  c_MOST_DEEDS : ∃ t, mg "MOST_DEEDS" = some (.int 400 t)
  c_MOST_VALUES : ∃ t, mg "MOST_VALUES" = some (.int 16 t)
  c_ROOTS : ∃ t, mg "ROOTS" = some (.int 2 t)
section
variable {P : Program} {w : World} {K : PySem.W.Frag} {mg : Str → Option Value} {base : Heap} {cA_WreckError : Addr} {cA_InvalidMachine : Addr} {cA_InvalidDisk : Addr} {cA_InvalidSketch : Addr} {cA_NoSuchDeed : Addr} {cA_CannotDo : Addr} {cA_InvalidForm : Addr} {cA_InvalidFile : Addr} {cA_Machine : Addr} {cA_RootForm : Addr}
def encP (p : Int × Int) : D := .tup [.int p.1, .int p.2]
def encSrc (s : Str × Int) : D := .tup [.str s.1, .int s.2]
def encCh (c : Int × Str × Int) : D := .tup [.int c.1, encSrc c.2]
def encCell (c : Str × Int) : D := .tup [.str c.1, .int c.2]
structure Deed where
  name : Str
  guard : List (Int × Int)
  changes : List (Int × Str × Int)
instance : Inhabited Deed := ⟨⟨"", [], []⟩⟩
def encDeed (d : Deed) : D := .tup [.str d.name, .tup (d.guard.map encP), .tup (d.changes.map encCh)]
def cell (ns : List Int) (k : Int) : Int := if k < ns.length then ns.getD k.toNat 0 else 0
section
theorem cell_get {ns : List Int} {k : Int} (h0 : 0 ≤ k) (h : decide (k < (ns.length : Int)) = true) : atI ns k = some (cell ns k) := by
  have hk := of_decide_eq_true h
  unfold cell
  rw [if_pos hk]
  obtain ⟨j, rfl⟩ : ∃ j : Nat, k = (j : Int) := ⟨k.toNat, by omega⟩
  refine atI_nat ?_
  rw [List.getD_eq_getElem?_getD, Int.toNat_natCast, List.getElem?_eq_getElem (by omega)]; rfl
theorem cell_no {ns : List Int} {k : Int} (h : decide (k < (ns.length : Int)) = false) : cell ns k = 0 := by
  unfold cell; rw [if_neg (of_decide_eq_false h)]
local macro_rules | `(tactic| walk_at "ix") => `(tactic| exact ixd_scr (cell_get h0 hc1))
local macro_rules | `(tactic| walk_at "ret") => `(tactic| (show _ = _; rw [cell_no hc1]))
abbrev s_law_cell : Stmt := topS 60
theorem sc_law_cell : FnScope ["script", "k"] ["script", "k"] (defScope s_law_cell) := ⟨rfl, rfl, rfl, by decide +kernel, rfl, by decide +kernel, by decide +kernel⟩
def S_law_cell : List D → Res → Prop := fun ds r => ∃ (ns : List Int) (k : Int), ds = [.scr ns, .int k] ∧ 0 ≤ k ∧ r = .ok (.int (cell ns k))
theorem fd_law_cell {f : Addr} {fd : FuncData} (F : Fun K "_law_cell" "_law_cell" s_law_cell f fd) (gx : mg "_law_cell" = some (.ref f)) (hb : Binds K fd ["script", "k"] []) (T : Txt mg)  : FD P w K mg base 1 "_law_cell" 2 S_law_cell := by
  refine fd_of (N := ["script", "k"]) F gx hb sc_law_cell (by decide) ?_
  intro cdv A outer s0_ H E ds r hr hl hS
  obtain ⟨ns, k, rfl, h0, rfl⟩ := hS
  show SDs _ _ [.val (.scr ns), .val (.int k)] _ _
  refine sds_if (et_cmp (ed_var 1 rfl rfl (by walk_at "vis")) (ed_callB rfl T.m_len PySem.boot_len (ea_cons (ed_var 0 rfl rfl (by walk_at "vis")) ea_nil) (by walk_at "call_len")) (by walk_at "cmpLt")) (fun hc1 => ?_) (fun hc1 => ?_)
  · have hc1d := hc1
    try simp only [Bool.and_eq_true, Bool.or_eq_true, decide_eq_true_eq, decide_eq_false_iff_not, Bool.not_eq_true', Bool.not_eq_false', Bool.and_eq_false_iff, Bool.or_eq_false_iff] at hc1d
    refine sds_ret (ed_callTy rfl T.m_int boot_int (ea_cons (ed_ix (ed_var 0 rfl rfl (by walk_at "vis")) (ed_var 1 rfl rfl (by walk_at "vis")) (by walk_at "ix")) ea_nil) (by walk_at "call_int")) ?_
    walk_at "ret"
  · have hc1d := hc1
    try simp only [Bool.and_eq_true, Bool.or_eq_true, decide_eq_true_eq, decide_eq_false_iff_not, Bool.not_eq_true', Bool.not_eq_false', Bool.and_eq_false_iff, Bool.or_eq_false_iff] at hc1d
    refine sds_go ?_
    refine sds_ret ed_int ?_
    walk_at "ret"
end

theorem small_n {k : Int} (h : -1 ≤ k ∧ k < 500) : k.natAbs.log2 < 1920 ∧ (toString k : Str).length ≤ 100000 := by
  by_cases z : k < 0
  · have : k = -1 := by omega
    subst this; decide +kernel
  · obtain ⟨i, rfl⟩ : ∃ i : Nat, k = (i : Int) := ⟨k.toNat, by omega⟩
    have := (by decide +kernel : ∀ n : Nat, n < 500 → (toString (n : Int) : Str).length ≤ 10 ∧ n.log2 < 1920) i (by omega)
    exact ⟨this.2, by omega⟩
section
local macro_rules | `(tactic| walk_at "fint") => `(tactic| first | exact small_n (by omega) | assumption)

abbrev s_check_number : Stmt := topS 32
theorem sc_check_number : FnScope ["number", "least", "most"] ["number", "least", "most"] (defScope s_check_number) := ⟨rfl, rfl, rfl, by decide +kernel, rfl, by decide +kernel, by decide +kernel⟩
def S_check_number (cA_InvalidForm : Addr) : List D → Res → Prop := fun ds r => ∃ (n a b : Int), ds = [.int n, .int a, .int b] ∧ ((-1 ≤ n ∧ n < 500) ∧ (-1 ≤ a ∧ a < 500) ∧ (-1 ≤ b ∧ b < 500)) ∧ r = (if (!(decide (a ≤ n) && decide (n ≤ b))) = true then .er (.ref cA_InvalidForm) none else .ok .non)
theorem fd_check_number {f : Addr} {fd : FuncData} (F : Fun K "check_number" "check_number" s_check_number f fd) (gx : mg "check_number" = some (.ref f)) (hb : Binds K fd ["number", "least", "most"] []) (T : Txt mg)  (X_InvalidForm : XF K mg "InvalidForm" cA_InvalidForm) : FD P w K mg base 1 "check_number" 3 (S_check_number cA_InvalidForm) := by
  refine fd_of (N := ["number", "least", "most"]) F gx hb sc_check_number (by decide) ?_
  intro cdv A outer s0_ H E ds r hr hl hS
  obtain ⟨n, a, b, rfl, h0, rfl⟩ := hS
  show SDs _ _ [.val (.int n), .val (.int a), .val (.int b)] _ _
  refine sds_if (et_not (et_chain (ed_var 1 rfl rfl (by walk_at "vis")) (ed_var 0 rfl rfl (by walk_at "vis")) (ed_var 2 rfl rfl (by walk_at "vis")) (by walk_at "cmpLtE") (by walk_at "cmpLtE"))) (fun hc1 => ?_) (fun hc1 => ?_)
  · have hc1d := hc1
    try simp only [Bool.and_eq_true, Bool.or_eq_true, decide_eq_true_eq, decide_eq_false_iff_not, Bool.not_eq_true', Bool.not_eq_false', Bool.and_eq_false_iff, Bool.or_eq_false_iff] at hc1d
    refine sds_raise rfl (takes_of rfl rfl rfl rfl) X_InvalidForm rfl (es_joined (.cons (by first | exact .str (ed_var 0 rfl rfl (by walk_at "vis")) (by walk_at "flen") | exact .int (ed_var 0 rfl rfl (by walk_at "vis")) (by walk_at "fint")) (.cons (.txt ed_str (by decide +kernel)) (.cons (by first | exact .str (ed_var 1 rfl rfl (by walk_at "vis")) (by walk_at "flen") | exact .int (ed_var 1 rfl rfl (by walk_at "vis")) (by walk_at "fint")) (.cons (.txt ed_str (by decide +kernel)) (.cons (by first | exact .str (ed_var 2 rfl rfl (by walk_at "vis")) (by walk_at "flen") | exact .int (ed_var 2 rfl rfl (by walk_at "vis")) (by walk_at "fint")) .nil)))))) ?_
    first | (rw [if_pos hc1]; done) | (exact if_neg (by rw [hc1]; exact Bool.false_ne_true))
  · have hc1d := hc1
    try simp only [Bool.and_eq_true, Bool.or_eq_true, decide_eq_true_eq, decide_eq_false_iff_not, Bool.not_eq_true', Bool.not_eq_false', Bool.and_eq_false_iff, Bool.or_eq_false_iff] at hc1d
    refine sds_go ?_
    refine sds_nil ?_ (Wk.refl _)
    first | (rw [if_pos hc1]; done) | (exact if_neg (by rw [hc1]; exact Bool.false_ne_true))
end

theorem mid_n {k : Int} (h : 0 ≤ k ∧ k < 1000000000000) : k.natAbs.log2 < 1920 ∧ (toString k : Str).length ≤ 100000 := by
  have hk : k.natAbs < 10 ^ 12 := by
    have : (10 : Nat) ^ 12 = 1000000000000 := by decide
    omega
  constructor
  · by_cases z : k.natAbs = 0
    · rw [z]; decide
    · have h30 : k.natAbs.log2 < 40 := (Nat.log2_lt z).mpr (Nat.lt_trans hk (by decide))
      omega
  · have e := int_text_length_le10 (k := 12) (by decide) hk
    show (Str.ofString (toString k)).length ≤ 100000
    rw [PySem.ofString_length]
    omega

section
local macro_rules | `(tactic| walk_at "fint") => `(tactic| exact mid_n h0)

abbrev s_check_many_deeds : Stmt := topS 33
theorem sc_check_many_deeds : FnScope ["many"] ["many"] (defScope s_check_many_deeds) := ⟨rfl, rfl, rfl, by decide +kernel, rfl, by decide +kernel, by decide +kernel⟩
def S_check_many_deeds (cA_InvalidForm : Addr) : List D → Res → Prop := fun ds r => ∃ (n : Int), ds = [.int n] ∧ (0 ≤ n ∧ n < 1000000000000) ∧ r = (if decide ((400 : Int) < n) = true then .er (.ref cA_InvalidForm) none else .ok .non)
theorem fd_check_many_deeds {f : Addr} {fd : FuncData} (F : Fun K "check_many_deeds" "check_many_deeds" s_check_many_deeds f fd) (gx : mg "check_many_deeds" = some (.ref f)) (hb : Binds K fd ["many"] []) (T : Txt mg)  (X_InvalidForm : XF K mg "InvalidForm" cA_InvalidForm) : FD P w K mg base 1 "check_many_deeds" 1 (S_check_many_deeds cA_InvalidForm) := by
  refine fd_of (N := ["many"]) F gx hb sc_check_many_deeds (by decide) ?_
  intro cdv A outer s0_ H E ds r hr hl hS
  obtain ⟨n, rfl, h0, rfl⟩ := hS
  show SDs _ _ [.val (.int n)] _ _
  refine sds_if (et_cmp (ed_var 0 rfl rfl (by walk_at "vis")) (ed_globI rfl T.c_MOST_DEEDS) (by walk_at "cmpGt")) (fun hc1 => ?_) (fun hc1 => ?_)
  · have hc1d := hc1
    try simp only [Bool.and_eq_true, Bool.or_eq_true, decide_eq_true_eq, decide_eq_false_iff_not, Bool.not_eq_true', Bool.not_eq_false', Bool.and_eq_false_iff, Bool.or_eq_false_iff] at hc1d
    refine sds_raise rfl (takes_of rfl rfl rfl rfl) X_InvalidForm rfl (es_joined (.cons (.txt ed_str (by decide +kernel)) (.cons (by first | exact .str (ed_var 0 rfl rfl (by walk_at "vis")) (by walk_at "flen") | exact .int (ed_var 0 rfl rfl (by walk_at "vis")) (by walk_at "fint")) (.cons (.txt ed_str (by decide +kernel)) .nil)))) ?_
    first | (rw [if_pos hc1]; done) | (exact if_neg (by rw [hc1]; exact Bool.false_ne_true))
  · have hc1d := hc1
    try simp only [Bool.and_eq_true, Bool.or_eq_true, decide_eq_true_eq, decide_eq_false_iff_not, Bool.not_eq_true', Bool.not_eq_false', Bool.and_eq_false_iff, Bool.or_eq_false_iff] at hc1d
    refine sds_go ?_
    refine sds_nil ?_ (Wk.refl _)
    first | (rw [if_pos hc1]; done) | (exact if_neg (by rw [hc1]; exact Bool.false_ne_true))
end

section
local macro_rules | `(tactic| walk_at "fint") => `(tactic| first | exact small_n (by omega) | assumption)

abbrev s_check_value : Stmt := topS 34
theorem sc_check_value : FnScope ["alphabet", "value"] ["alphabet", "value"] (defScope s_check_value) := ⟨rfl, rfl, rfl, by decide +kernel, rfl, by decide +kernel, by decide +kernel⟩
def S_check_value (cA_InvalidFile : Addr) : List D → Res → Prop := fun ds r => ∃ (n f : Int), ds = [.int n, .int f] ∧ (-1 ≤ f ∧ f < 500) ∧ r = (if (!(decide ((0 : Int) ≤ f) && decide (f < n))) = true then .er (.ref cA_InvalidFile) none else .ok .non)
theorem fd_check_value {f : Addr} {fd : FuncData} (F : Fun K "check_value" "check_value" s_check_value f fd) (gx : mg "check_value" = some (.ref f)) (hb : Binds K fd ["alphabet", "value"] []) (T : Txt mg)  (X_InvalidFile : XF K mg "InvalidFile" cA_InvalidFile) : FD P w K mg base 1 "check_value" 2 (S_check_value cA_InvalidFile) := by
  refine fd_of (N := ["alphabet", "value"]) F gx hb sc_check_value (by decide) ?_
  intro cdv A outer s0_ H E ds r hr hl hS
  obtain ⟨n, f, rfl, h0, rfl⟩ := hS
  show SDs _ _ [.val (.int n), .val (.int f)] _ _
  refine sds_if (et_not (et_chain ed_int (ed_var 1 rfl rfl (by walk_at "vis")) (ed_var 0 rfl rfl (by walk_at "vis")) (by walk_at "cmpLtE") (by walk_at "cmpLt"))) (fun hc1 => ?_) (fun hc1 => ?_)
  · have hc1d := hc1
    try simp only [Bool.and_eq_true, Bool.or_eq_true, decide_eq_true_eq, decide_eq_false_iff_not, Bool.not_eq_true', Bool.not_eq_false', Bool.and_eq_false_iff, Bool.or_eq_false_iff] at hc1d
    refine sds_raise rfl (takes_of rfl rfl rfl rfl) X_InvalidFile rfl (es_joined (.cons (by first | exact .str (ed_var 1 rfl rfl (by walk_at "vis")) (by walk_at "flen") | exact .int (ed_var 1 rfl rfl (by walk_at "vis")) (by walk_at "fint")) (.cons (.txt ed_str (by decide +kernel)) .nil))) ?_
    first | (rw [if_pos hc1]; done) | (exact if_neg (by rw [hc1]; exact Bool.false_ne_true))
  · have hc1d := hc1
    try simp only [Bool.and_eq_true, Bool.or_eq_true, decide_eq_true_eq, decide_eq_false_iff_not, Bool.not_eq_true', Bool.not_eq_false', Bool.and_eq_false_iff, Bool.or_eq_false_iff] at hc1d
    refine sds_go ?_
    refine sds_nil ?_ (Wk.refl _)
    first | (rw [if_pos hc1]; done) | (exact if_neg (by rw [hc1]; exact Bool.false_ne_true))
end

def rtF (b v : Nat) : List (Str × D) := [("blocks", .int (b : Int)), ("alphabet", .int (v : Int))]
def rtN (b v : Int) : Int := 2 * 3 * b * (b - 1) * v * 2
def newRt (cA cF : Addr) (b v : Int) : Res := if (!(decide ((3 : Int) ≤ b) && decide (b ≤ 5))) = true then .er (.ref cA) none else if (!(decide ((1 : Int) ≤ v) && decide (v ≤ 4))) = true then .er (.ref cA) none else if decide ((400 : Int) < rtN b v) = true then .er (.ref cA) none else .ok (.obj cF [("blocks", .int b), ("alphabet", .int v)])
theorem newRt_obj {cA cF : Addr} {b v : Int} {d : D} (h : newRt cA cF b v = .ok d) : ∃ fs, d = .obj cF fs := by
  unfold newRt at h
  repeat' split at h
  all_goals first | (cases h; done) | skip
  cases h; exact ⟨_, rfl⟩
theorem if_ok {c : Bool} {x : Value} {y : Option (List (Str × D))} {z d : D} (h : (if c = true then Res.er x y else .ok z) = .ok d) : ¬ c = true := fun q => by rw [if_pos q] at h; cases h
theorem if_er {c : Bool} {x p : Value} {y q : Option (List (Str × D))} {z : D} (h : (if c = true then Res.er x y else .ok z) = .er p q) : c = true ∧ Res.er x y = .er p q := by
  by_cases k : c = true
  · rw [if_pos k] at h; exact ⟨k, h⟩
  · rw [if_neg k] at h; cases h
theorem rg_in {x : Int} {a b : Int} {y : Value} {t : Option (List (Str × D))} {z d : D} (h : (if (!(decide (a ≤ x) && decide (x ≤ b))) = true then Res.er y t else .ok z) = .ok d) : a ≤ x ∧ x ≤ b := by
  have := if_ok h
  simpa using this
theorem rtN_in {b v : Int} (hb : 3 ≤ b ∧ b ≤ 5) (hv : 1 ≤ v ∧ v ≤ 4) : 0 ≤ rtN b v ∧ rtN b v < 1000000000000 := by
  unfold rtN
  have h1 : b = 3 ∨ b = 4 ∨ b = 5 := by omega
  rcases h1 with rfl | rfl | rfl <;> omega
section
local macro_rules | `(tactic| walk_at "S") => `(tactic| first | exact ⟨b, 3, 5, rfl, ⟨h0, by omega, by omega⟩, rfl⟩ | exact ⟨v, 1, 4, rfl, ⟨h1, by omega, by omega⟩, rfl⟩ | exact ⟨rtN b v, rfl, rtN_in (rg_in hc1) (rg_in hc2), rfl⟩)

abbrev s_RootForm_init : Stmt := inCls (topS 45) 0
theorem sc_RootForm_init : FnScope ["self", "blocks", "alphabet"] ["self", "blocks", "alphabet"] (defScope s_RootForm_init) := ⟨rfl, rfl, rfl, by decide +kernel, rfl, by decide +kernel, by decide +kernel⟩
def S_RootForm_init (cA_RootForm : Addr) (cA_InvalidForm : Addr) : List D → Res → Prop := fun ds r => ∃ (b v : Int), ds = [.int b, .int v] ∧ ((-1 ≤ b ∧ b < 500) ∧ (-1 ≤ v ∧ v < 500)) ∧ r = newRt cA_InvalidForm cA_RootForm b v
theorem fi_RootForm_init {f : Addr} {fd : FuncData} (gx : mg "RootForm" = some (.ref cA_RootForm)) (hM : Mk K cA_RootForm f) (F : Fun K "__init__" "RootForm.__init__" s_RootForm_init f fd) (hb : Binds K fd ["self", "blocks", "alphabet"] []) (T : Txt mg) (F_check_many_deeds : FD P w K mg base 1 "check_many_deeds" 1 (S_check_many_deeds cA_InvalidForm)) (F_check_number : FD P w K mg base 1 "check_number" 3 (S_check_number cA_InvalidForm)) (cl_RootForm : Cls K cA_RootForm) (na_RootForm_alphabet : NoAttr K cA_RootForm "alphabet") (na_RootForm_blocks : NoAttr K cA_RootForm "blocks") : FI P w K mg base 2 "RootForm" cA_RootForm 2 (S_RootForm_init cA_RootForm cA_InvalidForm) := by
  refine fi_of (N := ["self", "blocks", "alphabet"]) gx hM F hb sc_RootForm_init (by decide) ?_
  intro cdv A outer s0_ H E ds r pa hr hl hS
  obtain ⟨b, v, rfl, ⟨h0, h1⟩, rfl⟩ := hS
  show SDs _ _ [.own (.me pa cA_RootForm []), .val (.int b), .val (.int v)] _ _
  refine sds_exprR (er_call (takes_of rfl rfl rfl rfl) F_check_number (hr.mono (by decide)) rfl (ea_cons (ed_var 1 rfl rfl (by walk_at "vis")) (ea_cons ed_int (ea_cons ed_int ea_nil))) (by walk_at "S")) (fun d hc1 => ?_) (fun c fs hc1 => ?_)
  · skip
    refine sds_exprR (er_call (takes_of rfl rfl rfl rfl) F_check_number (hr.mono (by decide)) rfl (ea_cons (ed_var 2 rfl rfl (by walk_at "vis")) (ea_cons ed_int (ea_cons ed_int ea_nil))) (by walk_at "S")) (fun d hc2 => ?_) (fun c fs hc2 => ?_)
    · skip
      refine sds_exprR (er_call (takes_of rfl rfl rfl rfl) F_check_many_deeds (hr.mono (by decide)) rfl (ea_cons (ed_bin (ed_bin (ed_bin (ed_bin (ed_bin (ed_globI rfl T.c_ROOTS) (ed_globI rfl T.c_GENERATIONS) (by walk_at "opMult")) (ed_var 1 rfl rfl (by walk_at "vis")) (by walk_at "opMult")) (ed_bin (ed_var 1 rfl rfl (by walk_at "vis")) ed_int (by walk_at "opSub")) (by walk_at "opMult")) (ed_var 2 rfl rfl (by walk_at "vis")) (by walk_at "opMult")) ed_int (by walk_at "opMult")) ea_nil) (by walk_at "S")) (fun d hc3 => ?_) (fun c fs hc3 => ?_)
      · skip
        refine sds_fld 0 rfl (ed_var 1 rfl rfl (by walk_at "vis")) rfl (by walk_at "vis") cl_RootForm na_RootForm_blocks (Nat.le_of_ble_eq_true rfl) ?_
        refine sds_fld 0 rfl (ed_var 2 rfl rfl (by walk_at "vis")) rfl (by walk_at "vis") cl_RootForm na_RootForm_alphabet (Nat.le_of_ble_eq_true rfl) ?_
        refine sds_nil ?_ (Wk.refl _)
        refine ⟨_, rfl, ?_⟩; unfold newRt; rw [if_neg (if_ok hc1), if_neg (if_ok hc2), if_neg (if_ok hc3)]; rfl
      · obtain ⟨g, e⟩ := if_er hc3; show newRt cA_InvalidForm cA_RootForm b v = Res.er c fs; rw [← e]; unfold newRt; first | (rw [if_neg (if_ok hc1), if_neg (if_ok hc2), if_pos g]; done) | (rw [if_neg (if_ok hc1), if_pos g]; done) | (rw [if_pos g]; done)
    · obtain ⟨g, e⟩ := if_er hc2; show newRt cA_InvalidForm cA_RootForm b v = Res.er c fs; rw [← e]; unfold newRt; first | (rw [if_neg (if_ok hc1), if_neg (if_ok hc2), if_pos g]; done) | (rw [if_neg (if_ok hc1), if_pos g]; done) | (rw [if_pos g]; done)
  · obtain ⟨g, e⟩ := if_er hc1; show newRt cA_InvalidForm cA_RootForm b v = Res.er c fs; rw [← e]; unfold newRt; first | (rw [if_neg (if_ok hc1), if_neg (if_ok hc2), if_pos g]; done) | (rw [if_neg (if_ok hc1), if_pos g]; done) | (rw [if_pos g]; done)
end

def cellsOf (l : Str) (n : Nat) (z : Int) : List (Str × Int) := (rng 0 n).map fun k => (joinS [l, (toString k : Str)], z)
section
local macro_rules | `(tactic| walk_at "fint") => `(tactic| first | exact small_n (by omega) | assumption)
local macro_rules | `(tactic| walk_at "flen") => `(tactic| omega)

abbrev s_cells_of : Stmt := topS 35
theorem sc_cells_of : FnScope ["letter", "many", "size", "number"] ["letter", "many", "size"] (defScope s_cells_of) := ⟨rfl, rfl, rfl, by decide +kernel, rfl, by decide +kernel, by decide +kernel⟩
def S_cells_of : List D → Res → Prop := fun ds r => ∃ (l : Str) (n : Nat) (z : Int), ds = [.str l, .int (n : Int), .int z] ∧ (l.length ≤ 100 ∧ n ≤ 100) ∧ r = .ok (.lst ((cellsOf l n z).map encCell))
theorem fd_cells_of {f : Addr} {fd : FuncData} (F : Fun K "cells_of" "cells_of" s_cells_of f fd) (gx : mg "cells_of" = some (.ref f)) (hb : Binds K fd ["letter", "many", "size"] []) (T : Txt mg)  : FD P w K mg base 1 "cells_of" 3 S_cells_of := by
  refine fd_of (N := ["letter", "many", "size", "number"]) F gx hb sc_cells_of (by decide) ?_
  intro cdv A outer s0_ H E ds r hr hl hS
  obtain ⟨l, n, z, rfl, h0, rfl⟩ := hS
  show SDs _ _ [.val (.str l), .val (.int (n : Int)), .val (.int z), .no] _ _
  refine sds_ret (eo_ed (eo_lc1 (y := "number") 3 rfl sc_cells_of.nd (by first | exact wd_range1N (ed_var 1 rfl rfl (by walk_at "vis")) (by walk_at "side") rfl T.m_range | exact wd_range1 (ed_var 1 rfl rfl (by walk_at "vis")) (by walk_at "side") (by walk_at "side") rfl T.m_range) (blkOk_by (N := ["letter", "many", "size", "number"]) (sc := defScope s_cells_of) (by decide +kernel)) (fun sb Hb Cb clb fpb => (td_name 3 sc_cells_of.nd rfl (by walk_at "loc"))) (by walk_at "len") (fun d z => by cases d <;> cases z) (fun sb Hb Cb clb fpb x hx => pts_no) (fun sb Hb Cb clb fpb x hx ht => by have hk := mem_rng hx; exact (ed_tup (ea_cons (ed_joined (.cons (by first | exact .str (ed_var 0 rfl rfl (by walk_at "vis")) (by walk_at "flen") | exact .int (ed_var 0 rfl rfl (by walk_at "vis")) (by walk_at "fint")) (.cons (by first | exact .str (ed_var 3 rfl rfl (by walk_at "vis")) (by walk_at "flen") | exact .int (ed_var 3 rfl rfl (by walk_at "vis")) (by walk_at "fint")) .nil))) (ea_cons (ed_var 2 rfl rfl (by walk_at "vis")) ea_nil)) (by walk_at "len"))) (by walk_at "side") (by exact lcr_enc (enc := encCell) (F := fun k => (joinS [l, (toString k : Str)], z)) fun _ _ => rfl))) ?_
  walk_at "ret"
end

def digS (t : List Int) : Str := Txt.join "" (t.map fun v => (toString v : Str))
theorem dig_sum : ∀ {t : List Int}, (∀ v ∈ t, -1 ≤ v ∧ v < 500) → ((t.map fun v => (toString v : Str)).map (·.length)).sum ≤ t.length * 100000
  | [], _ => Nat.le_refl _
  | v :: r, h => by
    have a := (small_n (h v List.mem_cons_self)).2
    have b := dig_sum fun x hx => h x (List.mem_cons_of_mem _ hx)
    rw [List.map_cons, List.map_cons, List.sum_cons, List.length_cons, Nat.add_mul, Nat.one_mul]
    omega
theorem dig_small {v : Int} (h : 0 ≤ v ∧ v < 10) : (toString v : Str).length ≤ 1 := by
  obtain ⟨i, rfl⟩ : ∃ i : Nat, v = (i : Int) := ⟨v.toNat, by omega⟩
  exact (by decide +kernel : ∀ n : Nat, n < 10 → (toString (n : Int) : Str).length ≤ 1) i (by omega)
theorem sum_one : ∀ {l : List Str}, (∀ s ∈ l, s.length ≤ 1) → (l.map (·.length)).sum ≤ l.length
  | [], _ => Nat.le_refl _
  | a :: r, h => by
    have p := h a List.mem_cons_self
    have q := sum_one (l := r) fun s hs => h s (List.mem_cons_of_mem _ hs)
    rw [List.map_cons, List.sum_cons, List.length_cons]
    omega
theorem join_len {l : List Str} (h : ∀ s ∈ l, s.length ≤ 1) : (Txt.join "" l).length ≤ l.length := by
  have q := size_glued "" l
  have e : (Str.ofString "").length = 0 := by decide
  rw [e, Nat.mul_zero, Nat.add_zero] at q
  exact Nat.le_trans (Nat.le_of_eq q) (sum_one h)
theorem dig_len {t : List Int} (h : ∀ v ∈ t, 0 ≤ v ∧ v < 10) (hl : t.length ≤ 100) : (digS t).length ≤ 100000 := by
  unfold digS
  have := join_len (l := t.map fun v => (toString v : Str)) fun s hs => by
    obtain ⟨v, hv, rfl⟩ := List.mem_map.mp hs
    exact dig_small (h v hv)
  rw [List.length_map] at this
  omega
section
local macro_rules | `(tactic| walk_at "fint") => `(tactic| first | exact small_n (by omega) | assumption)
local macro_rules | `(tactic| walk_at "side") => `(tactic| first | walk_at "side0" | exact hs.1 | (have q := dig_sum h0.1; have e0 : (Str.ofString "").length = 0 := (by decide); rw [e0]; omega))

abbrev s_digits_of : Stmt := topS 36
theorem sc_digits_of : FnScope ["values", "value"] ["values"] (defScope s_digits_of) := ⟨rfl, rfl, rfl, by decide +kernel, rfl, by decide +kernel, by decide +kernel⟩
def S_digits_of : List D → Res → Prop := fun ds r => ∃ (t : List Int), ds = [.tup (t.map .int)] ∧ ((∀ v ∈ t, -1 ≤ v ∧ v < 500) ∧ t.length ≤ 100) ∧ r = .ok (.str (digS t))
theorem fd_digits_of {f : Addr} {fd : FuncData} (F : Fun K "digits_of" "digits_of" s_digits_of f fd) (gx : mg "digits_of" = some (.ref f)) (hb : Binds K fd ["values"] []) (T : Txt mg)  : FD P w K mg base 1 "digits_of" 1 S_digits_of := by
  refine fd_of (N := ["values", "value"]) F gx hb sc_digits_of (by decide) ?_
  intro cdv A outer s0_ H E ds r hr hl hS
  obtain ⟨t, rfl, h0, rfl⟩ := hS
  show SDs _ _ [.val (.tup (t.map .int)), .no] _ _
  refine sds_ret (ed_joinT ed_str (eo_ed (eo_lc1 (y := "value") 1 rfl sc_digits_of.nd (by first | exact wd_list (ed_var 0 rfl rfl (by walk_at "vis")) | exact wd_tup (ed_var 0 rfl rfl (by walk_at "vis")) | exact wd_str (ed_var 0 rfl rfl (by walk_at "vis"))) (blkOk_by (N := ["values", "value"]) (sc := defScope s_digits_of) (by decide +kernel)) (fun sb Hb Cb clb fpb => (td_name 1 sc_digits_of.nd rfl (by walk_at "loc"))) (by walk_at "len") (fun d z => by cases d <;> cases z) (fun sb Hb Cb clb fpb x hx => pts_no) (fun sb Hb Cb clb fpb x hx ht => by have hs := small_n (h0.1 x hx); exact (ed_callTy rfl T.m_str boot_str (ea_cons (ed_var 1 rfl rfl (by walk_at "vis")) ea_nil) (by walk_at "call_str"))) (by walk_at "side") (by exact lcr_str (F := fun v : Int => (toString v : Str))))) (by walk_at "side")) ?_
  walk_at "ret"
end

def gdOf (ps : List (Int × Int)) : List (Int × Int) := ps.map fun q => (q.1, 1 * 2 ^ q.2.toNat)
section
local macro_rules | `(tactic| walk_at "side") => `(tactic| first | walk_at "side0" | exact ⟨by omega, by omega, by decide⟩)

abbrev s_guard_of : Stmt := topS 37
theorem sc_guard_of : FnScope ["pairs", "cell", "value"] ["pairs"] (defScope s_guard_of) := ⟨rfl, rfl, rfl, by decide +kernel, rfl, by decide +kernel, by decide +kernel⟩
def S_guard_of : List D → Res → Prop := fun ds r => ∃ (ps : List (Int × Int)), ds = [.lst (ps.map encP)] ∧ ((∀ q ∈ ps, 0 ≤ q.2 ∧ q.2 ≤ 100) ∧ ps.length ≤ 1000) ∧ r = .ok (.tup ((gdOf ps).map encP))
theorem fd_guard_of {f : Addr} {fd : FuncData} (F : Fun K "guard_of" "guard_of" s_guard_of f fd) (gx : mg "guard_of" = some (.ref f)) (hb : Binds K fd ["pairs"] []) (T : Txt mg)  : FD P w K mg base 1 "guard_of" 1 S_guard_of := by
  refine fd_of (N := ["pairs", "cell", "value"]) F gx hb sc_guard_of (by decide) ?_
  intro cdv A outer s0_ H E ds r hr hl hS
  obtain ⟨ps, rfl, ⟨h0, h1⟩, rfl⟩ := hS
  show SDs _ _ [.val (.lst (ps.map encP)), .no, .no] _ _
  refine sds_ret (ed_callTy rfl T.m_tuple boot_tuple (ea_cons (eo_ed (eo_lc2 (y := "cell") (z := "value") 1 2 rfl sc_guard_of.nd (by first | exact wd_list (ed_var 0 rfl rfl (by walk_at "vis")) | exact wd_tup (ed_var 0 rfl rfl (by walk_at "vis")) | exact wd_str (ed_var 0 rfl rfl (by walk_at "vis"))) (blkOk_by (N := ["pairs", "cell", "value"]) (sc := defScope s_guard_of) (by decide +kernel)) (fun sb Hb Cb clb fpb => (td_pair 1 2 rfl sc_guard_of.nd rfl (by walk_at "loc") rfl (by walk_at "loc"))) (by decide) (by walk_at "len") (by walk_at "len") (fun d z => by cases d <;> cases z) (fun d z => by cases d <;> cases z) (fun sb Hb Cb clb fpb x hx => pts_no) (fun sb Hb Cb clb fpb x hx ht => by have hk := h0 x hx; exact (ed_tup (ea_cons (ed_var 1 rfl rfl (by walk_at "vis")) (ea_cons (ed_bin ed_int (ed_var 2 rfl rfl (by walk_at "vis")) (by walk_at "opLShift")) ea_nil)) (by walk_at "len"))) (by walk_at "side") (by exact lcr_enc (enc := encP) (F := fun q : Int × Int => (q.1, 1 * 2 ^ q.2.toNat)) fun _ _ => rfl))) ea_nil) (by walk_at "call_tuple")) ?_
  walk_at "ret"
end

def chOf (ps : List (Int × Int)) : List (Int × Str × Int) := ps.map fun q => (q.1, "set", q.2)
abbrev s_changes_of : Stmt := topS 38
theorem sc_changes_of : FnScope ["pairs", "cell", "value"] ["pairs"] (defScope s_changes_of) := ⟨rfl, rfl, rfl, by decide +kernel, rfl, by decide +kernel, by decide +kernel⟩
def S_changes_of : List D → Res → Prop := fun ds r => ∃ (ps : List (Int × Int)), ds = [.lst (ps.map encP)] ∧ ps.length ≤ 1000 ∧ r = .ok (.tup ((chOf ps).map encCh))
theorem fd_changes_of {f : Addr} {fd : FuncData} (F : Fun K "changes_of" "changes_of" s_changes_of f fd) (gx : mg "changes_of" = some (.ref f)) (hb : Binds K fd ["pairs"] []) (T : Txt mg)  : FD P w K mg base 1 "changes_of" 1 S_changes_of := by
  refine fd_of (N := ["pairs", "cell", "value"]) F gx hb sc_changes_of (by decide) ?_
  intro cdv A outer s0_ H E ds r hr hl hS
  obtain ⟨ps, rfl, h1, rfl⟩ := hS
  show SDs _ _ [.val (.lst (ps.map encP)), .no, .no] _ _
  refine sds_ret (ed_callTy rfl T.m_tuple boot_tuple (ea_cons (eo_ed (eo_lc2 (y := "cell") (z := "value") 1 2 rfl sc_changes_of.nd (by first | exact wd_list (ed_var 0 rfl rfl (by walk_at "vis")) | exact wd_tup (ed_var 0 rfl rfl (by walk_at "vis")) | exact wd_str (ed_var 0 rfl rfl (by walk_at "vis"))) (blkOk_by (N := ["pairs", "cell", "value"]) (sc := defScope s_changes_of) (by decide +kernel)) (fun sb Hb Cb clb fpb => (td_pair 1 2 rfl sc_changes_of.nd rfl (by walk_at "loc") rfl (by walk_at "loc"))) (by decide) (by walk_at "len") (by walk_at "len") (fun d z => by cases d <;> cases z) (fun d z => by cases d <;> cases z) (fun sb Hb Cb clb fpb x hx => pts_no) (fun sb Hb Cb clb fpb x hx ht => by exact (ed_tup (ea_cons (ed_var 1 rfl rfl (by walk_at "vis")) (ea_cons (ed_tup (ea_cons ed_str (ea_cons (ed_var 2 rfl rfl (by walk_at "vis")) ea_nil)) (by walk_at "len")) ea_nil)) (by walk_at "len"))) (by walk_at "side") (by exact lcr_enc (enc := encCh) (F := fun q : Int × Int => (q.1, "set", q.2)) fun _ _ => rfl))) ea_nil) (by walk_at "call_tuple")) ?_
  walk_at "ret"

def wrN (vs : List Int) (q : Int × Int) : List Int := vs.set q.1.toNat q.2
def wrL (x : List Int) (ps : List (Int × Int)) : List Int := ps.foldl wrN x
section
local macro_rules | `(tactic| walk_at "ixn") => `(tactic| (refine ixN_in ?_; rw [List.length_map, hP]; exact hq))
local macro_rules | `(tactic| walk_at "tgt") => `(tactic| (refine pairF ?_ ?_; walk_at "len"; walk_at "len"))
abbrev s_disk_with : Stmt := topS 39
theorem sc_disk_with : FnScope ["disk", "pairs", "values", "cell", "value"] ["disk", "pairs"] (defScope s_disk_with) := ⟨rfl, rfl, rfl, by decide +kernel, rfl, by decide +kernel, by decide +kernel⟩
def S_disk_with : List D → Res → Prop := fun ds r => ∃ (x : List Int) (ps : List (Int × Int)), ds = [.tup (x.map .int), .lst (ps.map encP)] ∧ ((∀ q ∈ ps, 0 ≤ q.1 ∧ q.1 < x.length) ∧ x.length ≤ 1000) ∧ r = .ok (.tup ((wrL x ps).map .int))
theorem fd_disk_with {f : Addr} {fd : FuncData} (F : Fun K "disk_with" "disk_with" s_disk_with f fd) (gx : mg "disk_with" = some (.ref f)) (hb : Binds K fd ["disk", "pairs"] []) (T : Txt mg)  : FD P w K mg base 1 "disk_with" 2 S_disk_with := by
  refine fd_of (N := ["disk", "pairs", "values", "cell", "value"]) F gx hb sc_disk_with (by decide) ?_
  intro cdv A outer s0_ H E ds r hr hl hS
  obtain ⟨x, ps, rfl, ⟨h0, h1⟩, rfl⟩ := hS
  show SDs _ _ [.val (.tup (x.map .int)), .val (.lst (ps.map encP)), .no, .no, .no] _ _
  refine sds_setO 2 (eo_callTy rfl T.m_list boot_list (ea_cons (ed_var 0 rfl rfl (by walk_at "vis")) ea_nil) (by walk_at "callo")) sc_disk_with.nd rfl (by walk_at "loc") ?_ (by walk_at "len")
  refine sds_fold (fun vs => [.val (.tup (x.map .int)), .val (.lst (ps.map encP)), .own (.lst (vs.map .int)), .no, .no]) wrN (fun _ vs => vs.length = x.length) x (by walk_at "pass") rfl (by first | exact wd_list (ed_var 1 rfl rfl (by walk_at "vis")) | exact wd_tup (ed_var 1 rfl rfl (by walk_at "vis")) | exact wd_str (ed_var 1 rfl rfl (by walk_at "vis"))) (td_pair 3 4 rfl sc_disk_with.nd rfl (by walk_at "loc") rfl (by walk_at "loc")) (by repeat first | exact Wk.nil | refine Wk.no ?_ | refine Wk.eq ?_ | refine Wk.frz ?_ | (refine Wk.eq' ?hh ?_; (case hh => first | (simp only [List.map_set, List.map_append, List.map_cons, List.map_nil, if_true, if_false, and_self, and_true, true_and, and_false, false_and, not_true_eq_false, not_false_eq_true, reduceIte]; done) | (simp [List.map_set]; done) | ((try simp only [List.map_set]); (repeat' split) <;> first | rfl | (simp only [List.map_append, List.map_cons, List.map_nil, List.map_set]; done) | (exfalso; omega) | (simp_all; done)))) | (refine Wk.frzE ?hh ?_; (case hh => first | (simp only [List.map_set, List.map_append, List.map_cons, List.map_nil, if_true, if_false, and_self, and_true, true_and, and_false, false_and, not_true_eq_false, not_false_eq_true, reduceIte]; done) | (simp [List.map_set]; done) | ((try simp only [List.map_set]); (repeat' split) <;> first | rfl | (simp only [List.map_append, List.map_cons, List.map_nil, List.map_set]; done) | (exfalso; omega) | (simp_all; done))))) (by rfl) ?_ ?_
  · intro i q vs hx hP
    have hP : vs.length = x.length := hP; have hq := h0 q (List.mem_of_getElem? hx)
    refine ⟨_, (by walk_at "tgt"), ?_⟩
    refine sds_put 2 rfl (ed_var 4 rfl rfl (by walk_at "vis")) (ed_var 3 rfl rfl (by walk_at "vis")) rfl (by walk_at "vis") (by walk_at "ixn") ?_
    refine sds_nil ⟨?_, rfl⟩ ?_
    · unfold wrN; rw [List.length_set, hP]
    · repeat first | exact Wk.nil | refine Wk.no ?_ | refine Wk.eq ?_ | refine Wk.frz ?_ | (refine Wk.eq' ?hh ?_; (case hh => first | (simp only [List.map_set, wrN, List.map_append, List.map_cons, List.map_nil, if_true, if_false, and_self, and_true, true_and, and_false, false_and, not_true_eq_false, not_false_eq_true, reduceIte]; done) | (simp [List.map_set, wrN]; done) | ((try simp only [List.map_set, wrN]); (repeat' split) <;> first | rfl | (simp only [List.map_append, List.map_cons, List.map_nil, List.map_set, wrN]; done) | (exfalso; omega) | (simp_all; done)))) | (refine Wk.frzE ?hh ?_; (case hh => first | (simp only [List.map_set, wrN, List.map_append, List.map_cons, List.map_nil, if_true, if_false, and_self, and_true, true_and, and_false, false_and, not_true_eq_false, not_false_eq_true, reduceIte]; done) | (simp [List.map_set, wrN]; done) | ((try simp only [List.map_set, wrN]); (repeat' split) <;> first | rfl | (simp only [List.map_append, List.map_cons, List.map_nil, List.map_set, wrN]; done) | (exfalso; omega) | (simp_all; done))))
  · intro hP
    refine sds_frz 2 ?_
    refine sds_ret (ed_callTy rfl T.m_tuple boot_tuple (ea_cons (ed_var 2 rfl rfl (by walk_at "vis")) ea_nil) (by walk_at "call_tuple")) ?_
    walk_at "ret"
end

def rtCs (b v : Nat) : List (Str × Int) := cellsOf "g" 2 3 ++ cellsOf "p" 2 b ++ cellsOf "c" b v
theorem cl_len (l : Str) (n : Nat) (z : Int) : (cellsOf l n z).length = n := by unfold cellsOf; rw [List.length_map, rng_len]
section
local macro_rules | `(tactic| walk_at "S") => `(tactic| first | exact ⟨_, 2, _, rfl, by decide, rfl⟩ | exact ⟨_, b, _, rfl, ⟨by decide, by omega⟩, rfl⟩)
local macro_rules | `(tactic| walk_at "side") => `(tactic| first | walk_at "side0" | (simp only [List.length_append, List.length_map, cl_len]; omega))

abbrev s_root_cells : Stmt := topS 46
theorem sc_root_cells : FnScope ["form"] ["form"] (defScope s_root_cells) := ⟨rfl, rfl, rfl, by decide +kernel, rfl, by decide +kernel, by decide +kernel⟩
def S_root_cells (cA_RootForm : Addr) : List D → Res → Prop := fun ds r => ∃ (b v : Nat), ds = [.obj cA_RootForm (rtF b v)] ∧ ((3 ≤ b ∧ b ≤ 5) ∧ (1 ≤ v ∧ v ≤ 4)) ∧ r = .ok (.lst ((rtCs b v).map encCell))
theorem fd_root_cells {f : Addr} {fd : FuncData} (F : Fun K "root_cells" "root_cells" s_root_cells f fd) (gx : mg "root_cells" = some (.ref f)) (hb : Binds K fd ["form"] []) (T : Txt mg) (F_cells_of : FD P w K mg base 1 "cells_of" 3 S_cells_of) (cl_RootForm : Cls K cA_RootForm) (na_RootForm_alphabet : NoAttr K cA_RootForm "alphabet") (na_RootForm_blocks : NoAttr K cA_RootForm "blocks") : FD P w K mg base 2 "root_cells" 1 (S_root_cells cA_RootForm) := by
  refine fd_of (N := ["form"]) F gx hb sc_root_cells (by decide) ?_
  intro cdv A outer s0_ H E ds r hr hl hS
  obtain ⟨b, v, rfl, h0, rfl⟩ := hS
  show SDs _ _ [.val (.obj cA_RootForm (rtF b v))] _ _
  refine sds_ret (ed_bin (ed_bin (ed_call F_cells_of (hr.mono (by decide)) rfl (ea_cons ed_str (ea_cons (ed_globI rfl T.c_ROOTS) (ea_cons (ed_globI rfl T.c_GENERATIONS) ea_nil))) (by walk_at "S")) (ed_call F_cells_of (hr.mono (by decide)) rfl (ea_cons ed_str (ea_cons (ed_globI rfl T.c_ROOTS) (ea_cons (ed_fld (ed_var 0 rfl rfl (by walk_at "vis")) cl_RootForm na_RootForm_blocks rfl) ea_nil))) (by walk_at "S")) (by walk_at "opAdd")) (ed_call F_cells_of (hr.mono (by decide)) rfl (ea_cons ed_str (ea_cons (ed_fld (ed_var 0 rfl rfl (by walk_at "vis")) cl_RootForm na_RootForm_blocks rfl) (ea_cons (ed_fld (ed_var 0 rfl rfl (by walk_at "vis")) cl_RootForm na_RootForm_alphabet rfl) ea_nil))) (by walk_at "S")) (by walk_at "opAdd")) ?_
  show Res.ok _ = Res.ok _; unfold rtCs; rw [List.map_append, List.map_append]
end

def gensOf (n g : Int) : List Int := [g, (g + (if (n != 0) = true then 1 else -1)) % 3]
abbrev s_generations_of : Stmt := topS 48
theorem sc_generations_of : FnScope ["newer", "generation", "step"] ["newer", "generation"] (defScope s_generations_of) := ⟨rfl, rfl, rfl, by decide +kernel, rfl, by decide +kernel, by decide +kernel⟩
def S_generations_of : List D → Res → Prop := fun ds r => ∃ (n g : Int), ds = [.int n, .int g] ∧ r = .ok (.tup ((gensOf n g).map .int))
theorem fd_generations_of {f : Addr} {fd : FuncData} (F : Fun K "generations_of" "generations_of" s_generations_of f fd) (gx : mg "generations_of" = some (.ref f)) (hb : Binds K fd ["newer", "generation"] []) (T : Txt mg)  : FD P w K mg base 1 "generations_of" 2 S_generations_of := by
  refine fd_of (N := ["newer", "generation", "step"]) F gx hb sc_generations_of (by decide) ?_
  intro cdv A outer s0_ H E ds r hr hl hS
  obtain ⟨n, g, rfl, rfl⟩ := hS
  show SDs _ _ [.val (.int n), .val (.int g), .no] _ _
  refine sds_set 2 (ed_ifd (by first | exact et_val (ed_var 0 rfl rfl (by walk_at "vis")) | exact et_tru (ed_var 0 rfl rfl (by walk_at "vis")) (by walk_at "truv")) (fun hb => ed_int) (fun hb => (ed_un ed_int (by walk_at "unUSub"))) (by walk_at "ifd")) sc_generations_of.nd rfl (by walk_at "loc") ?_ (by walk_at "len")
  refine sds_ret (ed_tup (ea_cons (ed_var 1 rfl rfl (by walk_at "vis")) (ea_cons (ed_bin (ed_bin (ed_var 1 rfl rfl (by walk_at "vis")) (ed_var 2 rfl rfl (by walk_at "vis")) (by walk_at "opAdd")) (ed_globI rfl T.c_GENERATIONS) (by walk_at "opMod")) ea_nil)) (by walk_at "len")) ?_
  walk_at "ret"

def prsOf (b : Nat) (n g : Int) : List (List Int) := (rng 0 b).flatMap fun x => ((rng 0 b).filter fun y => (!decide (x = y))).map fun y => gensOf n g ++ [x, y]
theorem prs_few {b : Nat} (h : b ≤ 5) (f : Int → Int → Bool) {α : Type} (g : Int → Int → α) : ((rng 0 b).flatMap fun x => ((rng 0 b).filter (f x)).map (g x)).length ≤ 25 := by
  have one : ∀ l : List Int, (l.flatMap fun x => ((rng 0 b).filter (f x)).map (g x)).length ≤ l.length * 5 := fun l => by
    induction l with
    | nil => exact Nat.le_refl _
    | cons a r ih =>
      have := List.length_filter_le (f a) (rng 0 b)
      rw [rng_len] at this
      rw [List.flatMap_cons, List.length_append, List.length_map, List.length_cons]; omega
  have := one (rng 0 b)
  rw [rng_len] at this
  omega
section
local macro_rules | `(tactic| walk_at "S") => `(tactic| exact ⟨n, g, rfl, rfl⟩)
local macro_rules | `(tactic| walk_at "side") => `(tactic| first | walk_at "side0" | (rw [List.length_map]; show 2 + 2 ≤ _; decide))

abbrev s_pairs_of_roots : Stmt := topS 49
theorem sc_pairs_of_roots : FnScope ["form", "newer", "generation", "block", "other"] ["form", "newer", "generation"] (defScope s_pairs_of_roots) := ⟨rfl, rfl, rfl, by decide +kernel, rfl, by decide +kernel, by decide +kernel⟩
def S_pairs_of_roots (cA_RootForm : Addr) : List D → Res → Prop := fun ds r => ∃ (b v : Nat) (n g : Int), ds = [.obj cA_RootForm (rtF b v), .int n, .int g] ∧ ((3 ≤ b ∧ b ≤ 5) ∧ (1 ≤ v ∧ v ≤ 4)) ∧ r = .ok (.lst ((prsOf b n g).map fun t => .tup (t.map .int)))
theorem fd_pairs_of_roots {f : Addr} {fd : FuncData} (F : Fun K "pairs_of_roots" "pairs_of_roots" s_pairs_of_roots f fd) (gx : mg "pairs_of_roots" = some (.ref f)) (hb : Binds K fd ["form", "newer", "generation"] []) (T : Txt mg) (F_generations_of : FD P w K mg base 1 "generations_of" 2 S_generations_of) (cl_RootForm : Cls K cA_RootForm) (na_RootForm_blocks : NoAttr K cA_RootForm "blocks") : FD P w K mg base 2 "pairs_of_roots" 3 (S_pairs_of_roots cA_RootForm) := by
  refine fd_of (N := ["form", "newer", "generation", "block", "other"]) F gx hb sc_pairs_of_roots (by decide) ?_
  intro cdv A outer s0_ H E ds r hr hl hS
  obtain ⟨b, v, n, g, rfl, h0, rfl⟩ := hS
  show SDs _ _ [.val (.obj cA_RootForm (rtF b v)), .val (.int n), .val (.int g), .no, .no] _ _
  refine sds_ret (eo_ed (eo_lct (enc := D.int) (enc1 := D.int) (xs := rng 0 b) (ys := fun _ => rng 0 b) (t := fun x y => (!decide (x = y))) (g := fun x y => .tup ((gensOf n g ++ [x, y]).map .int)) 3 4 rfl sc_pairs_of_roots.nd (by first | exact wd_range1N (ed_fld (ed_var 0 rfl rfl (by walk_at "vis")) cl_RootForm na_RootForm_blocks rfl) (by walk_at "side") rfl T.m_range | exact wd_range1 (ed_fld (ed_var 0 rfl rfl (by walk_at "vis")) cl_RootForm na_RootForm_blocks rfl) (by walk_at "side") (by walk_at "side") rfl T.m_range) (blkOk_by (N := ["form", "newer", "generation", "block", "other"]) (sc := defScope s_pairs_of_roots) (own := [("block", 3), ("other", 4)]) (by decide +kernel)) rfl (fun sb Hb Cb clb fpb => ⟨(td_name 3 sc_pairs_of_roots.nd rfl (by walk_at "loc")), (td_name 4 sc_pairs_of_roots.nd rfl (by walk_at "loc"))⟩) ⟨(by walk_at "len"), (by walk_at "len")⟩ rfl (fun _ => rfl) (fun sb Hb Cb clb fpb x hx => by have hk := mem_rng hx; exact (by first | exact wd_range1N (ed_fld (ed_var 0 rfl rfl (by walk_at "vis")) cl_RootForm na_RootForm_blocks rfl) (by walk_at "side") rfl T.m_range | exact wd_range1 (ed_fld (ed_var 0 rfl rfl (by walk_at "vis")) cl_RootForm na_RootForm_blocks rfl) (by walk_at "side") (by walk_at "side") rfl T.m_range)) (fun sb Hb Cb clb fpb x y hx hy => pts_if (by have hk := mem_rng hx; exact (et_cmp (ed_var 3 rfl rfl (by walk_at "vis")) (ed_var 4 rfl rfl (by walk_at "vis")) (by walk_at "cmpNotEq")))) (fun sb Hb Cb clb fpb x y hx hy ht => by have hk := mem_rng hx; exact (ed_bin (ed_call F_generations_of (hr.mono (by decide)) rfl (ea_cons (ed_var 1 rfl rfl (by walk_at "vis")) (ea_cons (ed_var 2 rfl rfl (by walk_at "vis")) ea_nil)) (by walk_at "S")) (ed_tup (ea_cons (ed_var 3 rfl rfl (by walk_at "vis")) (ea_cons (ed_var 4 rfl rfl (by walk_at "vis")) ea_nil)) (by walk_at "len")) (by walk_at "opAdd"))) (by exact Nat.lt_of_le_of_lt (prs_few h0.1.2 _ _) (by decide)) (by exact (by unfold prsOf; rw [List.map_flatMap]; congr; funext x; rw [List.map_map]; rfl : ((rng 0 b).flatMap fun x => ((rng 0 b).filter fun y => (!decide (x = y))).map fun y => D.tup ((gensOf n g ++ [x, y]).map .int)) = (prsOf b n g).map fun t => D.tup (t.map .int))))) ?_
  walk_at "ret"
end

def newR (t : List Int) : Int := if decide (t.getD (0 : Int).toNat default = (t.getD (1 : Int).toNat default + 1) % 3) = true then 0 else 1
section
local macro_rules | `(tactic| walk_at "ix") => `(tactic| (refine ixd_tup (atI_map ?_); omega))

abbrev s_newer_root : Stmt := topS 50
theorem sc_newer_root : FnScope ["roots"] ["roots"] (defScope s_newer_root) := ⟨rfl, rfl, rfl, by decide +kernel, rfl, by decide +kernel, by decide +kernel⟩
def S_newer_root : List D → Res → Prop := fun ds r => ∃ (t : List Int), ds = [.tup (t.map .int)] ∧ 2 ≤ t.length ∧ r = .ok (.int (newR t))
theorem fd_newer_root {f : Addr} {fd : FuncData} (F : Fun K "newer_root" "newer_root" s_newer_root f fd) (gx : mg "newer_root" = some (.ref f)) (hb : Binds K fd ["roots"] []) (T : Txt mg)  : FD P w K mg base 1 "newer_root" 1 S_newer_root := by
  refine fd_of (N := ["roots"]) F gx hb sc_newer_root (by decide) ?_
  intro cdv A outer s0_ H E ds r hr hl hS
  obtain ⟨t, rfl, h0, rfl⟩ := hS
  show SDs _ _ [.val (.tup (t.map .int))] _ _
  refine sds_ret (ed_ifd (et_cmp (ed_ix (ed_var 0 rfl rfl (by walk_at "vis")) ed_int (by walk_at "ix")) (ed_bin (ed_bin (ed_ix (ed_var 0 rfl rfl (by walk_at "vis")) ed_int (by walk_at "ix")) ed_int (by walk_at "opAdd")) (ed_globI rfl T.c_GENERATIONS) (by walk_at "opMod")) (by walk_at "cmpEq")) (fun hb => ed_int) (fun hb => ed_int) (by walk_at "ifd")) ?_
  walk_at "ret"
end

def nmR (l : Str) (n g p q x : Int) : Str := l ++ digS [n, g, p, q, x]
section
local macro_rules | `(tactic| walk_at "fint") => `(tactic| first | exact small_n (by omega) | assumption)
local macro_rules | `(tactic| walk_at "tgt") => `(tactic| first | exact ⟨(by walk_at "len"), rfl⟩ | (refine pairF ?_ ?_; walk_at "len"; walk_at "len") | (refine ⟨[_, _, _, _], rfl, rfl, consF_name ?_ (consF_name ?_ (consF_name ?_ (consF_name ?_ nilF_mk)))⟩; walk_at "len"; walk_at "len"; walk_at "len"; walk_at "len"))
local macro_rules | `(tactic| walk_at "S") => `(tactic| exact ⟨[n, g, p, q, x], rfl, ⟨fun y hy => by have := h0.1 y hy; omega, (show 5 ≤ 100 by decide)⟩, rfl⟩)
local macro_rules | `(tactic| walk_at "side") => `(tactic| first | walk_at "side0" | (have := dig_len h0.1 (show [n, g, p, q, x].length ≤ 100 from (by decide : 5 ≤ 100)); omega))

abbrev s_deed_name : Stmt := topS 51
theorem sc_deed_name : FnScope ["letter", "newer", "roots", "value", "generation", "_", "block", "other"] ["letter", "newer", "roots", "value"] (defScope s_deed_name) := ⟨rfl, rfl, rfl, by decide +kernel, rfl, by decide +kernel, by decide +kernel⟩
def S_deed_name : List D → Res → Prop := fun ds r => ∃ (l : Str) (n g h p q x : Int), ds = [.str l, .int n, .tup [.int g, .int h, .int p, .int q], .int x] ∧ ((∀ y ∈ [n, g, p, q, x], 0 ≤ y ∧ y < 10) ∧ l.length ≤ 100) ∧ r = .ok (.str (nmR l n g p q x))
theorem fd_deed_name {f : Addr} {fd : FuncData} (F : Fun K "deed_name" "deed_name" s_deed_name f fd) (gx : mg "deed_name" = some (.ref f)) (hb : Binds K fd ["letter", "newer", "roots", "value"] []) (T : Txt mg) (F_digits_of : FD P w K mg base 1 "digits_of" 1 S_digits_of) : FD P w K mg base 2 "deed_name" 4 S_deed_name := by
  refine fd_of (N := ["letter", "newer", "roots", "value", "generation", "_", "block", "other"]) F gx hb sc_deed_name (by decide) ?_
  intro cdv A outer s0_ H E ds r hr hl hS
  obtain ⟨l, n, g, h, p, q, x, rfl, h0, rfl⟩ := hS
  show SDs _ _ [.val (.str l), .val (.int n), .val (.tup [.int g, .int h, .int p, .int q]), .val (.int x), .no, .no, .no, .no] _ _
  refine sds_tgt (ed_var 2 rfl rfl (by walk_at "vis")) (td_tup rfl (tds_cons (td_name 4 sc_deed_name.nd rfl (by walk_at "loc")) (tds_cons (td_name 5 sc_deed_name.nd rfl (by walk_at "loc")) (tds_cons (td_name 6 sc_deed_name.nd rfl (by walk_at "loc")) (tds_cons (td_name 7 sc_deed_name.nd rfl (by walk_at "loc")) tds_nil))))) (by walk_at "tgt") ?_
  refine sds_ret (ed_bin (ed_var 0 rfl rfl (by walk_at "vis")) (ed_call F_digits_of (hr.mono (by decide)) rfl (ea_cons (ed_tup (ea_cons (ed_var 1 rfl rfl (by walk_at "vis")) (ea_cons (ed_var 4 rfl rfl (by walk_at "vis")) (ea_cons (ed_var 6 rfl rfl (by walk_at "vis")) (ea_cons (ed_var 7 rfl rfl (by walk_at "vis")) (ea_cons (ed_var 3 rfl rfl (by walk_at "vis")) ea_nil))))) (by walk_at "len")) ea_nil) (by walk_at "S")) (by walk_at "opAdd")) ?_
  walk_at "ret"
end

def frL (b : Nat) (t : List Int) : List Int := (rng 0 b).filter fun k => !decide (k ∈ RW.cut t (some 2) (some (2 + 2)))
def freB (b : Nat) (t : List Int) : Int := (frL b t).headD 0
theorem opd_niI {X : Cx} {k : Int} {ns : List Int} {ds : List D} (h : ds = ns.map D.int) : OpD X (compareOp .NotIn) (.int k) (.tup ds) (.bl (!decide (k ∈ ns))) := by
  subst h
  rw [← inD_ints]
  exact opd_niT rfl (by rw [List.all_map]; exact List.all_eq_true.mpr fun _ _ => rfl)
theorem rng_up (n : Nat) : (rng 0 n).Pairwise (· < ·) := by
  unfold rng
  rw [List.pairwise_map]
  exact List.pairwise_lt_range.imp fun h => by omega
theorem cut24 {t : List Int} (h : 4 ≤ t.length) : ∃ x y, RW.cut t (some 2) (some (2 + 2)) = [x, y] := by
  match t, h with
  | a :: b :: c :: d :: r, _ => 
    refine ⟨c, d, ?_⟩
    unfold RW.cut
    rw [show (some (2 + 2) : Option Int) = some ((4 : Nat) : Int) from rfl, show (some 2 : Option Int) = some ((2 : Nat) : Int) from rfl, HT.sIx_nat, HT.sIx_nat]
    have e1 : min 4 (a :: b :: c :: d :: r).length = 4 := Nat.min_eq_left (by simp)
    have e2 : min 2 (a :: b :: c :: d :: r).length = 2 := Nat.min_eq_left (by simp)
    rw [e1, e2]; rfl
theorem rng_has {n : Nat} {k : Int} (h : 0 ≤ k ∧ k < (n : Int)) : k ∈ rng 0 n := by
  unfold rng
  exact List.mem_map.mpr ⟨k.toNat, List.mem_range.mpr (by omega), by omega⟩
theorem fr_min {b : Nat} {t : List Int} (hb : 3 ≤ b) (h4 : 4 ≤ t.length) : freB b t ∈ frL b t ∧ ∀ y ∈ frL b t, freB b t ≤ y := by
  have ne : frL b t ≠ [] := fun z => by
    obtain ⟨x, y, e⟩ := cut24 h4
    unfold frL at z
    rw [e] at z
    have all := List.filter_eq_nil_iff.mp z
    have a0 := all 0 (rng_has (by omega))
    have a1 := all 1 (rng_has (by omega))
    have a2 := all 2 (rng_has (by omega))
    simp at a0 a1 a2
    omega
  have up : (frL b t).Pairwise (· < ·) := List.Pairwise.sublist List.filter_sublist (rng_up b)
  unfold freB
  cases hl : frL b t with
  | nil => exact absurd hl ne
  | cons a r =>
    rw [hl] at up
    refine ⟨List.mem_cons_self, fun y hy => ?_⟩
    rcases List.mem_cons.mp hy with z | z
    · rw [z]; exact Int.le_refl _
    · exact Int.le_of_lt ((List.pairwise_cons.mp up).1 y z)
theorem fre_in {b : Nat} {t : List Int} (hb : 3 ≤ b) (h4 : 4 ≤ t.length) : 0 ≤ freB b t ∧ freB b t < (b : Int) := by
  have := (fr_min hb h4).1
  unfold frL at this
  have := mem_rng (List.mem_filter.mp this).1
  omega
section
local macro_rules | `(tactic| walk_at "cmpNotIn") => `(tactic| exact opd_niI (cut_map D.int t _ _))
local macro_rules | `(tactic| walk_at "call_min") => `(tactic| exact cd_minL rfl (fr_min h0.1.1 h4).1 (fr_min h0.1.1 h4).2)

abbrev s_free_block : Stmt := topS 54
theorem sc_free_block : FnScope ["form", "roots", "block"] ["form", "roots"] (defScope s_free_block) := ⟨rfl, rfl, rfl, by decide +kernel, rfl, by decide +kernel, by decide +kernel⟩
def S_free_block (cA_RootForm : Addr) : List D → Res → Prop := fun ds r => ∃ (b v : Nat) (t : List Int), ds = [.obj cA_RootForm (rtF b v), .tup (t.map .int)] ∧ (((3 ≤ b ∧ b ≤ 5) ∧ (1 ≤ v ∧ v ≤ 4)) ∧ 4 ≤ t.length) ∧ r = .ok (.int (freB b t))
theorem fd_free_block {f : Addr} {fd : FuncData} (F : Fun K "free_block" "free_block" s_free_block f fd) (gx : mg "free_block" = some (.ref f)) (hb : Binds K fd ["form", "roots"] []) (T : Txt mg)  (cl_RootForm : Cls K cA_RootForm) (na_RootForm_blocks : NoAttr K cA_RootForm "blocks") : FD P w K mg base 1 "free_block" 2 (S_free_block cA_RootForm) := by
  refine fd_of (N := ["form", "roots", "block"]) F gx hb sc_free_block (by decide) ?_
  intro cdv A outer s0_ H E ds r hr hl hS
  obtain ⟨b, v, t, rfl, ⟨h0, h4⟩, rfl⟩ := hS
  show SDs _ _ [.val (.obj cA_RootForm (rtF b v)), .val (.tup (t.map .int)), .no] _ _
  refine sds_ret (ed_callB rfl T.m_min PyProof.Rows.boot_min (ea_cons (eo_ed (eo_lc1 (t := fun k => !decide (k ∈ RW.cut t (some 2) (some (2 + 2)))) (y := "block") 2 rfl sc_free_block.nd (by first | exact wd_range1N (ed_fld (ed_var 0 rfl rfl (by walk_at "vis")) cl_RootForm na_RootForm_blocks rfl) (by walk_at "side") rfl T.m_range | exact wd_range1 (ed_fld (ed_var 0 rfl rfl (by walk_at "vis")) cl_RootForm na_RootForm_blocks rfl) (by walk_at "side") (by walk_at "side") rfl T.m_range) (blkOk_by (N := ["form", "roots", "block"]) (sc := defScope s_free_block) (by decide +kernel)) (fun sb Hb Cb clb fpb => (td_name 2 sc_free_block.nd rfl (by walk_at "loc"))) (by walk_at "len") (fun d z => by cases d <;> cases z) (fun sb Hb Cb clb fpb x hx => pts_if (by exact (et_cmp (ed_var 2 rfl rfl (by walk_at "vis")) (ed_slice (ed_var 1 rfl rfl (by walk_at "vis")) (ept_some (ed_globI rfl T.c_BLOCK)) (ept_some (ed_bin (ed_globI rfl T.c_BLOCK) (ed_globI rfl T.c_ROOTS) (by walk_at "opAdd"))) (by walk_at "sld")) (by walk_at "cmpNotIn")))) (fun sb Hb Cb clb fpb x hx ht => by exact (ed_var 2 rfl rfl (by walk_at "vis"))) (by walk_at "side") (by exact (rfl : ((frL b t).map D.int) = _)))) ea_nil) (by walk_at "call_min")) ?_
  walk_at "ret"
end

def tornP (b : Nat) (t : List Int) (x : Int) : List (Int × Int) := [(4 + freB b t, x)]
section
local macro_rules | `(tactic| walk_at "S") => `(tactic| exact ⟨b, v, t, rfl, h0, rfl⟩)

abbrev s_torn_pairs : Stmt := topS 55
theorem sc_torn_pairs : FnScope ["form", "roots", "value"] ["form", "roots", "value"] (defScope s_torn_pairs) := ⟨rfl, rfl, rfl, by decide +kernel, rfl, by decide +kernel, by decide +kernel⟩
def S_torn_pairs (cA_RootForm : Addr) : List D → Res → Prop := fun ds r => ∃ (b v : Nat) (t : List Int) (x : Int), ds = [.obj cA_RootForm (rtF b v), .tup (t.map .int), .int x] ∧ (((3 ≤ b ∧ b ≤ 5) ∧ (1 ≤ v ∧ v ≤ 4)) ∧ 4 ≤ t.length) ∧ r = .ok (.lst ((tornP b t x).map encP))
theorem fd_torn_pairs {f : Addr} {fd : FuncData} (F : Fun K "torn_pairs" "torn_pairs" s_torn_pairs f fd) (gx : mg "torn_pairs" = some (.ref f)) (hb : Binds K fd ["form", "roots", "value"] []) (T : Txt mg) (F_free_block : FD P w K mg base 1 "free_block" 2 (S_free_block cA_RootForm)) : FD P w K mg base 2 "torn_pairs" 3 (S_torn_pairs cA_RootForm) := by
  refine fd_of (N := ["form", "roots", "value"]) F gx hb sc_torn_pairs (by decide) ?_
  intro cdv A outer s0_ H E ds r hr hl hS
  obtain ⟨b, v, t, x, rfl, h0, rfl⟩ := hS
  show SDs _ _ [.val (.obj cA_RootForm (rtF b v)), .val (.tup (t.map .int)), .val (.int x)] _ _
  refine sds_ret (eo_ed (eo_lst (ea_cons (ed_tup (ea_cons (ed_bin (ed_globI rfl T.c_CONTENTS) (ed_call F_free_block (hr.mono (by decide)) rfl (ea_cons (ed_var 0 rfl rfl (by walk_at "vis")) (ea_cons (ed_var 1 rfl rfl (by walk_at "vis")) ea_nil)) (by walk_at "S")) (by walk_at "opAdd")) (ea_cons (ed_var 2 rfl rfl (by walk_at "vis")) ea_nil)) (by walk_at "len")) ea_nil) (by walk_at "len"))) ?_
  walk_at "ret"
end

def updP (b : Nat) (n : Int) (t : List Int) : List (Int × Int) := [(1 - n, (t.getD n.toNat default + 1) % 3), (2 + (1 - n), freB b t)]
section
local macro_rules | `(tactic| walk_at "S") => `(tactic| exact ⟨b, v, t, rfl, h0, rfl⟩)
local macro_rules | `(tactic| walk_at "ix") => `(tactic| (refine ixd_tup (atI_map ?_); omega))

abbrev s_updated_pairs : Stmt := topS 56
theorem sc_updated_pairs : FnScope ["form", "newer", "roots", "other"] ["form", "newer", "roots"] (defScope s_updated_pairs) := ⟨rfl, rfl, rfl, by decide +kernel, rfl, by decide +kernel, by decide +kernel⟩
def S_updated_pairs (cA_RootForm : Addr) : List D → Res → Prop := fun ds r => ∃ (b v : Nat) (n : Int) (t : List Int), ds = [.obj cA_RootForm (rtF b v), .int n, .tup (t.map .int)] ∧ ((((3 ≤ b ∧ b ≤ 5) ∧ (1 ≤ v ∧ v ≤ 4)) ∧ 4 ≤ t.length) ∧ (0 ≤ n ∧ n < 2)) ∧ r = .ok (.lst ((updP b n t).map encP))
theorem fd_updated_pairs {f : Addr} {fd : FuncData} (F : Fun K "updated_pairs" "updated_pairs" s_updated_pairs f fd) (gx : mg "updated_pairs" = some (.ref f)) (hb : Binds K fd ["form", "newer", "roots"] []) (T : Txt mg) (F_free_block : FD P w K mg base 1 "free_block" 2 (S_free_block cA_RootForm)) : FD P w K mg base 2 "updated_pairs" 3 (S_updated_pairs cA_RootForm) := by
  refine fd_of (N := ["form", "newer", "roots", "other"]) F gx hb sc_updated_pairs (by decide) ?_
  intro cdv A outer s0_ H E ds r hr hl hS
  obtain ⟨b, v, n, t, rfl, ⟨h0, hn⟩, rfl⟩ := hS
  show SDs _ _ [.val (.obj cA_RootForm (rtF b v)), .val (.int n), .val (.tup (t.map .int)), .no] _ _
  refine sds_set 3 (ed_bin ed_int (ed_var 1 rfl rfl (by walk_at "vis")) (by walk_at "opSub")) sc_updated_pairs.nd rfl (by walk_at "loc") ?_ (by walk_at "len")
  refine sds_ret (eo_ed (eo_lst (ea_cons (ed_tup (ea_cons (ed_var 3 rfl rfl (by walk_at "vis")) (ea_cons (ed_bin (ed_bin (ed_ix (ed_var 2 rfl rfl (by walk_at "vis")) (ed_var 1 rfl rfl (by walk_at "vis")) (by walk_at "ix")) ed_int (by walk_at "opAdd")) (ed_globI rfl T.c_GENERATIONS) (by walk_at "opMod")) ea_nil)) (by walk_at "len")) (ea_cons (ed_tup (ea_cons (ed_bin (ed_globI rfl T.c_BLOCK) (ed_var 3 rfl rfl (by walk_at "vis")) (by walk_at "opAdd")) (ea_cons (ed_call F_free_block (hr.mono (by decide)) rfl (ea_cons (ed_var 0 rfl rfl (by walk_at "vis")) (ea_cons (ed_var 2 rfl rfl (by walk_at "vis")) ea_nil)) (by walk_at "S")) ea_nil)) (by walk_at "len")) ea_nil)) (by walk_at "len"))) ?_
  walk_at "ret"
end

def updD (b : Nat) (n g h p q x : Int) : Deed := ⟨nmR "u" n g p q x, gdOf (enumL [g, h, p, q]), chOf (updP b n [g, h, p, q] ++ tornP b [g, h, p, q] x)⟩
theorem en4 {g h p q : Int} (H : (0 ≤ g ∧ g < 10) ∧ (0 ≤ h ∧ h < 10) ∧ (0 ≤ p ∧ p < 10) ∧ (0 ≤ q ∧ q < 10)) : ∀ z ∈ enumL [g, h, p, q], 0 ≤ z.2 ∧ z.2 ≤ 100 := fun z hz => by
  have : enumL [g, h, p, q] = [(0, g), (1, h), (2, p), (3, q)] := rfl
  rw [this] at hz
  simp only [List.mem_cons, List.not_mem_nil, or_false] at hz
  rcases hz with rfl | rfl | rfl | rfl <;> (constructor <;> dsimp only <;> omega)
section
local macro_rules | `(tactic| walk_at "S") => `(tactic| first | exact ⟨_, n, g, h, p, q, x, rfl, ⟨hy, by decide⟩, rfl⟩ | exact ⟨b, v, n, [g, h, p, q], rfl, ⟨⟨h0, (show 4 ≤ 4 by decide)⟩, hn⟩, rfl⟩ | exact ⟨b, v, [g, h, p, q], x, rfl, ⟨h0, (show 4 ≤ 4 by decide)⟩, rfl⟩ | exact ⟨enumL [g, h, p, q], rfl, ⟨en4 ⟨e1, hh, e2, e3⟩, (show 4 ≤ 1000 by decide)⟩, rfl⟩ | exact ⟨_, (by first | rfl | rw [List.map_append]), (by first | (show 1 ≤ 1000; decide) | (show 3 ≤ 1000; decide)), rfl⟩)
local macro_rules | `(tactic| walk_at "side") => `(tactic| first | walk_at "side0" | (rw [List.length_map, List.length_map]; show 2 + 1 ≤ _; decide))

abbrev s_update_deed : Stmt := topS 52
theorem sc_update_deed : FnScope ["form", "newer", "roots", "value", "pairs"] ["form", "newer", "roots", "value"] (defScope s_update_deed) := ⟨rfl, rfl, rfl, by decide +kernel, rfl, by decide +kernel, by decide +kernel⟩
def S_update_deed (cA_RootForm : Addr) : List D → Res → Prop := fun ds r => ∃ (b v : Nat) (n g h p q x : Int), ds = [.obj cA_RootForm (rtF b v), .int n, .tup [.int g, .int h, .int p, .int q], .int x] ∧ ((((3 ≤ b ∧ b ≤ 5) ∧ (1 ≤ v ∧ v ≤ 4)) ∧ (0 ≤ n ∧ n < 2)) ∧ (∀ y ∈ [n, g, p, q, x], 0 ≤ y ∧ y < 10) ∧ (0 ≤ h ∧ h < 10)) ∧ r = .ok (encDeed (updD b n g h p q x))
theorem fd_update_deed {f : Addr} {fd : FuncData} (F : Fun K "update_deed" "update_deed" s_update_deed f fd) (gx : mg "update_deed" = some (.ref f)) (hb : Binds K fd ["form", "newer", "roots", "value"] []) (T : Txt mg) (F_changes_of : FD P w K mg base 1 "changes_of" 1 S_changes_of) (F_deed_name : FD P w K mg base 2 "deed_name" 4 S_deed_name) (F_guard_of : FD P w K mg base 1 "guard_of" 1 S_guard_of) (F_torn_pairs : FD P w K mg base 2 "torn_pairs" 3 (S_torn_pairs cA_RootForm)) (F_updated_pairs : FD P w K mg base 2 "updated_pairs" 3 (S_updated_pairs cA_RootForm)) : FD P w K mg base 3 "update_deed" 4 (S_update_deed cA_RootForm) := by
  refine fd_of (N := ["form", "newer", "roots", "value", "pairs"]) F gx hb sc_update_deed (by decide) ?_
  intro cdv A outer s0_ H E ds r hr hl hS
  obtain ⟨b, v, n, g, h, p, q, x, rfl, ⟨⟨h0, hn⟩, hy, hh⟩, rfl⟩ := hS
  show SDs _ _ [.val (.obj cA_RootForm (rtF b v)), .val (.int n), .val (.tup [.int g, .int h, .int p, .int q]), .val (.int x), .no] _ _
  have e1 := hy g (by simp); have e2 := hy p (by simp); have e3 := hy q (by simp)
  refine sds_set 4 (ed_bin (ed_call F_updated_pairs (hr.mono (by decide)) rfl (ea_cons (ed_var 0 rfl rfl (by walk_at "vis")) (ea_cons (ed_var 1 rfl rfl (by walk_at "vis")) (ea_cons (ed_var 2 rfl rfl (by walk_at "vis")) ea_nil))) (by walk_at "S")) (ed_call F_torn_pairs (hr.mono (by decide)) rfl (ea_cons (ed_var 0 rfl rfl (by walk_at "vis")) (ea_cons (ed_var 2 rfl rfl (by walk_at "vis")) (ea_cons (ed_var 3 rfl rfl (by walk_at "vis")) ea_nil))) (by walk_at "S")) (by walk_at "opAdd")) sc_update_deed.nd rfl (by walk_at "loc") ?_ (by walk_at "len")
  refine sds_ret (ed_tup (ea_cons (ed_call F_deed_name (hr.mono (by decide)) rfl (ea_cons ed_str (ea_cons (ed_var 1 rfl rfl (by walk_at "vis")) (ea_cons (ed_var 2 rfl rfl (by walk_at "vis")) (ea_cons (ed_var 3 rfl rfl (by walk_at "vis")) ea_nil)))) (by walk_at "S")) (ea_cons (ed_call F_guard_of (hr.mono (by decide)) rfl (ea_cons (eo_ed (eo_listEnI rfl rfl T.m_list rfl T.m_enumerate (ed_var 2 rfl rfl (by walk_at "vis")))) ea_nil) (by walk_at "S")) (ea_cons (ed_call F_changes_of (hr.mono (by decide)) rfl (ea_cons (ed_var 4 rfl rfl (by walk_at "vis")) ea_nil) (by walk_at "S")) ea_nil))) (by walk_at "len")) ?_
  walk_at "ret"
end

def torD (b : Nat) (n g h p q x : Int) : Deed := ⟨nmR "t" n g p q x, gdOf (enumL [g, h, p, q]), chOf (tornP b [g, h, p, q] x)⟩
section
local macro_rules | `(tactic| walk_at "S") => `(tactic| first | exact ⟨_, n, g, h, p, q, x, rfl, ⟨hy, by decide⟩, rfl⟩ | exact ⟨b, v, n, [g, h, p, q], rfl, ⟨⟨h0, (show 4 ≤ 4 by decide)⟩, hn⟩, rfl⟩ | exact ⟨b, v, [g, h, p, q], x, rfl, ⟨h0, (show 4 ≤ 4 by decide)⟩, rfl⟩ | exact ⟨enumL [g, h, p, q], rfl, ⟨en4 ⟨e1, hh, e2, e3⟩, (show 4 ≤ 1000 by decide)⟩, rfl⟩ | exact ⟨_, (by first | rfl | rw [List.map_append]), (by first | (show 1 ≤ 1000; decide) | (show 3 ≤ 1000; decide)), rfl⟩)
local macro_rules | `(tactic| walk_at "side") => `(tactic| first | walk_at "side0" | (rw [List.length_map, List.length_map]; show 2 + 1 ≤ _; decide))

abbrev s_torn_deed : Stmt := topS 53
theorem sc_torn_deed : FnScope ["form", "newer", "roots", "value"] ["form", "newer", "roots", "value"] (defScope s_torn_deed) := ⟨rfl, rfl, rfl, by decide +kernel, rfl, by decide +kernel, by decide +kernel⟩
def S_torn_deed (cA_RootForm : Addr) : List D → Res → Prop := fun ds r => ∃ (b v : Nat) (n g h p q x : Int), ds = [.obj cA_RootForm (rtF b v), .int n, .tup [.int g, .int h, .int p, .int q], .int x] ∧ ((((3 ≤ b ∧ b ≤ 5) ∧ (1 ≤ v ∧ v ≤ 4)) ∧ (0 ≤ n ∧ n < 2)) ∧ (∀ y ∈ [n, g, p, q, x], 0 ≤ y ∧ y < 10) ∧ (0 ≤ h ∧ h < 10)) ∧ r = .ok (encDeed (torD b n g h p q x))
theorem fd_torn_deed {f : Addr} {fd : FuncData} (F : Fun K "torn_deed" "torn_deed" s_torn_deed f fd) (gx : mg "torn_deed" = some (.ref f)) (hb : Binds K fd ["form", "newer", "roots", "value"] []) (T : Txt mg) (F_changes_of : FD P w K mg base 1 "changes_of" 1 S_changes_of) (F_deed_name : FD P w K mg base 2 "deed_name" 4 S_deed_name) (F_guard_of : FD P w K mg base 1 "guard_of" 1 S_guard_of) (F_torn_pairs : FD P w K mg base 2 "torn_pairs" 3 (S_torn_pairs cA_RootForm)) : FD P w K mg base 3 "torn_deed" 4 (S_torn_deed cA_RootForm) := by
  refine fd_of (N := ["form", "newer", "roots", "value"]) F gx hb sc_torn_deed (by decide) ?_
  intro cdv A outer s0_ H E ds r hr hl hS
  obtain ⟨b, v, n, g, h, p, q, x, rfl, ⟨⟨h0, hn⟩, hy, hh⟩, rfl⟩ := hS
  show SDs _ _ [.val (.obj cA_RootForm (rtF b v)), .val (.int n), .val (.tup [.int g, .int h, .int p, .int q]), .val (.int x)] _ _
  have e1 := hy g (by simp); have e2 := hy p (by simp); have e3 := hy q (by simp)
  refine sds_ret (ed_tup (ea_cons (ed_call F_deed_name (hr.mono (by decide)) rfl (ea_cons ed_str (ea_cons (ed_var 1 rfl rfl (by walk_at "vis")) (ea_cons (ed_var 2 rfl rfl (by walk_at "vis")) (ea_cons (ed_var 3 rfl rfl (by walk_at "vis")) ea_nil)))) (by walk_at "S")) (ea_cons (ed_call F_guard_of (hr.mono (by decide)) rfl (ea_cons (eo_ed (eo_listEnI rfl rfl T.m_list rfl T.m_enumerate (ed_var 2 rfl rfl (by walk_at "vis")))) ea_nil) (by walk_at "S")) (ea_cons (ed_call F_changes_of (hr.mono (by decide)) rfl (ea_cons (ed_call F_torn_pairs (hr.mono (by decide)) rfl (ea_cons (ed_var 0 rfl rfl (by walk_at "vis")) (ea_cons (ed_var 2 rfl rfl (by walk_at "vis")) (ea_cons (ed_var 3 rfl rfl (by walk_at "vis")) ea_nil))) (by walk_at "S")) ea_nil) (by walk_at "S")) ea_nil))) (by walk_at "len")) ?_
  walk_at "ret"
end

abbrev lowS : Str := "abcdefghijklmnopqrstuvwxyz"
abbrev lowdigS : Str := "abcdefghijklmnopqrstuvwxyz0123456789"
def isName (w : Str) : Bool := if (!(decide ((1 : Int) ≤ (w.length : Int)) && decide ((w.length : Int) ≤ 12)) || !decide (w.cps.toList.getD 0 0 ∈ lowS.cps.toList)) = true then false else (w.cps.toList.map fun c => decide (c ∈ lowdigS.cps.toList)).all id
theorem first_at {w : Str} (h : 1 ≤ w.length) : atI w.cps.toList 0 = some (w.cps.toList.getD 0 0) := by
  have h1 : 0 < w.cps.toList.length := by rw [Array.length_toList]; exact h
  refine atI_nat (j := 0) ?_
  rw [List.getD_eq_getElem?_getD, List.getElem?_eq_getElem h1]; rfl
section
local macro_rules | `(tactic| walk_at "ix") => `(tactic| (refine ixd_str (c := w.cps.toList.getD 0 0) (first_at ?_) h0; (simp only [Bool.not_eq_false', Bool.and_eq_true, decide_eq_true_eq] at hb; omega)))
local macro_rules | `(tactic| walk_at "side") => `(tactic| first | walk_at "side0" | (show w.cps.toList.length < _; rw [Array.length_toList]; omega) | (rw [Array.length_toList]; simp only [Bool.or_eq_false_iff, Bool.not_eq_false', Bool.and_eq_true, decide_eq_true_eq] at hc1; have := hc1.1.2; show w.length < _; omega))
abbrev s_is_name : Stmt := topS 17
theorem sc_is_name : FnScope ["word", "letter"] ["word"] (defScope s_is_name) := ⟨rfl, rfl, rfl, by decide +kernel, rfl, by decide +kernel, by decide +kernel⟩
def S_is_name : List D → Res → Prop := fun ds r => ∃ (w : Str), ds = [.str w] ∧ w.length ≤ 1000000 ∧ r = .ok (.bl (isName w))
theorem fd_is_name {f : Addr} {fd : FuncData} (F : Fun K "is_name" "is_name" s_is_name f fd) (gx : mg "is_name" = some (.ref f)) (hb : Binds K fd ["word"] []) (T : Txt mg)  : FD P w K mg base 1 "is_name" 1 S_is_name := by
  refine fd_of (N := ["word", "letter"]) F gx hb sc_is_name (by decide) ?_
  intro cdv A outer s0_ H E ds r hr hl hS
  obtain ⟨w, rfl, h0, rfl⟩ := hS
  show SDs _ _ [.val (.str w), .no] _ _
  refine sds_if (et_w (ew_or (et_not (et_chain ed_int (ed_callB rfl T.m_len PySem.boot_len (ea_cons (ed_var 0 rfl rfl (by walk_at "vis")) ea_nil) (by walk_at "call_len")) (ed_globI rfl T.c_LONGEST_NAME) (by walk_at "cmpLtE") (by walk_at "cmpLtE"))) (fun hb => (ew_or1 (et_cmp (ed_ix (ed_var 0 rfl rfl (by walk_at "vis")) ed_int (by walk_at "ix")) (ed_globS rfl T.c_LETTERS) (by walk_at "cmpNotIn")))))) (fun hc1 => ?_) (fun hc1 => ?_)
  · have hc1d := hc1
    try simp only [Bool.and_eq_true, Bool.or_eq_true, decide_eq_true_eq, decide_eq_false_iff_not, Bool.not_eq_true', Bool.not_eq_false', Bool.and_eq_false_iff, Bool.or_eq_false_iff] at hc1d
    refine sds_ret ed_bl ?_
    show Res.ok _ = Res.ok _; unfold isName; first | (rw [if_pos hc1]; done) | (refine congrArg (fun q => Res.ok (D.bl q)) (if_neg ?_); rw [hc1]; exact Bool.false_ne_true)
  · have hc1d := hc1
    try simp only [Bool.and_eq_true, Bool.or_eq_true, decide_eq_true_eq, decide_eq_false_iff_not, Bool.not_eq_true', Bool.not_eq_false', Bool.and_eq_false_iff, Bool.or_eq_false_iff] at hc1d
    refine sds_go ?_
    refine sds_ret (ed_callB rfl T.m_all RW.boot_all (ea_cons (eo_ed (eo_lc1 (y := "letter") 1 rfl sc_is_name.nd (by first | exact wd_list (ed_var 0 rfl rfl (by walk_at "vis")) | exact wd_tup (ed_var 0 rfl rfl (by walk_at "vis")) | exact wd_str (ed_var 0 rfl rfl (by walk_at "vis"))) (blkOk_by (N := ["word", "letter"]) (sc := defScope s_is_name) (by decide +kernel)) (fun sb Hb Cb clb fpb => (td_name 1 sc_is_name.nd rfl (by walk_at "loc"))) (by walk_at "len") (fun d z => by cases d <;> cases z) (fun sb Hb Cb clb fpb x hx => pts_no) (fun sb Hb Cb clb fpb x hx ht => by exact (ed_cmp (ed_var 1 rfl rfl (by walk_at "vis")) (ed_globS rfl T.c_LETTERS_AND_DIGITS) (by walk_at "cmpIn"))) (by walk_at "side") (by exact lcr_bl (F := fun c => decide (c ∈ lowdigS.cps.toList))))) ea_nil) (by walk_at "call_all")) ?_
    show Res.ok _ = Res.ok _; unfold isName; first | (rw [if_pos hc1]; done) | (refine congrArg (fun q => Res.ok (D.bl q)) (if_neg ?_); rw [hc1]; exact Bool.false_ne_true)
end

def asc (n : Nat) : Int → List Int → Bool
  | _, [] => true
  | l, c :: r => (decide (l < c) && decide (c < (n : Int))) && asc n c r
def ascOut (n : Nat) (c l : Int) : Option Res := if (!(decide (l < c) && decide (c < (n : Int)))) = true then some (.ok (.bl false)) else none
theorem asc_loop (n : Nat) : ∀ (cs : List Int) (l : Int), (∀ s, loopX (ascOut n) (fun c _ => c) cs l = .inl s → asc n l cs = true) ∧ (∀ d, loopX (ascOut n) (fun c _ => c) cs l = .inr (.ok d) → d = .bl (asc n l cs)) ∧ ∀ c fs, loopX (ascOut n) (fun c _ => c) cs l ≠ .inr (.er c fs)
  | [], l => ⟨fun _ _ => rfl, (fun d h => nomatch h), (fun c fs h => nomatch h)⟩
  | c :: r, l => by
    obtain ⟨h1, h2, h3⟩ := asc_loop n r c
    rw [loopX_cons]
    unfold ascOut
    by_cases z : (!(decide (l < c) && decide (c < (n : Int)))) = true
    · rw [if_pos z]
      have e : asc n l (c :: r) = false := by
        show ((decide (l < c) && decide (c < (n : Int))) && asc n c r) = false
        rw [nbt z]; rfl
      refine ⟨(fun s h => nomatch h), fun d h => ?_, (fun c fs h => nomatch h)⟩
      cases h; rw [e]
    · rw [if_neg z]
      have e : asc n l (c :: r) = asc n c r := by
        show ((decide (l < c) && decide (c < (n : Int))) && asc n c r) = asc n c r
        have : (decide (l < c) && decide (c < (n : Int))) = true := by simpa using z
        rw [this, Bool.true_and]
      rw [e]
      exact ⟨h1, h2, h3⟩
theorem asc_rng (n : Nat) : ∀ (cs : List Int) (l : Int), asc n l cs = true → ∀ c ∈ cs, l < c ∧ c < (n : Int)
  | [], _, _, c, h => by cases h
  | x :: r, l, h, c, hc => by
    have h' : ((decide (l < x) && decide (x < (n : Int))) && asc n x r) = true := h
    simp only [Bool.and_eq_true, decide_eq_true_eq] at h'
    rcases List.mem_cons.mp hc with e | e
    · rw [e]; exact h'.1
    · have := asc_rng n r x h'.2 c e
      omega
abbrev s_ascend : Stmt := topS 22
theorem sc_ascend : FnScope ["full", "cells", "last", "cell"] ["full", "cells"] (defScope s_ascend) := ⟨rfl, rfl, rfl, by decide +kernel, rfl, by decide +kernel, by decide +kernel⟩
def S_ascend : List D → Res → Prop := fun ds r => ∃ (full cells : List Int), ds = [.tup (full.map .int), .lst (cells.map .int)] ∧ r = .ok (.bl (asc full.length (-1) cells))
theorem fd_ascend {f : Addr} {fd : FuncData} (F : Fun K "ascend" "ascend" s_ascend f fd) (gx : mg "ascend" = some (.ref f)) (hb : Binds K fd ["full", "cells"] []) (T : Txt mg)  : FD P w K mg base 1 "ascend" 2 S_ascend := by
  refine fd_of (N := ["full", "cells", "last", "cell"]) F gx hb sc_ascend (by decide) ?_
  intro cdv A outer s0_ H E ds r hr hl hS
  obtain ⟨full, cells, rfl, rfl⟩ := hS
  show SDs _ _ [.val (.tup (full.map .int)), .val (.lst (cells.map .int)), .no, .no] _ _
  refine sds_set 2 (ed_un ed_int (by walk_at "unUSub")) sc_ascend.nd rfl (by walk_at "loc") ?_ (by walk_at "len")
  refine sds_loop (fun l => [.val (.tup (full.map .int)), .val (.lst (cells.map .int)), .val (.int l), .no]) (ascOut full.length) (fun c _ => c) (fun _ _ => True) (-1) (by walk_at "pass") rfl (by first | exact wd_list (ed_var 1 rfl rfl (by walk_at "vis")) | exact wd_tup (ed_var 1 rfl rfl (by walk_at "vis")) | exact wd_str (ed_var 1 rfl rfl (by walk_at "vis"))) (td_name 3 sc_ascend.nd rfl (by walk_at "loc")) (by repeat first | exact Wk.nil | refine Wk.no ?_ | refine Wk.eq ?_ | refine Wk.frz ?_ | (refine Wk.eq' ?hh ?_; (case hh => first | (simp only [List.map_append, List.map_cons, List.map_nil, if_true, if_false, and_self, and_true, true_and, and_false, false_and, not_true_eq_false, not_false_eq_true, reduceIte]; done) | (simp []; done))) | (refine Wk.frzE ?hh ?_; (case hh => first | (simp only [List.map_append, List.map_cons, List.map_nil, if_true, if_false, and_self, and_true, true_and, and_false, false_and, not_true_eq_false, not_false_eq_true, reduceIte]; done) | (simp []; done)))) (by trivial) ?_ ?_ ?_ ?_
  · intro i c l hx hP
    refine ⟨_, (by walk_at "tgt"), ?_⟩
    refine sds_if (et_not (et_chain (ed_var 2 rfl rfl (by walk_at "vis")) (ed_var 3 rfl rfl (by walk_at "vis")) (ed_callB rfl T.m_len PySem.boot_len (ea_cons (ed_var 0 rfl rfl (by walk_at "vis")) ea_nil) (by walk_at "call_len")) (by walk_at "cmpLt") (by walk_at "cmpLt"))) (fun hc1 => ?_) (fun hc1 => ?_)
    · have hc1d := hc1
      try simp only [Bool.and_eq_true, Bool.or_eq_true, decide_eq_true_eq, decide_eq_false_iff_not, Bool.not_eq_true', Bool.not_eq_false', Bool.and_eq_false_iff, Bool.or_eq_false_iff] at hc1d
      refine sds_ret ed_bl ?_
      unfold ascOut; rw [if_pos hc1]
    · have hc1d := hc1
      try simp only [Bool.and_eq_true, Bool.or_eq_true, decide_eq_true_eq, decide_eq_false_iff_not, Bool.not_eq_true', Bool.not_eq_false', Bool.and_eq_false_iff, Bool.or_eq_false_iff] at hc1d
      refine sds_go ?_
      refine sds_set 2 (ed_var 3 rfl rfl (by walk_at "vis")) sc_ascend.nd rfl (by walk_at "loc") ?_ (by walk_at "len")
      refine sds_nil ⟨⟨?_, ?_⟩, rfl⟩ ?_
      · unfold ascOut; rw [if_neg (by rw [hc1]; exact Bool.false_ne_true)]
      · trivial
      · repeat first | exact Wk.nil | refine Wk.no ?_ | refine Wk.eq ?_ | refine Wk.frz ?_ | (refine Wk.eq' ?hh ?_; (case hh => first | (simp only [hc1d, hc1, List.map_append, List.map_cons, List.map_nil, if_true, if_false, and_self, and_true, true_and, and_false, false_and, not_true_eq_false, not_false_eq_true, reduceIte]; done) | (simp [hc1d, hc1]; done))) | (refine Wk.frzE ?hh ?_; (case hh => first | (simp only [hc1d, hc1, List.map_append, List.map_cons, List.map_nil, if_true, if_false, and_self, and_true, true_and, and_false, false_and, not_true_eq_false, not_false_eq_true, reduceIte]; done) | (simp [hc1d, hc1]; done)))
  · intro l hP hL
    refine sds_ret ed_bl ?_
    rw [(asc_loop full.length cells (-1)).1 _ hL]
  · intro d hL q_
    rw [(asc_loop full.length cells (-1)).2.1 d hL]
  · intro _ c fs hL
    exact absurd hL ((asc_loop full.length cells (-1)).2.2 _ _)

def srcOk (full : List Int) (k : Int) (w : Str) (n : Int) : Bool :=
  if w = "set" then decide ((0 : Int) ≤ n) && decide (n < ((Builtin.Int.intBits (full.getD k.toNat default) : Nat) : Int))
  else if w = "copy" then (decide ((0 : Int) ≤ n) && decide (n < (full.length : Int))) && decide (full.getD n.toNat default ≤ full.getD k.toNat default) else false
section
local macro_rules | `(tactic| walk_at "side") => `(tactic| first | walk_at "side0" | (simp only [Bool.and_eq_true, decide_eq_true_eq, Bool.not_eq_false', Bool.not_eq_true'] at hb; first | omega | (constructor <;> omega)))
abbrev s_is_source : Stmt := topS 23
theorem sc_is_source : FnScope ["full", "cell", "source", "word", "number"] ["full", "cell", "source"] (defScope s_is_source) := ⟨rfl, rfl, rfl, by decide +kernel, rfl, by decide +kernel, by decide +kernel⟩
def S_is_source : List D → Res → Prop := fun ds r => ∃ (full : List Int) (k : Int) (w : Str) (n : Int), ds = [.tup (full.map .int), .int k, .tup [.str w, .int n]] ∧ (0 ≤ k ∧ k < full.length) ∧ r = .ok (.bl (srcOk full k w n))
theorem fd_is_source {f : Addr} {fd : FuncData} (F : Fun K "is_source" "is_source" s_is_source f fd) (gx : mg "is_source" = some (.ref f)) (hb : Binds K fd ["full", "cell", "source"] []) (T : Txt mg)  : FD P w K mg base 1 "is_source" 3 S_is_source := by
  refine fd_of (N := ["full", "cell", "source", "word", "number"]) F gx hb sc_is_source (by decide) ?_
  intro cdv A outer s0_ H E ds r hr hl hS
  obtain ⟨full, k, w, n, rfl, h0, rfl⟩ := hS
  show SDs _ _ [.val (.tup (full.map .int)), .val (.int k), .val (.tup [.str w, .int n]), .no, .no] _ _
  refine sds_tgt (ed_var 2 rfl rfl (by walk_at "vis")) (td_pair 3 4 rfl sc_is_source.nd rfl (by walk_at "loc") rfl (by walk_at "loc")) (pairF (by walk_at "len") (by walk_at "len")) ?_
  refine sds_if (et_cmp (ed_var 3 rfl rfl (by walk_at "vis")) ed_str (by walk_at "cmpEq")) (fun hc1 => ?_) (fun hc1 => ?_)
  · have hc1d := hc1
    try simp only [Bool.and_eq_true, Bool.or_eq_true, decide_eq_true_eq, decide_eq_false_iff_not, Bool.not_eq_true', Bool.not_eq_false', Bool.and_eq_false_iff, Bool.or_eq_false_iff] at hc1d
    refine sds_ret (ed_chain ed_int (ed_var 4 rfl rfl (by walk_at "vis")) (ed_bits (ed_ix (ed_var 0 rfl rfl (by walk_at "vis")) (ed_var 1 rfl rfl (by walk_at "vis")) (by walk_at "ix"))) (by walk_at "cmpLtE") (by walk_at "cmpLt")) ?_
    show Res.ok _ = Res.ok _; unfold srcOk; first | (rw [if_pos (of_decide_eq_true hc1)]) | (rw [if_neg (of_decide_eq_false hc1), if_pos (of_decide_eq_true hc2)]) | (rw [if_neg (of_decide_eq_false hc1), if_neg (of_decide_eq_false hc2)])
  · have hc1d := hc1
    try simp only [Bool.and_eq_true, Bool.or_eq_true, decide_eq_true_eq, decide_eq_false_iff_not, Bool.not_eq_true', Bool.not_eq_false', Bool.and_eq_false_iff, Bool.or_eq_false_iff] at hc1d
    refine sds_go ?_
    refine sds_if (et_cmp (ed_var 3 rfl rfl (by walk_at "vis")) ed_str (by walk_at "cmpEq")) (fun hc2 => ?_) (fun hc2 => ?_)
    · have hc2d := hc2
      try simp only [Bool.and_eq_true, Bool.or_eq_true, decide_eq_true_eq, decide_eq_false_iff_not, Bool.not_eq_true', Bool.not_eq_false', Bool.and_eq_false_iff, Bool.or_eq_false_iff] at hc2d
      refine sds_ret (ed_and (ed_chain ed_int (ed_var 4 rfl rfl (by walk_at "vis")) (ed_callB rfl T.m_len PySem.boot_len (ea_cons (ed_var 0 rfl rfl (by walk_at "vis")) ea_nil) (by walk_at "call_len")) (by walk_at "cmpLtE") (by walk_at "cmpLt")) (fun hb => (ed_one (ed_cmp (ed_ix (ed_var 0 rfl rfl (by walk_at "vis")) (ed_var 4 rfl rfl (by walk_at "vis")) (by walk_at "ix")) (ed_ix (ed_var 0 rfl rfl (by walk_at "vis")) (ed_var 1 rfl rfl (by walk_at "vis")) (by walk_at "ix")) (by walk_at "cmpLtE"))))) ?_
      show Res.ok _ = Res.ok _; unfold srcOk; first | (rw [if_pos (of_decide_eq_true hc1)]) | (rw [if_neg (of_decide_eq_false hc1), if_pos (of_decide_eq_true hc2)]) | (rw [if_neg (of_decide_eq_false hc1), if_neg (of_decide_eq_false hc2)])
    · have hc2d := hc2
      try simp only [Bool.and_eq_true, Bool.or_eq_true, decide_eq_true_eq, decide_eq_false_iff_not, Bool.not_eq_true', Bool.not_eq_false', Bool.and_eq_false_iff, Bool.or_eq_false_iff] at hc2d
      refine sds_go ?_
      refine sds_ret ed_bl ?_
      show Res.ok _ = Res.ok _; unfold srcOk; first | (rw [if_pos (of_decide_eq_true hc1)]) | (rw [if_neg (of_decide_eq_false hc1), if_pos (of_decide_eq_true hc2)]) | (rw [if_neg (of_decide_eq_false hc1), if_neg (of_decide_eq_false hc2)])
end

def fitsB (full s : List Int) : Bool := if (!decide ((s.length : Int) = (full.length : Int))) = true then false else (s.zip full).all fun q => decide (1 ≤ q.1) && decide (q.1 ≤ q.2)
abbrev s_fits : Stmt := topS 24
theorem sc_fits : FnScope ["full", "sketch", "mask", "most"] ["full", "sketch"] (defScope s_fits) := ⟨rfl, rfl, rfl, by decide +kernel, rfl, by decide +kernel, by decide +kernel⟩
def S_fits : List D → Res → Prop := fun ds r => ∃ (full s : List Int), ds = [.tup (full.map .int), .tup (s.map .int)] ∧ r = .ok (.bl (fitsB full s))
theorem fd_fits {f : Addr} {fd : FuncData} (F : Fun K "fits" "fits" s_fits f fd) (gx : mg "fits" = some (.ref f)) (hb : Binds K fd ["full", "sketch"] []) (T : Txt mg)  : FD P w K mg base 1 "fits" 2 S_fits := by
  refine fd_of (N := ["full", "sketch", "mask", "most"]) F gx hb sc_fits (by decide) ?_
  intro cdv A outer s0_ H E ds r hr hl hS
  obtain ⟨full, s, rfl, rfl⟩ := hS
  show SDs _ _ [.val (.tup (full.map .int)), .val (.tup (s.map .int)), .no, .no] _ _
  refine sds_if (et_cmp (ed_callB rfl T.m_len PySem.boot_len (ea_cons (ed_var 1 rfl rfl (by walk_at "vis")) ea_nil) (by walk_at "call_len")) (ed_callB rfl T.m_len PySem.boot_len (ea_cons (ed_var 0 rfl rfl (by walk_at "vis")) ea_nil) (by walk_at "call_len")) (by walk_at "cmpNotEq")) (fun hc1 => ?_) (fun hc1 => ?_)
  · have hc1d := hc1
    try simp only [Bool.and_eq_true, Bool.or_eq_true, decide_eq_true_eq, decide_eq_false_iff_not, Bool.not_eq_true', Bool.not_eq_false', Bool.and_eq_false_iff, Bool.or_eq_false_iff] at hc1d
    refine sds_ret ed_bl ?_
    show Res.ok _ = Res.ok _; unfold fitsB; first | (rw [if_pos hc1]) | (rw [if_neg (by rw [hc1]; exact Bool.false_ne_true), hc1])
  · have hc1d := hc1
    try simp only [Bool.and_eq_true, Bool.or_eq_true, decide_eq_true_eq, decide_eq_false_iff_not, Bool.not_eq_true', Bool.not_eq_false', Bool.and_eq_false_iff, Bool.or_eq_false_iff] at hc1d
    refine sds_go ?_
    refine sds_all ([.val (.tup (full.map .int)), .val (.tup (s.map .int)), .no, .no]) (fun q : Int × Int => decide (1 ≤ q.1) && decide (q.1 ≤ q.2)) (.bl false) (by walk_at "pass") rfl (by first | exact wd_zipTm (ed_var 1 rfl rfl (by walk_at "vis")) (ed_var 0 rfl rfl (by walk_at "vis")) rfl T.m_zip | exact wd_zipLm (ed_var 1 rfl rfl (by walk_at "vis")) (ed_var 0 rfl rfl (by walk_at "vis")) rfl T.m_zip | exact wd_zipTL (ed_var 1 rfl rfl (by walk_at "vis")) (ed_var 0 rfl rfl (by walk_at "vis")) rfl T.m_zip | exact wd_zipLT (ed_var 1 rfl rfl (by walk_at "vis")) (ed_var 0 rfl rfl (by walk_at "vis")) rfl T.m_zip) (td_pair 2 3 rfl sc_fits.nd rfl (by walk_at "loc") rfl (by walk_at "loc")) (by repeat first | exact Wk.nil | refine Wk.no ?_ | refine Wk.eq ?_ | refine Wk.frz ?_ | (refine Wk.eq' ?hh ?_; (case hh => first | (simp only [List.map_append, List.map_cons, List.map_nil, if_true, if_false, and_self, and_true, true_and, and_false, false_and, not_true_eq_false, not_false_eq_true, reduceIte]; done) | (simp []; done))) | (refine Wk.frzE ?hh ?_; (case hh => first | (simp only [List.map_append, List.map_cons, List.map_nil, if_true, if_false, and_self, and_true, true_and, and_false, false_and, not_true_eq_false, not_false_eq_true, reduceIte]; done) | (simp []; done)))) ?_ ?_ ?_
    · intro i x hx
      refine ⟨_, (by walk_at "tgt"), ?_⟩
      refine sds_if (et_not (et_chain ed_int (ed_var 2 rfl rfl (by walk_at "vis")) (ed_var 3 rfl rfl (by walk_at "vis")) (by walk_at "cmpLtE") (by walk_at "cmpLtE"))) (fun hc2 => ?_) (fun hc2 => ?_)
      · have hc2d := hc2
        try simp only [Bool.and_eq_true, Bool.or_eq_true, decide_eq_true_eq, decide_eq_false_iff_not, Bool.not_eq_true', Bool.not_eq_false', Bool.and_eq_false_iff, Bool.or_eq_false_iff] at hc2d
        refine sds_ret ed_bl ?_
        refine ⟨?_, rfl⟩
        exact nbt hc2
      · have hc2d := hc2
        try simp only [Bool.and_eq_true, Bool.or_eq_true, decide_eq_true_eq, decide_eq_false_iff_not, Bool.not_eq_true', Bool.not_eq_false', Bool.and_eq_false_iff, Bool.or_eq_false_iff] at hc2d
        refine sds_go ?_
        refine sds_nil ⟨?_, rfl⟩ ?_
        · exact nbf hc2
        · repeat first | exact Wk.nil | refine Wk.no ?_ | refine Wk.eq ?_ | refine Wk.frz ?_ | (refine Wk.eq' ?hh ?_; (case hh => first | (simp only [List.map_append, List.map_cons, List.map_nil, if_true, if_false, and_self, and_true, true_and, and_false, false_and, not_true_eq_false, not_false_eq_true, reduceIte]; done) | (simp []; done))) | (refine Wk.frzE ?hh ?_; (case hh => first | (simp only [List.map_append, List.map_cons, List.map_nil, if_true, if_false, and_self, and_true, true_and, and_false, false_and, not_true_eq_false, not_false_eq_true, reduceIte]; done) | (simp []; done)))
    · intro hc3
      refine sds_ret ed_bl ?_
      show Res.ok _ = Res.ok _; unfold fitsB; first | (rw [if_pos hc1]) | (rw [if_neg (by rw [hc1]; exact Bool.false_ne_true), hc3])
    · intro hc3 q_
      show Res.ok _ = Res.ok _; unfold fitsB; first | (rw [if_pos hc1]) | (rw [if_neg (by rw [hc1]; exact Bool.false_ne_true), hc3])

def guardOk (full : List Int) (g : List (Int × Int)) : Bool := if (!asc full.length (-1) (g.map fun q => q.1)) = true then false else (g.map fun q => decide ((1 : Int) ≤ q.2) && decide (q.2 ≤ full.getD q.1.toNat default)).all id
abbrev s_is_guard : Stmt := topS 20
theorem sc_is_guard : FnScope ["full", "guard", "cell", "mask"] ["full", "guard"] (defScope s_is_guard) := ⟨rfl, rfl, rfl, by decide +kernel, rfl, by decide +kernel, by decide +kernel⟩
def S_is_guard : List D → Res → Prop := fun ds r => ∃ (full : List Int) (g : List (Int × Int)), ds = [.tup (full.map .int), .tup (g.map encP)] ∧ g.length ≤ 1000 ∧ r = .ok (.bl (guardOk full g))
theorem fd_is_guard {f : Addr} {fd : FuncData} (F : Fun K "is_guard" "is_guard" s_is_guard f fd) (gx : mg "is_guard" = some (.ref f)) (hb : Binds K fd ["full", "guard"] []) (T : Txt mg) (F_ascend : FD P w K mg base 1 "ascend" 2 S_ascend) : FD P w K mg base 2 "is_guard" 2 S_is_guard := by
  refine fd_of (N := ["full", "guard", "cell", "mask"]) F gx hb sc_is_guard (by decide) ?_
  intro cdv A outer s0_ H E ds r hr hl hS
  obtain ⟨full, g, rfl, h0, rfl⟩ := hS
  show SDs _ _ [.val (.tup (full.map .int)), .val (.tup (g.map encP)), .no, .no] _ _
  refine sds_if (et_not (et_val (ed_call F_ascend (hr.mono (by decide)) rfl (ea_cons (ed_var 0 rfl rfl (by walk_at "vis")) (ea_cons (eo_ed (eo_lc2 (y := "cell") (z := "mask") 2 3 rfl sc_is_guard.nd (by first | exact wd_list (ed_var 1 rfl rfl (by walk_at "vis")) | exact wd_tup (ed_var 1 rfl rfl (by walk_at "vis")) | exact wd_str (ed_var 1 rfl rfl (by walk_at "vis"))) (blkOk_by (N := ["full", "guard", "cell", "mask"]) (sc := defScope s_is_guard) (by decide +kernel)) (fun sb Hb Cb clb fpb => (td_pair 2 3 rfl sc_is_guard.nd rfl (by walk_at "loc") rfl (by walk_at "loc"))) (by decide) (by walk_at "len") (by walk_at "len") (fun d z => by cases d <;> cases z) (fun d z => by cases d <;> cases z) (fun sb Hb Cb clb fpb x hx => pts_no) (fun sb Hb Cb clb fpb x hx ht => by exact (ed_var 2 rfl rfl (by walk_at "vis"))) (by walk_at "side") (by show _ = (g.map fun q : Int × Int => q.1).map D.int; exact lcr_int (F := fun q : Int × Int => q.1)))) ea_nil)) (by walk_at "S")))) (fun hc1 => ?_) (fun hc1 => ?_)
  · have hc1d := hc1
    try simp only [Bool.and_eq_true, Bool.or_eq_true, decide_eq_true_eq, decide_eq_false_iff_not, Bool.not_eq_true', Bool.not_eq_false', Bool.and_eq_false_iff, Bool.or_eq_false_iff] at hc1d
    refine sds_ret ed_bl ?_
    show Res.ok _ = Res.ok _; unfold guardOk; first | (rw [if_pos hc1]; done) | (refine congrArg (fun q => Res.ok (D.bl q)) (if_neg ?_).symm; rw [hc1]; exact Bool.false_ne_true) | (refine congrArg (fun q => Res.ok (D.bl q)) (if_neg ?_); rw [hc1]; exact Bool.false_ne_true)
  · have hc1d := hc1
    try simp only [Bool.and_eq_true, Bool.or_eq_true, decide_eq_true_eq, decide_eq_false_iff_not, Bool.not_eq_true', Bool.not_eq_false', Bool.and_eq_false_iff, Bool.or_eq_false_iff] at hc1d
    refine sds_go ?_
    refine sds_ret (ed_callB rfl T.m_all RW.boot_all (ea_cons (eo_ed (eo_lc2 (y := "cell") (z := "mask") 2 3 rfl sc_is_guard.nd (by first | exact wd_list (ed_var 1 rfl rfl (by walk_at "vis")) | exact wd_tup (ed_var 1 rfl rfl (by walk_at "vis")) | exact wd_str (ed_var 1 rfl rfl (by walk_at "vis"))) (blkOk_by (N := ["full", "guard", "cell", "mask"]) (sc := defScope s_is_guard) (by decide +kernel)) (fun sb Hb Cb clb fpb => (td_pair 2 3 rfl sc_is_guard.nd rfl (by walk_at "loc") rfl (by walk_at "loc"))) (by decide) (by walk_at "len") (by walk_at "len") (fun d z => by cases d <;> cases z) (fun d z => by cases d <;> cases z) (fun sb Hb Cb clb fpb x hx => pts_no) (fun sb Hb Cb clb fpb x hx ht => by have hk := asc_rng _ _ _ (nbf hc1) x.1 (List.mem_map.mpr ⟨x, hx, rfl⟩); exact (ed_chain ed_int (ed_var 3 rfl rfl (by walk_at "vis")) (ed_ix (ed_var 0 rfl rfl (by walk_at "vis")) (ed_var 2 rfl rfl (by walk_at "vis")) (by walk_at "ix")) (by walk_at "cmpLtE") (by walk_at "cmpLtE"))) (by walk_at "side") (by exact lcr_bl (F := fun q : Int × Int => decide ((1 : Int) ≤ q.2) && decide (q.2 ≤ full.getD q.1.toNat default))))) ea_nil) (by walk_at "call_all")) ?_
    show Res.ok _ = Res.ok _; unfold guardOk; first | (rw [if_pos hc1]; done) | (refine congrArg (fun q => Res.ok (D.bl q)) (if_neg ?_).symm; rw [hc1]; exact Bool.false_ne_true) | (refine congrArg (fun q => Res.ok (D.bl q)) (if_neg ?_); rw [hc1]; exact Bool.false_ne_true)

def changesOk (full : List Int) (g : List (Int × Str × Int)) : Bool := if (!asc full.length (-1) (g.map fun q => q.1)) = true then false else (g.map fun q => srcOk full q.1 q.2.1 q.2.2).all id
section
local macro_rules | `(tactic| walk_at "side") => `(tactic| first | walk_at "side0" | (constructor <;> omega))
abbrev s_are_changes : Stmt := topS 21
theorem sc_are_changes : FnScope ["full", "changes", "cell", "source"] ["full", "changes"] (defScope s_are_changes) := ⟨rfl, rfl, rfl, by decide +kernel, rfl, by decide +kernel, by decide +kernel⟩
def S_are_changes : List D → Res → Prop := fun ds r => ∃ (full : List Int) (g : List (Int × Str × Int)), ds = [.tup (full.map .int), .tup (g.map encCh)] ∧ g.length ≤ 1000 ∧ r = .ok (.bl (changesOk full g))
theorem fd_are_changes {f : Addr} {fd : FuncData} (F : Fun K "are_changes" "are_changes" s_are_changes f fd) (gx : mg "are_changes" = some (.ref f)) (hb : Binds K fd ["full", "changes"] []) (T : Txt mg) (F_ascend : FD P w K mg base 1 "ascend" 2 S_ascend) (F_is_source : FD P w K mg base 1 "is_source" 3 S_is_source) : FD P w K mg base 2 "are_changes" 2 S_are_changes := by
  refine fd_of (N := ["full", "changes", "cell", "source"]) F gx hb sc_are_changes (by decide) ?_
  intro cdv A outer s0_ H E ds r hr hl hS
  obtain ⟨full, g, rfl, h0, rfl⟩ := hS
  show SDs _ _ [.val (.tup (full.map .int)), .val (.tup (g.map encCh)), .no, .no] _ _
  refine sds_if (et_not (et_val (ed_call F_ascend (hr.mono (by decide)) rfl (ea_cons (ed_var 0 rfl rfl (by walk_at "vis")) (ea_cons (eo_ed (eo_lc2 (y := "cell") (z := "source") 2 3 rfl sc_are_changes.nd (by first | exact wd_list (ed_var 1 rfl rfl (by walk_at "vis")) | exact wd_tup (ed_var 1 rfl rfl (by walk_at "vis")) | exact wd_str (ed_var 1 rfl rfl (by walk_at "vis"))) (blkOk_by (N := ["full", "changes", "cell", "source"]) (sc := defScope s_are_changes) (by decide +kernel)) (fun sb Hb Cb clb fpb => (td_pair 2 3 rfl sc_are_changes.nd rfl (by walk_at "loc") rfl (by walk_at "loc"))) (by decide) (by walk_at "len") (by walk_at "len") (fun d z => by cases d <;> cases z) (fun d z => by cases d <;> cases z) (fun sb Hb Cb clb fpb x hx => pts_no) (fun sb Hb Cb clb fpb x hx ht => by exact (ed_var 2 rfl rfl (by walk_at "vis"))) (by walk_at "side") (by show _ = (g.map fun q : Int × Str × Int => q.1).map D.int; exact lcr_int (F := fun q : Int × Str × Int => q.1)))) ea_nil)) (by walk_at "S")))) (fun hc1 => ?_) (fun hc1 => ?_)
  · have hc1d := hc1
    try simp only [Bool.and_eq_true, Bool.or_eq_true, decide_eq_true_eq, decide_eq_false_iff_not, Bool.not_eq_true', Bool.not_eq_false', Bool.and_eq_false_iff, Bool.or_eq_false_iff] at hc1d
    refine sds_ret ed_bl ?_
    show Res.ok _ = Res.ok _; unfold changesOk; first | (rw [if_pos hc1]; done) | (refine congrArg (fun q => Res.ok (D.bl q)) (if_neg ?_).symm; rw [hc1]; exact Bool.false_ne_true) | (refine congrArg (fun q => Res.ok (D.bl q)) (if_neg ?_); rw [hc1]; exact Bool.false_ne_true)
  · have hc1d := hc1
    try simp only [Bool.and_eq_true, Bool.or_eq_true, decide_eq_true_eq, decide_eq_false_iff_not, Bool.not_eq_true', Bool.not_eq_false', Bool.and_eq_false_iff, Bool.or_eq_false_iff] at hc1d
    refine sds_go ?_
    refine sds_ret (ed_callB rfl T.m_all RW.boot_all (ea_cons (eo_ed (eo_lc2 (y := "cell") (z := "source") 2 3 rfl sc_are_changes.nd (by first | exact wd_list (ed_var 1 rfl rfl (by walk_at "vis")) | exact wd_tup (ed_var 1 rfl rfl (by walk_at "vis")) | exact wd_str (ed_var 1 rfl rfl (by walk_at "vis"))) (blkOk_by (N := ["full", "changes", "cell", "source"]) (sc := defScope s_are_changes) (by decide +kernel)) (fun sb Hb Cb clb fpb => (td_pair 2 3 rfl sc_are_changes.nd rfl (by walk_at "loc") rfl (by walk_at "loc"))) (by decide) (by walk_at "len") (by walk_at "len") (fun d z => by cases d <;> cases z) (fun d z => by cases d <;> cases z) (fun sb Hb Cb clb fpb x hx => pts_no) (fun sb Hb Cb clb fpb x hx ht => by have hk := asc_rng _ _ _ (nbf hc1) x.1 (List.mem_map.mpr ⟨x, hx, rfl⟩); exact (ed_call F_is_source (hr.mono (by decide)) rfl (ea_cons (ed_var 0 rfl rfl (by walk_at "vis")) (ea_cons (ed_var 2 rfl rfl (by walk_at "vis")) (ea_cons (ed_var 3 rfl rfl (by walk_at "vis")) ea_nil))) (by walk_at "S"))) (by walk_at "side") (by exact lcr_bl (F := fun q : Int × Str × Int => srcOk full q.1 q.2.1 q.2.2)))) ea_nil) (by walk_at "call_all")) ?_
    show Res.ok _ = Res.ok _; unfold changesOk; first | (rw [if_pos hc1]; done) | (refine congrArg (fun q => Res.ok (D.bl q)) (if_neg ?_).symm; rw [hc1]; exact Bool.false_ne_true) | (refine congrArg (fun q => Res.ok (D.bl q)) (if_neg ?_); rw [hc1]; exact Bool.false_ne_true)
end

def okCell (c : Str × Int) : Bool := isName c.1 && (decide ((1 : Int) ≤ c.2) && decide (c.2 ≤ 16))
def chkCells (cA : Addr) (cells : List (Str × Int)) : Res := if (!(decide ((1 : Int) ≤ (cells.length : Int)) && decide ((cells.length : Int) ≤ 24))) = true then .er (.ref cA) none else if cells.all okCell = true then (if (cells.map fun c => c.1).Nodup then .ok .non else .er (.ref cA) none) else .er (.ref cA) none
theorem cells_ok {cA : Addr} {cells : List (Str × Int)} {d : D} (h : chkCells cA cells = .ok d) : 1 ≤ cells.length ∧ cells.length ≤ 24 ∧ ∀ c ∈ cells, 1 ≤ c.2 ∧ c.2 ≤ 16 := by
  unfold chkCells at h
  by_cases z : (!(decide ((1 : Int) ≤ (cells.length : Int)) && decide ((cells.length : Int) ≤ 24))) = true
  · rw [if_pos z] at h; cases h
  · rw [if_neg z] at h
    have z2 : (1 : Int) ≤ (cells.length : Int) ∧ (cells.length : Int) ≤ 24 := by simpa using z
    by_cases y : cells.all okCell = true
    · refine ⟨by omega, by omega, fun c hc => ?_⟩
      have := List.all_eq_true.mp y c hc
      simp only [okCell, Bool.and_eq_true, decide_eq_true_eq] at this
      exact this.2
    · rw [if_neg y] at h; cases h
section
local macro_rules | `(tactic| walk_at "side") => `(tactic| first | walk_at "side0" | (simp only [Bool.not_eq_false', Bool.and_eq_true, decide_eq_true_eq, decide_eq_false_iff_not] at hc1; omega) | (have hd := h0 _ (List.mem_of_getElem? hx); omega) | exact (h0 _ (List.mem_of_getElem? hx)).2.1 | exact (h0 _ (List.mem_of_getElem? hx)).2.2)
local macro_rules | `(tactic| walk_at "fint") => `(tactic| decide +kernel)
local macro_rules | `(tactic| walk_at "flen") => `(tactic| exact h0 _ (List.mem_of_getElem? hx))
abbrev s_check_cells : Stmt := topS 18
theorem sc_check_cells : FnScope ["cells", "name", "size"] ["cells"] (defScope s_check_cells) := ⟨rfl, rfl, rfl, by decide +kernel, rfl, by decide +kernel, by decide +kernel⟩
def S_check_cells (cA_InvalidMachine : Addr) : List D → Res → Prop := fun ds r => ∃ (cells : List (Str × Int)), ds = [.tup (cells.map encCell)] ∧ (∀ c ∈ cells, c.1.length ≤ 100000) ∧ r = chkCells cA_InvalidMachine cells
theorem fd_check_cells {f : Addr} {fd : FuncData} (F : Fun K "check_cells" "check_cells" s_check_cells f fd) (gx : mg "check_cells" = some (.ref f)) (hb : Binds K fd ["cells"] []) (T : Txt mg) (F_is_name : FD P w K mg base 1 "is_name" 1 S_is_name) (X_InvalidMachine : XF K mg "InvalidMachine" cA_InvalidMachine) : FD P w K mg base 2 "check_cells" 1 (S_check_cells cA_InvalidMachine) := by
  refine fd_of (N := ["cells", "name", "size"]) F gx hb sc_check_cells (by decide) ?_
  intro cdv A outer s0_ H E ds r hr hl hS
  obtain ⟨cells, rfl, h0, rfl⟩ := hS
  show SDs _ _ [.val (.tup (cells.map encCell)), .no, .no] _ _
  refine sds_if (et_not (et_chain ed_int (ed_callB rfl T.m_len PySem.boot_len (ea_cons (ed_var 0 rfl rfl (by walk_at "vis")) ea_nil) (by walk_at "call_len")) (ed_globI rfl T.c_MOST_CELLS) (by walk_at "cmpLtE") (by walk_at "cmpLtE"))) (fun hc1 => ?_) (fun hc1 => ?_)
  · have hc1d := hc1
    try simp only [Bool.and_eq_true, Bool.or_eq_true, decide_eq_true_eq, decide_eq_false_iff_not, Bool.not_eq_true', Bool.not_eq_false', Bool.and_eq_false_iff, Bool.or_eq_false_iff] at hc1d
    refine sds_raise rfl (takes_of rfl rfl rfl rfl) X_InvalidMachine rfl (es_joined (.cons (.txt ed_str (by decide +kernel)) (.cons (by first | exact .str (ed_globI rfl T.c_MOST_CELLS) (by walk_at "flen") | exact .int (ed_globI rfl T.c_MOST_CELLS) (by walk_at "fint")) (.cons (.txt ed_str (by decide +kernel)) .nil)))) ?_
    unfold chkCells; first | (rw [if_pos hc1]; done) | (rw [if_neg (by rw [hc1]; exact Bool.false_ne_true), if_pos (guard_in hL), if_neg ((dist_keys (F := fun c : Str × Int => c.1)).1 hc4)]; done) | (rw [if_neg (by rw [hc1]; exact Bool.false_ne_true), if_pos (guard_in hL), if_pos ((dist_keys (F := fun c : Str × Int => c.1)).2 hc4)]; done)
  · have hc1d := hc1
    try simp only [Bool.and_eq_true, Bool.or_eq_true, decide_eq_true_eq, decide_eq_false_iff_not, Bool.not_eq_true', Bool.not_eq_false', Bool.and_eq_false_iff, Bool.or_eq_false_iff] at hc1d
    refine sds_go ?_
    refine sds_loop (fun _ : Unit => [.val (.tup (cells.map encCell)), .no, .no]) (fun c (_ : Unit) => if okCell c = true then none else some (.er (.ref cA_InvalidMachine) none)) (fun _ s => s) (fun _ _ => True) () (by walk_at "pass") rfl (by first | exact wd_list (ed_var 0 rfl rfl (by walk_at "vis")) | exact wd_tup (ed_var 0 rfl rfl (by walk_at "vis")) | exact wd_str (ed_var 0 rfl rfl (by walk_at "vis"))) (td_pair 1 2 rfl sc_check_cells.nd rfl (by walk_at "loc") rfl (by walk_at "loc")) (by repeat first | exact Wk.nil | refine Wk.no ?_ | refine Wk.eq ?_ | refine Wk.frz ?_ | (refine Wk.eq' ?hh ?_; (case hh => first | (simp only [List.map_append, List.map_cons, List.map_nil, if_true, if_false, and_self, and_true, true_and, and_false, false_and, not_true_eq_false, not_false_eq_true, reduceIte]; done) | (simp []; done))) | (refine Wk.frzE ?hh ?_; (case hh => first | (simp only [List.map_append, List.map_cons, List.map_nil, if_true, if_false, and_self, and_true, true_and, and_false, false_and, not_true_eq_false, not_false_eq_true, reduceIte]; done) | (simp []; done)))) (by trivial) ?_ ?_ ?_ ?_
    · intro i c u hx hP
      refine ⟨_, (by walk_at "tgt"), ?_⟩
      refine sds_if (et_not (et_val (ed_call F_is_name (hr.mono (by decide)) rfl (ea_cons (ed_var 1 rfl rfl (by walk_at "vis")) ea_nil) (by walk_at "S")))) (fun hc2 => ?_) (fun hc2 => ?_)
      · have hc2d := hc2
        try simp only [Bool.and_eq_true, Bool.or_eq_true, decide_eq_true_eq, decide_eq_false_iff_not, Bool.not_eq_true', Bool.not_eq_false', Bool.and_eq_false_iff, Bool.or_eq_false_iff] at hc2d
        refine sds_raise rfl (takes_of rfl rfl rfl rfl) X_InvalidMachine rfl (es_ed (n := 1000000) ed_str (by decide +kernel)) ?_
        exact if_neg (by unfold okCell; first | (rw [nbt hc2]; exact Bool.false_ne_true) | (rw [nbf hc2, nbt hc3]; exact Bool.false_ne_true))
      · have hc2d := hc2
        try simp only [Bool.and_eq_true, Bool.or_eq_true, decide_eq_true_eq, decide_eq_false_iff_not, Bool.not_eq_true', Bool.not_eq_false', Bool.and_eq_false_iff, Bool.or_eq_false_iff] at hc2d
        refine sds_go ?_
        refine sds_if (et_not (et_chain ed_int (ed_var 2 rfl rfl (by walk_at "vis")) (ed_globI rfl T.c_MOST_VALUES) (by walk_at "cmpLtE") (by walk_at "cmpLtE"))) (fun hc3 => ?_) (fun hc3 => ?_)
        · have hc3d := hc3
          try simp only [Bool.and_eq_true, Bool.or_eq_true, decide_eq_true_eq, decide_eq_false_iff_not, Bool.not_eq_true', Bool.not_eq_false', Bool.and_eq_false_iff, Bool.or_eq_false_iff] at hc3d
          refine sds_raise rfl (takes_of rfl rfl rfl rfl) X_InvalidMachine rfl (es_joined (.cons (.txt ed_str (by decide +kernel)) (.cons (by first | exact .str (ed_var 1 rfl rfl (by walk_at "vis")) (by walk_at "flen") | exact .int (ed_var 1 rfl rfl (by walk_at "vis")) (by walk_at "fint")) (.cons (.txt ed_str (by decide +kernel)) .nil)))) ?_
          exact if_neg (by unfold okCell; first | (rw [nbt hc2]; exact Bool.false_ne_true) | (rw [nbf hc2, nbt hc3]; exact Bool.false_ne_true))
        · have hc3d := hc3
          try simp only [Bool.and_eq_true, Bool.or_eq_true, decide_eq_true_eq, decide_eq_false_iff_not, Bool.not_eq_true', Bool.not_eq_false', Bool.and_eq_false_iff, Bool.or_eq_false_iff] at hc3d
          refine sds_go ?_
          refine sds_nil ⟨⟨?_, ?_⟩, rfl⟩ ?_
          · exact if_pos (by unfold okCell; rw [nbf hc2, nbf hc3]; rfl)
          · trivial
          · repeat first | exact Wk.nil | refine Wk.no ?_ | refine Wk.eq ?_ | refine Wk.frz ?_ | (refine Wk.eq' ?hh ?_; (case hh => first | (simp only [hc2d, hc2, hc3d, hc3, List.map_append, List.map_cons, List.map_nil, if_true, if_false, and_self, and_true, true_and, and_false, false_and, not_true_eq_false, not_false_eq_true, reduceIte]; done) | (simp [hc2d, hc2, hc3d, hc3]; done))) | (refine Wk.frzE ?hh ?_; (case hh => first | (simp only [hc2d, hc2, hc3d, hc3, List.map_append, List.map_cons, List.map_nil, if_true, if_false, and_self, and_true, true_and, and_false, false_and, not_true_eq_false, not_false_eq_true, reduceIte]; done) | (simp [hc2d, hc2, hc3d, hc3]; done)))
    · intro u hP hL
      refine sds_if (et_cmp (ed_lenS (es_sc2 (g := fun c : Str × Int => (Sum.inr c.1 : Key)) (y := "name") (z := "size") 1 2 rfl sc_check_cells.nd (by first | exact wd_list (ed_var 0 rfl rfl (by walk_at "vis")) | exact wd_tup (ed_var 0 rfl rfl (by walk_at "vis")) | exact wd_str (ed_var 0 rfl rfl (by walk_at "vis"))) (blkOk_by (N := ["cells", "name", "size"]) (sc := defScope s_check_cells) (by decide +kernel)) (fun sb Hb Cb clb fpb => (td_pair 1 2 rfl sc_check_cells.nd rfl (by walk_at "loc") rfl (by walk_at "loc"))) (by decide) (by walk_at "len") (by walk_at "len") (fun sb Hb Cb clb fpb x hx => by exact (ed_var 1 rfl rfl (by walk_at "vis"))) (by walk_at "side")) rfl T.m_len) (ed_callB rfl T.m_len PySem.boot_len (ea_cons (ed_var 0 rfl rfl (by walk_at "vis")) ea_nil) (by walk_at "call_len")) (by walk_at "cmpLt")) (fun hc4 => ?_) (fun hc4 => ?_)
      · have hc4d := hc4
        try simp only [Bool.and_eq_true, Bool.or_eq_true, decide_eq_true_eq, decide_eq_false_iff_not, Bool.not_eq_true', Bool.not_eq_false', Bool.and_eq_false_iff, Bool.or_eq_false_iff] at hc4d
        refine sds_raise rfl (takes_of rfl rfl rfl rfl) X_InvalidMachine rfl (es_ed (n := 1000000) ed_str (by decide +kernel)) ?_
        unfold chkCells; first | (rw [if_pos hc1]; done) | (rw [if_neg (by rw [hc1]; exact Bool.false_ne_true), if_pos (guard_in hL), if_neg ((dist_keys (F := fun c : Str × Int => c.1)).1 hc4)]; done) | (rw [if_neg (by rw [hc1]; exact Bool.false_ne_true), if_pos (guard_in hL), if_pos ((dist_keys (F := fun c : Str × Int => c.1)).2 hc4)]; done)
      · have hc4d := hc4
        try simp only [Bool.and_eq_true, Bool.or_eq_true, decide_eq_true_eq, decide_eq_false_iff_not, Bool.not_eq_true', Bool.not_eq_false', Bool.and_eq_false_iff, Bool.or_eq_false_iff] at hc4d
        refine sds_go ?_
        refine sds_nil ?_ (Wk.refl _)
        unfold chkCells; first | (rw [if_pos hc1]; done) | (rw [if_neg (by rw [hc1]; exact Bool.false_ne_true), if_pos (guard_in hL), if_neg ((dist_keys (F := fun c : Str × Int => c.1)).1 hc4)]; done) | (rw [if_neg (by rw [hc1]; exact Bool.false_ne_true), if_pos (guard_in hL), if_pos ((dist_keys (F := fun c : Str × Int => c.1)).2 hc4)]; done)
    · intro d hL q_
      exact nomatch (guard_out hL).2
    · intro _ c fs hL
      have hg := guard_out hL; unfold chkCells; rw [if_neg (by rw [hc1]; exact Bool.false_ne_true), if_neg hg.1]; exact hg.2
end

def okDeed (full : List Int) (d : Deed) : Bool := isName d.name && (guardOk full d.guard && changesOk full d.changes)
def chkDeeds (cA : Addr) (full : List Int) (deeds : List Deed) : Res := if decide ((400 : Int) < (deeds.length : Int)) = true then .er (.ref cA) none else if deeds.all (okDeed full) = true then (if (deeds.map fun d => d.name).Nodup then .ok .non else .er (.ref cA) none) else .er (.ref cA) none
section
local macro_rules | `(tactic| walk_at "side") => `(tactic| first | walk_at "side0" | (simp only [Bool.not_eq_false', Bool.and_eq_true, decide_eq_true_eq, decide_eq_false_iff_not] at hc1; omega) | (have hd := h0 _ (List.mem_of_getElem? hx); omega) | exact (h0 _ (List.mem_of_getElem? hx)).2.1 | exact (h0 _ (List.mem_of_getElem? hx)).2.2)
local macro_rules | `(tactic| walk_at "fint") => `(tactic| decide +kernel)
local macro_rules | `(tactic| walk_at "flen") => `(tactic| exact (h0 _ (List.mem_of_getElem? hx)).1)
local macro_rules | `(tactic| walk_at "ix") => `(tactic| exact ixd_tup rfl)
abbrev s_check_deeds : Stmt := topS 19
theorem sc_check_deeds : FnScope ["full", "deeds", "name", "guard", "changes", "deed"] ["full", "deeds"] (defScope s_check_deeds) := ⟨rfl, rfl, rfl, by decide +kernel, rfl, by decide +kernel, by decide +kernel⟩
def S_check_deeds (cA_InvalidMachine : Addr) : List D → Res → Prop := fun ds r => ∃ (full : List Int) (deeds : List Deed), ds = [.tup (full.map .int), .tup (deeds.map encDeed)] ∧ (∀ d ∈ deeds, d.name.length ≤ 100000 ∧ d.guard.length ≤ 1000 ∧ d.changes.length ≤ 1000) ∧ r = chkDeeds cA_InvalidMachine full deeds
theorem fd_check_deeds {f : Addr} {fd : FuncData} (F : Fun K "check_deeds" "check_deeds" s_check_deeds f fd) (gx : mg "check_deeds" = some (.ref f)) (hb : Binds K fd ["full", "deeds"] []) (T : Txt mg) (F_are_changes : FD P w K mg base 2 "are_changes" 2 S_are_changes) (F_is_guard : FD P w K mg base 2 "is_guard" 2 S_is_guard) (F_is_name : FD P w K mg base 1 "is_name" 1 S_is_name) (X_InvalidMachine : XF K mg "InvalidMachine" cA_InvalidMachine) : FD P w K mg base 3 "check_deeds" 2 (S_check_deeds cA_InvalidMachine) := by
  refine fd_of (N := ["full", "deeds", "name", "guard", "changes", "deed"]) F gx hb sc_check_deeds (by decide) ?_
  intro cdv A outer s0_ H E ds r hr hl hS
  obtain ⟨full, deeds, rfl, h0, rfl⟩ := hS
  show SDs _ _ [.val (.tup (full.map .int)), .val (.tup (deeds.map encDeed)), .no, .no, .no, .no] _ _
  refine sds_if (et_cmp (ed_callB rfl T.m_len PySem.boot_len (ea_cons (ed_var 1 rfl rfl (by walk_at "vis")) ea_nil) (by walk_at "call_len")) (ed_globI rfl T.c_MOST_DEEDS) (by walk_at "cmpGt")) (fun hc1 => ?_) (fun hc1 => ?_)
  · have hc1d := hc1
    try simp only [Bool.and_eq_true, Bool.or_eq_true, decide_eq_true_eq, decide_eq_false_iff_not, Bool.not_eq_true', Bool.not_eq_false', Bool.and_eq_false_iff, Bool.or_eq_false_iff] at hc1d
    refine sds_raise rfl (takes_of rfl rfl rfl rfl) X_InvalidMachine rfl (es_joined (.cons (.txt ed_str (by decide +kernel)) (.cons (by first | exact .str (ed_globI rfl T.c_MOST_DEEDS) (by walk_at "flen") | exact .int (ed_globI rfl T.c_MOST_DEEDS) (by walk_at "fint")) (.cons (.txt ed_str (by decide +kernel)) .nil)))) ?_
    unfold chkDeeds; first | (rw [if_pos hc1]; done) | (rw [if_neg (by rw [hc1]; exact Bool.false_ne_true), if_pos (guard_in hL), if_neg ((dist_keys (F := fun d : Deed => d.name)).1 hc5)]; done) | (rw [if_neg (by rw [hc1]; exact Bool.false_ne_true), if_pos (guard_in hL), if_pos ((dist_keys (F := fun d : Deed => d.name)).2 hc5)]; done)
  · have hc1d := hc1
    try simp only [Bool.and_eq_true, Bool.or_eq_true, decide_eq_true_eq, decide_eq_false_iff_not, Bool.not_eq_true', Bool.not_eq_false', Bool.and_eq_false_iff, Bool.or_eq_false_iff] at hc1d
    refine sds_go ?_
    refine sds_loop (fun _ : Unit => [.val (.tup (full.map .int)), .val (.tup (deeds.map encDeed)), .no, .no, .no, .no]) (fun d (_ : Unit) => if okDeed full d = true then none else some (.er (.ref cA_InvalidMachine) none)) (fun _ s => s) (fun _ _ => True) () (by walk_at "pass") rfl (by first | exact wd_list (ed_var 1 rfl rfl (by walk_at "vis")) | exact wd_tup (ed_var 1 rfl rfl (by walk_at "vis")) | exact wd_str (ed_var 1 rfl rfl (by walk_at "vis"))) (td_tup rfl (tds_cons (td_name 2 sc_check_deeds.nd rfl (by walk_at "loc")) (tds_cons (td_name 3 sc_check_deeds.nd rfl (by walk_at "loc")) (tds_cons (td_name 4 sc_check_deeds.nd rfl (by walk_at "loc")) tds_nil)))) (by repeat first | exact Wk.nil | refine Wk.no ?_ | refine Wk.eq ?_ | refine Wk.frz ?_ | (refine Wk.eq' ?hh ?_; (case hh => first | (simp only [List.map_append, List.map_cons, List.map_nil, if_true, if_false, and_self, and_true, true_and, and_false, false_and, not_true_eq_false, not_false_eq_true, reduceIte]; done) | (simp []; done))) | (refine Wk.frzE ?hh ?_; (case hh => first | (simp only [List.map_append, List.map_cons, List.map_nil, if_true, if_false, and_self, and_true, true_and, and_false, false_and, not_true_eq_false, not_false_eq_true, reduceIte]; done) | (simp []; done)))) (by trivial) ?_ ?_ ?_ ?_
    · intro i d u hx hP
      refine ⟨_, (by walk_at "tgt"), ?_⟩
      refine sds_if (et_not (et_val (ed_call F_is_name (hr.mono (by decide)) rfl (ea_cons (ed_var 2 rfl rfl (by walk_at "vis")) ea_nil) (by walk_at "S")))) (fun hc2 => ?_) (fun hc2 => ?_)
      · have hc2d := hc2
        try simp only [Bool.and_eq_true, Bool.or_eq_true, decide_eq_true_eq, decide_eq_false_iff_not, Bool.not_eq_true', Bool.not_eq_false', Bool.and_eq_false_iff, Bool.or_eq_false_iff] at hc2d
        refine sds_raise rfl (takes_of rfl rfl rfl rfl) X_InvalidMachine rfl (es_ed (n := 1000000) ed_str (by decide +kernel)) ?_
        exact if_neg (by unfold okDeed; first | (rw [nbt hc2]; exact Bool.false_ne_true) | (rw [nbf hc2, nbt hc3]; exact Bool.false_ne_true) | (rw [nbf hc2, nbf hc3, nbt hc4]; exact Bool.false_ne_true))
      · have hc2d := hc2
        try simp only [Bool.and_eq_true, Bool.or_eq_true, decide_eq_true_eq, decide_eq_false_iff_not, Bool.not_eq_true', Bool.not_eq_false', Bool.and_eq_false_iff, Bool.or_eq_false_iff] at hc2d
        refine sds_go ?_
        refine sds_if (et_not (et_val (ed_call F_is_guard (hr.mono (by decide)) rfl (ea_cons (ed_var 0 rfl rfl (by walk_at "vis")) (ea_cons (ed_var 3 rfl rfl (by walk_at "vis")) ea_nil)) (by walk_at "S")))) (fun hc3 => ?_) (fun hc3 => ?_)
        · have hc3d := hc3
          try simp only [Bool.and_eq_true, Bool.or_eq_true, decide_eq_true_eq, decide_eq_false_iff_not, Bool.not_eq_true', Bool.not_eq_false', Bool.and_eq_false_iff, Bool.or_eq_false_iff] at hc3d
          refine sds_raise rfl (takes_of rfl rfl rfl rfl) X_InvalidMachine rfl (es_joined (.cons (.txt ed_str (by decide +kernel)) (.cons (by first | exact .str (ed_var 2 rfl rfl (by walk_at "vis")) (by walk_at "flen") | exact .int (ed_var 2 rfl rfl (by walk_at "vis")) (by walk_at "fint")) (.cons (.txt ed_str (by decide +kernel)) .nil)))) ?_
          exact if_neg (by unfold okDeed; first | (rw [nbt hc2]; exact Bool.false_ne_true) | (rw [nbf hc2, nbt hc3]; exact Bool.false_ne_true) | (rw [nbf hc2, nbf hc3, nbt hc4]; exact Bool.false_ne_true))
        · have hc3d := hc3
          try simp only [Bool.and_eq_true, Bool.or_eq_true, decide_eq_true_eq, decide_eq_false_iff_not, Bool.not_eq_true', Bool.not_eq_false', Bool.and_eq_false_iff, Bool.or_eq_false_iff] at hc3d
          refine sds_go ?_
          refine sds_if (et_not (et_val (ed_call F_are_changes (hr.mono (by decide)) rfl (ea_cons (ed_var 0 rfl rfl (by walk_at "vis")) (ea_cons (ed_var 4 rfl rfl (by walk_at "vis")) ea_nil)) (by walk_at "S")))) (fun hc4 => ?_) (fun hc4 => ?_)
          · have hc4d := hc4
            try simp only [Bool.and_eq_true, Bool.or_eq_true, decide_eq_true_eq, decide_eq_false_iff_not, Bool.not_eq_true', Bool.not_eq_false', Bool.and_eq_false_iff, Bool.or_eq_false_iff] at hc4d
            refine sds_raise rfl (takes_of rfl rfl rfl rfl) X_InvalidMachine rfl (es_joined (.cons (.txt ed_str (by decide +kernel)) (.cons (by first | exact .str (ed_var 2 rfl rfl (by walk_at "vis")) (by walk_at "flen") | exact .int (ed_var 2 rfl rfl (by walk_at "vis")) (by walk_at "fint")) (.cons (.txt ed_str (by decide +kernel)) .nil)))) ?_
            exact if_neg (by unfold okDeed; first | (rw [nbt hc2]; exact Bool.false_ne_true) | (rw [nbf hc2, nbt hc3]; exact Bool.false_ne_true) | (rw [nbf hc2, nbf hc3, nbt hc4]; exact Bool.false_ne_true))
          · have hc4d := hc4
            try simp only [Bool.and_eq_true, Bool.or_eq_true, decide_eq_true_eq, decide_eq_false_iff_not, Bool.not_eq_true', Bool.not_eq_false', Bool.and_eq_false_iff, Bool.or_eq_false_iff] at hc4d
            refine sds_go ?_
            refine sds_nil ⟨⟨?_, ?_⟩, rfl⟩ ?_
            · exact if_pos (by unfold okDeed; rw [nbf hc2, nbf hc3, nbf hc4]; rfl)
            · trivial
            · repeat first | exact Wk.nil | refine Wk.no ?_ | refine Wk.eq ?_ | refine Wk.frz ?_ | (refine Wk.eq' ?hh ?_; (case hh => first | (simp only [hc2d, hc2, hc3d, hc3, hc4d, hc4, List.map_append, List.map_cons, List.map_nil, if_true, if_false, and_self, and_true, true_and, and_false, false_and, not_true_eq_false, not_false_eq_true, reduceIte]; done) | (simp [hc2d, hc2, hc3d, hc3, hc4d, hc4]; done))) | (refine Wk.frzE ?hh ?_; (case hh => first | (simp only [hc2d, hc2, hc3d, hc3, hc4d, hc4, List.map_append, List.map_cons, List.map_nil, if_true, if_false, and_self, and_true, true_and, and_false, false_and, not_true_eq_false, not_false_eq_true, reduceIte]; done) | (simp [hc2d, hc2, hc3d, hc3, hc4d, hc4]; done)))
    · intro u hP hL
      refine sds_if (et_cmp (ed_lenS (es_sc1 (g := fun d : Deed => (Sum.inr d.name : Key)) (y := "deed") 5 rfl sc_check_deeds.nd (by first | exact wd_list (ed_var 1 rfl rfl (by walk_at "vis")) | exact wd_tup (ed_var 1 rfl rfl (by walk_at "vis")) | exact wd_str (ed_var 1 rfl rfl (by walk_at "vis"))) (blkOk_by (N := ["full", "deeds", "name", "guard", "changes", "deed"]) (sc := defScope s_check_deeds) (by decide +kernel)) (fun sb Hb Cb clb fpb => (td_name 5 sc_check_deeds.nd rfl (by walk_at "loc"))) (by walk_at "len") (fun sb Hb Cb clb fpb x hx => by exact (ed_ix (ed_var 5 rfl rfl (by walk_at "vis")) ed_int (by walk_at "ix"))) (by walk_at "side")) rfl T.m_len) (ed_callB rfl T.m_len PySem.boot_len (ea_cons (ed_var 1 rfl rfl (by walk_at "vis")) ea_nil) (by walk_at "call_len")) (by walk_at "cmpLt")) (fun hc5 => ?_) (fun hc5 => ?_)
      · have hc5d := hc5
        try simp only [Bool.and_eq_true, Bool.or_eq_true, decide_eq_true_eq, decide_eq_false_iff_not, Bool.not_eq_true', Bool.not_eq_false', Bool.and_eq_false_iff, Bool.or_eq_false_iff] at hc5d
        refine sds_raise rfl (takes_of rfl rfl rfl rfl) X_InvalidMachine rfl (es_ed (n := 1000000) ed_str (by decide +kernel)) ?_
        unfold chkDeeds; first | (rw [if_pos hc1]; done) | (rw [if_neg (by rw [hc1]; exact Bool.false_ne_true), if_pos (guard_in hL), if_neg ((dist_keys (F := fun d : Deed => d.name)).1 hc5)]; done) | (rw [if_neg (by rw [hc1]; exact Bool.false_ne_true), if_pos (guard_in hL), if_pos ((dist_keys (F := fun d : Deed => d.name)).2 hc5)]; done)
      · have hc5d := hc5
        try simp only [Bool.and_eq_true, Bool.or_eq_true, decide_eq_true_eq, decide_eq_false_iff_not, Bool.not_eq_true', Bool.not_eq_false', Bool.and_eq_false_iff, Bool.or_eq_false_iff] at hc5d
        refine sds_go ?_
        refine sds_nil ?_ (Wk.refl _)
        unfold chkDeeds; first | (rw [if_pos hc1]; done) | (rw [if_neg (by rw [hc1]; exact Bool.false_ne_true), if_pos (guard_in hL), if_neg ((dist_keys (F := fun d : Deed => d.name)).1 hc5)]; done) | (rw [if_neg (by rw [hc1]; exact Bool.false_ne_true), if_pos (guard_in hL), if_pos ((dist_keys (F := fun d : Deed => d.name)).2 hc5)]; done)
    · intro d hL q_
      exact nomatch (guard_out hL).2
    · intro _ c fs hL
      have hg := guard_out hL; unfold chkDeeds; rw [if_neg (by rw [hc1]; exact Bool.false_ne_true), if_neg hg.1]; exact hg.2
end

structure Mach where
  cells : List (Str × Int)
  deeds : List Deed
  first : List Int
  full : List Int
def machF (m : Mach) : List (Str × D) := [("cells", .tup (m.cells.map encCell)), ("deeds", .tup (m.deeds.map encDeed)), ("first", .tup (m.first.map .int)), ("_full", .tup (m.full.map .int))]
def fullOf (cells : List (Str × Int)) : List Int := cells.map fun c => 1 * 2 ^ c.2.toNat - 1
def newMach (cA cM : Addr) (cells : List (Str × Int)) (deeds : List Deed) (first : List Int) : Res :=
  match chkCells cA cells with
  | .er c fs => .er c fs
  | .ok _ => match chkDeeds cA (fullOf cells) deeds with
    | .er c fs => .er c fs
    | .ok _ => if (!fitsB (fullOf cells) first) = true then .er (.ref cA) none else .ok (.obj cM (machF ⟨cells, deeds, first, fullOf cells⟩))
theorem newMach_obj {cA cM : Addr} {cells : List (Str × Int)} {ds : List Deed} {first : List Int} {d : D} (h : newMach cA cM cells ds first = .ok d) : ∃ fs, d = .obj cM fs := by
  unfold newMach at h
  split at h
  · cases h
  split at h
  · cases h
  split at h
  · cases h
  · cases h; exact ⟨_, rfl⟩
section
local macro_rules | `(tactic| walk_at "side") => `(tactic| first | walk_at "side0" | exact h0 | exact h1 | (have hc := (cells_ok hc1).2.2 x hx; refine ⟨?_, ?_, by decide⟩ <;> omega) | (have hc := cells_ok hc1; omega))
abbrev s_Machine_init : Stmt := inCls (topS 16) 0
theorem sc_Machine_init : FnScope ["self", "cells", "deeds", "first", "name", "size"] ["self", "cells", "deeds", "first"] (defScope s_Machine_init) := ⟨rfl, rfl, rfl, by decide +kernel, rfl, by decide +kernel, by decide +kernel⟩
def S_Machine_init (cA_Machine : Addr) (cA_InvalidMachine : Addr) : List D → Res → Prop := fun ds r => ∃ (cells : List (Str × Int)) (deeds : List Deed) (first : List Int), ds = [.lst (cells.map encCell), .lst (deeds.map encDeed), .tup (first.map .int)] ∧ ((∀ c ∈ cells, c.1.length ≤ 100000) ∧ (∀ d ∈ deeds, d.name.length ≤ 100000 ∧ d.guard.length ≤ 1000 ∧ d.changes.length ≤ 1000)) ∧ r = newMach cA_InvalidMachine cA_Machine cells deeds first
theorem fi_Machine_init {f : Addr} {fd : FuncData} (gx : mg "Machine" = some (.ref cA_Machine)) (hM : Mk K cA_Machine f) (F : Fun K "__init__" "Machine.__init__" s_Machine_init f fd) (hb : Binds K fd ["self", "cells", "deeds", "first"] []) (T : Txt mg) (F_check_cells : FD P w K mg base 2 "check_cells" 1 (S_check_cells cA_InvalidMachine)) (F_check_deeds : FD P w K mg base 3 "check_deeds" 2 (S_check_deeds cA_InvalidMachine)) (F_fits : FD P w K mg base 1 "fits" 2 S_fits) (X_InvalidMachine : XF K mg "InvalidMachine" cA_InvalidMachine) (cl_Machine : Cls K cA_Machine) (na_Machine__full : NoAttr K cA_Machine "_full") (na_Machine_cells : NoAttr K cA_Machine "cells") (na_Machine_deeds : NoAttr K cA_Machine "deeds") (na_Machine_first : NoAttr K cA_Machine "first") : FI P w K mg base 4 "Machine" cA_Machine 3 (S_Machine_init cA_Machine cA_InvalidMachine) := by
  refine fi_of (N := ["self", "cells", "deeds", "first", "name", "size"]) gx hM F hb sc_Machine_init (by decide) ?_
  intro cdv A outer s0_ H E ds r pa hr hl hS
  obtain ⟨cells, deeds, first, rfl, ⟨h0, h1⟩, rfl⟩ := hS
  show SDs _ _ [.own (.me pa cA_Machine []), .val (.lst (cells.map encCell)), .val (.lst (deeds.map encDeed)), .val (.tup (first.map .int)), .no, .no] _ _
  refine sds_fld 0 rfl (ed_callTy rfl T.m_tuple boot_tuple (ea_cons (ed_var 1 rfl rfl (by walk_at "vis")) ea_nil) (by walk_at "call_tuple")) rfl (by walk_at "vis") cl_Machine na_Machine_cells (Nat.le_of_ble_eq_true rfl) ?_
  refine sds_fld 0 rfl (ed_callTy rfl T.m_tuple boot_tuple (ea_cons (ed_var 2 rfl rfl (by walk_at "vis")) ea_nil) (by walk_at "call_tuple")) rfl (by walk_at "vis") cl_Machine na_Machine_deeds (Nat.le_of_ble_eq_true rfl) ?_
  refine sds_fld 0 rfl (ed_callTy rfl T.m_tuple boot_tuple (ea_cons (ed_var 3 rfl rfl (by walk_at "vis")) ea_nil) (by walk_at "call_tuple")) rfl (by walk_at "vis") cl_Machine na_Machine_first (Nat.le_of_ble_eq_true rfl) ?_
  refine sds_exprR (er_call (takes_of rfl rfl rfl rfl) F_check_cells (hr.mono (by decide)) rfl (ea_cons (ed_fldO 0 rfl rfl (by walk_at "vis") cl_Machine na_Machine_cells rfl) ea_nil) (by walk_at "S")) (fun d hc1 => ?_) (fun c fs hc1 => ?_)
  · skip
    refine sds_fld 0 rfl (ed_callTy rfl T.m_tuple boot_tuple (ea_cons (eo_ed (eo_lc2 (y := "name") (z := "size") 4 5 rfl sc_Machine_init.nd (by first | exact wd_list (ed_fldO 0 rfl rfl (by walk_at "vis") cl_Machine na_Machine_cells rfl) | exact wd_tup (ed_fldO 0 rfl rfl (by walk_at "vis") cl_Machine na_Machine_cells rfl) | exact wd_str (ed_fldO 0 rfl rfl (by walk_at "vis") cl_Machine na_Machine_cells rfl)) (blkOk_by (N := ["self", "cells", "deeds", "first", "name", "size"]) (sc := defScope s_Machine_init) (by decide +kernel)) (fun sb Hb Cb clb fpb => (td_pair 4 5 rfl sc_Machine_init.nd rfl (by walk_at "loc") rfl (by walk_at "loc"))) (by decide) (by walk_at "len") (by walk_at "len") (fun d z => by cases d <;> cases z) (fun d z => by cases d <;> cases z) (fun sb Hb Cb clb fpb x hx => pts_no) (fun sb Hb Cb clb fpb x hx ht => by exact (ed_bin (ed_bin ed_int (ed_var 5 rfl rfl (by walk_at "vis")) (by walk_at "opLShift")) ed_int (by walk_at "opSub"))) (by walk_at "side") (by show _ = (fullOf cells).map D.int; exact lcr_int (F := fun c : Str × Int => 1 * 2 ^ c.2.toNat - 1)))) ea_nil) (by walk_at "call_tuple")) rfl (by walk_at "vis") cl_Machine na_Machine__full (Nat.le_of_ble_eq_true rfl) ?_
    refine sds_exprR (er_call (takes_of rfl rfl rfl rfl) F_check_deeds (hr.mono (by decide)) rfl (ea_cons (ed_fldO 0 rfl rfl (by walk_at "vis") cl_Machine na_Machine__full rfl) (ea_cons (ed_fldO 0 rfl rfl (by walk_at "vis") cl_Machine na_Machine_deeds rfl) ea_nil)) (by walk_at "S")) (fun d hc2 => ?_) (fun c fs hc2 => ?_)
    · skip
      refine sds_if (et_not (et_val (ed_call F_fits (hr.mono (by decide)) rfl (ea_cons (ed_fldO 0 rfl rfl (by walk_at "vis") cl_Machine na_Machine__full rfl) (ea_cons (ed_fldO 0 rfl rfl (by walk_at "vis") cl_Machine na_Machine_first rfl) ea_nil)) (by walk_at "S")))) (fun hc3 => ?_) (fun hc3 => ?_)
      · have hc3d := hc3
        try simp only [Bool.and_eq_true, Bool.or_eq_true, decide_eq_true_eq, decide_eq_false_iff_not, Bool.not_eq_true', Bool.not_eq_false', Bool.and_eq_false_iff, Bool.or_eq_false_iff] at hc3d
        refine sds_raise rfl (takes_of rfl rfl rfl rfl) X_InvalidMachine rfl (es_ed (n := 1000000) ed_str (by decide +kernel)) ?_
        first | (unfold newMach; rw [hc1, hc2]; exact if_pos hc3) | (refine ⟨_, rfl, ?_⟩; unfold newMach; rw [hc1, hc2]; exact if_neg (by rw [hc3]; exact Bool.false_ne_true))
      · have hc3d := hc3
        try simp only [Bool.and_eq_true, Bool.or_eq_true, decide_eq_true_eq, decide_eq_false_iff_not, Bool.not_eq_true', Bool.not_eq_false', Bool.and_eq_false_iff, Bool.or_eq_false_iff] at hc3d
        refine sds_go ?_
        refine sds_nil ?_ (Wk.refl _)
        first | (unfold newMach; rw [hc1, hc2]; exact if_pos hc3) | (refine ⟨_, rfl, ?_⟩; unfold newMach; rw [hc1, hc2]; exact if_neg (by rw [hc3]; exact Bool.false_ne_true))
    · unfold newMach; rw [hc1, hc2]
  · unfold newMach; rw [hc1]
end

def RtGood (b v : Nat) : Prop := (b, v) ∈ [(3, 1), (3, 2), (3, 3), (3, 4), (4, 1), (4, 2), (5, 1)]
theorem RtGood.ok {b v : Nat} (h : RtGood b v) : (3 ≤ b ∧ b ≤ 5) ∧ (1 ≤ v ∧ v ≤ 4) := by
  unfold RtGood at h
  simp only [List.mem_cons, List.not_mem_nil, or_false, Prod.mk.injEq] at h
  omega
def updT (b : Nat) (n : Int) (t : List Int) (x : Int) : Deed := updD b n (t.getD 0 0) (t.getD 1 0) (t.getD 2 0) (t.getD 3 0) x
def torT (b : Nat) (n : Int) (t : List Int) (x : Int) : Deed := torD b n (t.getD 0 0) (t.getD 1 0) (t.getD 2 0) (t.getD 3 0) x
def rt4 (b : Nat) (n : Int) (t : List Int) (dl : List Deed) (x : Int) : List Deed := dl ++ [updT b n t x] ++ [torT b n t x]
def rt3 (b v : Nat) (n : Int) (dl : List Deed) (t : List Int) : List Deed := (rng 0 v).foldl (rt4 b n t) dl
def rt2 (b v : Nat) (n : Int) (dl : List Deed) (g : Int) : List Deed := (prsOf b n g).foldl (rt3 b v n) dl
def rt1 (b v : Nat) (dl : List Deed) (n : Int) : List Deed := (rng 0 3).foldl (rt2 b v n) dl
def rtDl (b v : Nat) : List Deed := (rng 0 2).foldl (rt1 b v) []
def rtFi (b : Nat) : List Int := [2, 1, 1, 2] ++ List.replicate b 1
theorem grow {α β : Type} {f : List α → β → List α} {c : Nat} : ∀ (l : List β) (s : List α), (∀ s, ∀ x ∈ l, (f s x).length ≤ s.length + c) → (l.foldl f s).length ≤ s.length + l.length * c
  | [], s, _ => by simp
  | x :: r, s, h => by
    have a := grow r (f s x) fun s y hy => h s y (List.mem_cons_of_mem _ hy)
    have b := h s x List.mem_cons_self
    rw [List.foldl_cons, List.length_cons, Nat.add_mul]
    omega
theorem rt4_len (b : Nat) (n : Int) (t : List Int) (dl : List Deed) (x : Int) : (rt4 b n t dl x).length ≤ dl.length + 2 := by unfold rt4; rw [List.length_append, List.length_append]; exact Nat.le_refl _
theorem rt3_len {b v : Nat} (hv : v ≤ 4) (n : Int) (t : List Int) (dl : List Deed) : (rt3 b v n dl t).length ≤ dl.length + 8 := by
  have := grow (c := 2) (rng 0 v) dl fun s x _ => rt4_len b n t s x
  rw [rng_len] at this
  unfold rt3; omega
theorem prs_len {b : Nat} (h : b ≤ 5) (n g : Int) : (prsOf b n g).length ≤ 25 := prs_few h _ _
theorem rt2_len {b v : Nat} (hb : b ≤ 5) (hv : v ≤ 4) (n g : Int) (dl : List Deed) : (rt2 b v n dl g).length ≤ dl.length + 200 := by
  have := grow (c := 8) (prsOf b n g) dl fun s x _ => rt3_len (b := b) hv n x s
  have := prs_len hb n g
  unfold rt2; omega
theorem rt1_len {b v : Nat} (hb : b ≤ 5) (hv : v ≤ 4) (n : Int) (dl : List Deed) : (rt1 b v dl n).length ≤ dl.length + 600 := by
  have := grow (c := 200) (rng 0 3) dl fun s x _ => rt2_len hb hv n x s
  rw [rng_len] at this
  unfold rt1; omega
theorem prs_in {b : Nat} {n g : Int} {t : List Int} (h : t ∈ prsOf b n g) : ∃ p q, t = [g, (g + (if (n != 0) = true then 1 else -1)) % 3, p, q] ∧ (0 ≤ p ∧ p < (b : Int)) ∧ (0 ≤ q ∧ q < (b : Int)) := by
  unfold prsOf at h
  obtain ⟨p, hp, h⟩ := List.mem_flatMap.mp h
  obtain ⟨q, hq, rfl⟩ := List.mem_map.mp h
  have a := mem_rng hp
  have c := mem_rng (List.mem_filter.mp hq).1
  exact ⟨p, q, rfl, ⟨a.1, by omega⟩, ⟨c.1, by omega⟩⟩
theorem upd_t {b : Nat} {n g h p q x : Int} {t : List Int} (ht : t = [g, h, p, q]) : updT b n t x = updD b n g h p q x := by subst ht; rfl
theorem tor_t {b : Nat} {n g h p q x : Int} {t : List Int} (ht : t = [g, h, p, q]) : torT b n t x = torD b n g h p q x := by subst ht; rfl
theorem args4 {d : D} {n g h p q x : Int} {t : List Int} (ht : t = [g, h, p, q]) : [d, D.int n, .tup (t.map .int), .int x] = [d, .int n, .tup [.int g, .int h, .int p, .int q], .int x] := by subst ht; rfl
theorem five {n g p q x : Int} (h : (0 ≤ n ∧ n < 10) ∧ (0 ≤ g ∧ g < 10) ∧ (0 ≤ p ∧ p < 10) ∧ (0 ≤ q ∧ q < 10) ∧ (0 ≤ x ∧ x < 10)) : ∀ y ∈ [n, g, p, q, x], 0 ≤ y ∧ y < 10 := fun y hy => by
  simp only [List.mem_cons, List.not_mem_nil, or_false] at hy
  rcases hy with rfl | rfl | rfl | rfl | rfl
  · exact h.1
  · exact h.2.1
  · exact h.2.2.1
  · exact h.2.2.2.1
  · exact h.2.2.2.2
/-! machines that are taken -/
structure GoodM (cs : List (Str × Int)) (dl : List Deed) (fi : List Int) : Prop where
  many : 1 ≤ cs.length ∧ cs.length ≤ 24
  cell : ∀ c ∈ cs, okCell c = true
  nd : (cs.map fun c => c.1).Nodup
  few : dl.length ≤ 400
  deed : ∀ d ∈ dl, okDeed (fullOf cs) d = true
  dn : (dl.map fun d => d.name).Nodup
  fit : fitsB (fullOf cs) fi = true
theorem chkC {cA : Addr} {cs : List (Str × Int)} : (chkCells cA cs = .ok .non ∧ (1 ≤ cs.length ∧ cs.length ≤ 24) ∧ (∀ c ∈ cs, okCell c = true) ∧ (cs.map fun c => c.1).Nodup) ∨ (chkCells cA cs = .er (.ref cA) none ∧ ¬ ((1 ≤ cs.length ∧ cs.length ≤ 24) ∧ (∀ c ∈ cs, okCell c = true) ∧ (cs.map fun c => c.1).Nodup)) := by
  unfold chkCells
  by_cases a : (!(decide ((1 : Int) ≤ (cs.length : Int)) && decide ((cs.length : Int) ≤ 24))) = true
  · rw [if_pos a]
    refine .inr ⟨rfl, fun h => ?_⟩
    rw [decide_eq_true (p := (1 : Int) ≤ (cs.length : Int)) (by omega), decide_eq_true (p := (cs.length : Int) ≤ 24) (by omega)] at a
    cases a
  · rw [if_neg a]
    have a2 : (1 : Int) ≤ (cs.length : Int) ∧ (cs.length : Int) ≤ 24 := by simpa using a
    by_cases b : cs.all okCell = true
    · rw [if_pos b]
      by_cases c : (cs.map fun c => c.1).Nodup
      · rw [if_pos c]; exact .inl ⟨rfl, by omega, List.all_eq_true.mp b, c⟩
      · rw [if_neg c]; exact .inr ⟨rfl, fun h => c h.2.2⟩
    · rw [if_neg b]; exact .inr ⟨rfl, fun h => b (List.all_eq_true.mpr h.2.1)⟩
theorem chkD {cA : Addr} {full : List Int} {dl : List Deed} : (chkDeeds cA full dl = .ok .non ∧ dl.length ≤ 400 ∧ (∀ d ∈ dl, okDeed full d = true) ∧ (dl.map fun d => d.name).Nodup) ∨ (chkDeeds cA full dl = .er (.ref cA) none ∧ ¬ (dl.length ≤ 400 ∧ (∀ d ∈ dl, okDeed full d = true) ∧ (dl.map fun d => d.name).Nodup)) := by
  unfold chkDeeds
  by_cases a : decide ((400 : Int) < (dl.length : Int)) = true
  · rw [if_pos a]
    have a2 := of_decide_eq_true a
    exact .inr ⟨rfl, fun h => by omega⟩
  · rw [if_neg a]
    have a2 : ¬ (400 : Int) < (dl.length : Int) := by simpa using a
    by_cases b : dl.all (okDeed full) = true
    · rw [if_pos b]
      by_cases c : (dl.map fun d => d.name).Nodup
      · rw [if_pos c]; exact .inl ⟨rfl, by omega, List.all_eq_true.mp b, c⟩
      · rw [if_neg c]; exact .inr ⟨rfl, fun h => c h.2.2⟩
    · rw [if_neg b]; exact .inr ⟨rfl, fun h => b (List.all_eq_true.mpr h.2.1)⟩
theorem newM_ok {cA cM : Addr} {cs : List (Str × Int)} {dl : List Deed} {fi : List Int} (h : GoodM cs dl fi) : newMach cA cM cs dl fi = .ok (.obj cM (machF ⟨cs, dl, fi, fullOf cs⟩)) := by
  unfold newMach
  rcases chkC (cA := cA) (cs := cs) with ⟨e, _⟩ | ⟨_, e⟩
  · rw [e]
    dsimp only
    rcases chkD (cA := cA) (full := fullOf cs) (dl := dl) with ⟨e, _⟩ | ⟨_, e⟩
    · rw [e]
      dsimp only
      rw [h.fit]; rfl
    · exact absurd ⟨h.few, h.deed, h.dn⟩ e
  · exact absurd ⟨h.many, h.cell, h.nd⟩ e
theorem newM_no {cA cM : Addr} {cs : List (Str × Int)} {dl : List Deed} {fi : List Int} (h : ¬ GoodM cs dl fi) : newMach cA cM cs dl fi = .er (.ref cA) none := by
  unfold newMach
  rcases chkC (cA := cA) (cs := cs) with ⟨e, a⟩ | ⟨e, _⟩
  · rw [e]
    dsimp only
    rcases chkD (cA := cA) (full := fullOf cs) (dl := dl) with ⟨e, b⟩ | ⟨e, _⟩
    · rw [e]
      dsimp only
      rw [if_pos]
      cases z : fitsB (fullOf cs) fi with
      | false => rfl
      | true => exact absurd ⟨a.1, a.2.1, a.2.2, b.1, b.2.1, b.2.2, z⟩ h
    · rw [e]
  · rw [e]
/-! roots: the seven forms -/
theorem rt_cases {b v : Nat} {p : Nat → Nat → Prop} (h : RtGood b v) (h31 : p 3 1) (h32 : p 3 2) (h33 : p 3 3) (h34 : p 3 4) (h41 : p 4 1) (h42 : p 4 2) (h51 : p 5 1) : p b v := by
  unfold RtGood at h
  simp only [List.mem_cons, List.not_mem_nil, or_false, Prod.mk.injEq] at h
  rcases h with ⟨rfl, rfl⟩ | ⟨rfl, rfl⟩ | ⟨rfl, rfl⟩ | ⟨rfl, rfl⟩ | ⟨rfl, rfl⟩ | ⟨rfl, rfl⟩ | ⟨rfl, rfl⟩ <;> assumption
def rtPreB (b v : Nat) : Prop := (∀ c ∈ rtCs b v, c.1.length ≤ 100000) ∧ (∀ d ∈ rtDl b v, d.name.length ≤ 100000 ∧ d.guard.length ≤ 1000 ∧ d.changes.length ≤ 1000)
instance (b v : Nat) : Decidable (rtPreB b v) := by unfold rtPreB; infer_instance
theorem rtPre_31 : rtPreB 3 1 := by decide +kernel
theorem rtPre_32 : rtPreB 3 2 := by decide +kernel
theorem rtPre_33 : rtPreB 3 3 := by decide +kernel
theorem rtPre_34 : rtPreB 3 4 := by decide +kernel
theorem rtPre_41 : rtPreB 4 1 := by decide +kernel
theorem rtPre_42 : rtPreB 4 2 := by decide +kernel
theorem rtPre_51 : rtPreB 5 1 := by decide +kernel
theorem rt_pre {b v : Nat} (h : RtGood b v) : (∀ c ∈ rtCs b v, c.1.length ≤ 100000) ∧ (∀ d ∈ rtDl b v, d.name.length ≤ 100000 ∧ d.guard.length ≤ 1000 ∧ d.changes.length ≤ 1000) := rt_cases (p := rtPreB) h rtPre_31 rtPre_32 rtPre_33 rtPre_34 rtPre_41 rtPre_42 rtPre_51
section
theorem rtFi_is (b : Nat) : ([D.int 2, D.int 1, D.int 1, D.int 2] ++ (List.replicate ((b : Int)).toNat [D.int 1]).flatten) = (rtFi b).map D.int := by
  unfold rtFi
  rw [List.map_append, List.map_replicate, Int.toNat_natCast, flat_one]
  rfl
local macro_rules | `(tactic| walk_at "opMult") => `(tactic| (refine opd_repT1 ⟨⟨?_, ?_⟩, (by decide : 1 ≤ 1000)⟩ (by simp) <;> omega))
local macro_rules | `(tactic| walk_at "S") => `(tactic| first | exact ⟨b, v, rfl, h0, rfl⟩ | exact ⟨b, v, n, g, rfl, h0, rfl⟩ | exact ⟨b, v, n, g, _, p, q, x, args4 ht, hD, congrArg (fun d => Res.ok (encDeed d)) (upd_t ht)⟩ | exact ⟨b, v, n, g, _, p, q, x, args4 ht, hD, congrArg (fun d => Res.ok (encDeed d)) (tor_t ht)⟩ | exact ⟨rtCs b v, rtDl b v, rtFi b, (by rw [rtFi_is b]; rfl), rt_pre hg, rfl⟩)
local macro_rules | `(tactic| walk_at "side") => `(tactic| first | walk_at "side0" | (rw [List.length_flatten]; simp; omega) | (simp only [List.length_append, List.length_map]; omega))

abbrev s_root_machine : Stmt := topS 47
theorem sc_root_machine : FnScope ["form", "deeds", "newer", "generation", "roots", "value", "first"] ["form"] (defScope s_root_machine) := ⟨rfl, rfl, rfl, by decide +kernel, rfl, by decide +kernel, by decide +kernel⟩
def S_root_machine (cA_RootForm : Addr) (cA_Machine : Addr) (cA_InvalidMachine : Addr) : List D → Res → Prop := fun ds r => ∃ (b v : Nat), ds = [.obj cA_RootForm (rtF b v)] ∧ RtGood b v ∧ r = newMach cA_InvalidMachine cA_Machine (rtCs b v) (rtDl b v) (rtFi b)
theorem fd_root_machine {f : Addr} {fd : FuncData} (F : Fun K "root_machine" "root_machine" s_root_machine f fd) (gx : mg "root_machine" = some (.ref f)) (hb : Binds K fd ["form"] []) (T : Txt mg) (F_pairs_of_roots : FD P w K mg base 2 "pairs_of_roots" 3 (S_pairs_of_roots cA_RootForm)) (F_root_cells : FD P w K mg base 2 "root_cells" 1 (S_root_cells cA_RootForm)) (F_torn_deed : FD P w K mg base 3 "torn_deed" 4 (S_torn_deed cA_RootForm)) (F_update_deed : FD P w K mg base 3 "update_deed" 4 (S_update_deed cA_RootForm)) (FI_Machine : FI P w K mg base 4 "Machine" cA_Machine 3 (S_Machine_init cA_Machine cA_InvalidMachine)) (cl_RootForm : Cls K cA_RootForm) (na_RootForm_alphabet : NoAttr K cA_RootForm "alphabet") (na_RootForm_blocks : NoAttr K cA_RootForm "blocks") : FD P w K mg base 6 "root_machine" 1 (S_root_machine cA_RootForm cA_Machine cA_InvalidMachine) := by
  refine fd_of (N := ["form", "deeds", "newer", "generation", "roots", "value", "first"]) F gx hb sc_root_machine (by decide) ?_
  intro cdv A outer s0_ H E ds r hr hl hS
  obtain ⟨b, v, rfl, hg, rfl⟩ := hS
  show SDs _ _ [.val (.obj cA_RootForm (rtF b v)), .no, .no, .no, .no, .no, .no] _ _
  have h0 := hg.ok
  refine sds_setO 1 (eo_lst ea_nil (by walk_at "len")) sc_root_machine.nd rfl (by walk_at "loc") ?_ (by walk_at "len")
  refine sds_fold (fun dl => [.val (.obj cA_RootForm (rtF b v)), .own (.lst (dl.map encDeed)), .no, .no, .no, .no, .no]) (rt1 b v) (fun i s => s.length ≤ i * 600) [] (by walk_at "pass") rfl (by first | exact wd_range1N (ed_globI rfl T.c_ROOTS) (by walk_at "side") rfl T.m_range | exact wd_range1 (ed_globI rfl T.c_ROOTS) (by walk_at "side") (by walk_at "side") rfl T.m_range) (td_name 2 sc_root_machine.nd rfl (by walk_at "loc")) (by repeat first | exact Wk.nil | refine Wk.no ?_ | refine Wk.eq ?_ | refine Wk.frz ?_ | (refine Wk.eq' ?hh ?_; (case hh => first | (simp only [List.map_append, List.map_cons, List.map_nil, if_true, if_false, and_self, and_true, true_and, and_false, false_and, not_true_eq_false, not_false_eq_true, reduceIte]; done) | (simp []; done))) | (refine Wk.frzE ?hh ?_; (case hh => first | (simp only [List.map_append, List.map_cons, List.map_nil, if_true, if_false, and_self, and_true, true_and, and_false, false_and, not_true_eq_false, not_false_eq_true, reduceIte]; done) | (simp []; done)))) (by exact Nat.le_refl _) ?_ ?_
  · intro i1 n dl hx hP
    have hP1' : dl.length ≤ i1 * 600 := hP; have hn : 0 ≤ n ∧ n < 2 := ⟨(get_rng hx).1, (get_rng hx).2.1⟩; have hi1 : i1 < 2 := by have z := (List.getElem?_eq_some_iff.mp hx).1; rw [rng_len] at z; exact z
    refine ⟨_, (by walk_at "tgt"), ?_⟩
    refine sds_fold (fun dm => [.val (.obj cA_RootForm (rtF b v)), .own (.lst (dm.map encDeed)), .val (.int n), .no, .no, .no, .no]) (rt2 b v n) (fun j s => s.length ≤ dl.length + j * 200) dl (by walk_at "pass") rfl (by first | exact wd_range1N (ed_globI rfl T.c_GENERATIONS) (by walk_at "side") rfl T.m_range | exact wd_range1 (ed_globI rfl T.c_GENERATIONS) (by walk_at "side") (by walk_at "side") rfl T.m_range) (td_name 3 sc_root_machine.nd rfl (by walk_at "loc")) (by repeat first | exact Wk.nil | refine Wk.no ?_ | refine Wk.eq ?_ | refine Wk.frz ?_ | (refine Wk.eq' ?hh ?_; (case hh => first | (simp only [List.map_append, List.map_cons, List.map_nil, if_true, if_false, and_self, and_true, true_and, and_false, false_and, not_true_eq_false, not_false_eq_true, reduceIte]; done) | (simp []; done))) | (refine Wk.frzE ?hh ?_; (case hh => first | (simp only [List.map_append, List.map_cons, List.map_nil, if_true, if_false, and_self, and_true, true_and, and_false, false_and, not_true_eq_false, not_false_eq_true, reduceIte]; done) | (simp []; done)))) (by exact Nat.le_refl _) ?_ ?_
    · intro i2 g dm hx hP
      have hP2' : dm.length ≤ dl.length + i2 * 200 := hP; have hg3 : 0 ≤ g ∧ g < 3 := ⟨(get_rng hx).1, (get_rng hx).2.1⟩; have hi2 : i2 < 3 := by have z := (List.getElem?_eq_some_iff.mp hx).1; rw [rng_len] at z; exact z
      refine ⟨_, (by walk_at "tgt"), ?_⟩
      refine sds_fold (xs := prsOf b n g) (enc := fun t : List Int => .tup (t.map .int)) (fun dn => [.val (.obj cA_RootForm (rtF b v)), .own (.lst (dn.map encDeed)), .val (.int n), .val (.int g), .no, .no, .no]) (rt3 b v n) (fun j s => s.length ≤ dm.length + j * 8) dm (by walk_at "pass") rfl (by first | exact wd_list (ed_call F_pairs_of_roots (hr.mono (by decide)) rfl (ea_cons (ed_var 0 rfl rfl (by walk_at "vis")) (ea_cons (ed_var 2 rfl rfl (by walk_at "vis")) (ea_cons (ed_var 3 rfl rfl (by walk_at "vis")) ea_nil))) (by walk_at "S")) | exact wd_tup (ed_call F_pairs_of_roots (hr.mono (by decide)) rfl (ea_cons (ed_var 0 rfl rfl (by walk_at "vis")) (ea_cons (ed_var 2 rfl rfl (by walk_at "vis")) (ea_cons (ed_var 3 rfl rfl (by walk_at "vis")) ea_nil))) (by walk_at "S")) | exact wd_str (ed_call F_pairs_of_roots (hr.mono (by decide)) rfl (ea_cons (ed_var 0 rfl rfl (by walk_at "vis")) (ea_cons (ed_var 2 rfl rfl (by walk_at "vis")) (ea_cons (ed_var 3 rfl rfl (by walk_at "vis")) ea_nil))) (by walk_at "S"))) (td_name 4 sc_root_machine.nd rfl (by walk_at "loc")) (by repeat first | exact Wk.nil | refine Wk.no ?_ | refine Wk.eq ?_ | refine Wk.frz ?_ | (refine Wk.eq' ?hh ?_; (case hh => first | (simp only [List.map_append, List.map_cons, List.map_nil, if_true, if_false, and_self, and_true, true_and, and_false, false_and, not_true_eq_false, not_false_eq_true, reduceIte]; done) | (simp []; done))) | (refine Wk.frzE ?hh ?_; (case hh => first | (simp only [List.map_append, List.map_cons, List.map_nil, if_true, if_false, and_self, and_true, true_and, and_false, false_and, not_true_eq_false, not_false_eq_true, reduceIte]; done) | (simp []; done)))) (by exact Nat.le_refl _) ?_ ?_
      · intro i3 t dn hx hP
        have hP3' : dn.length ≤ dm.length + i3 * 8 := hP; obtain ⟨p, q, ht, hp, hq⟩ := prs_in (List.mem_of_getElem? hx); have hi3 := (List.getElem?_eq_some_iff.mp hx).1; have hpl := prs_len h0.1.2 n g
        refine ⟨_, (by walk_at "tgt"), ?_⟩
        refine sds_fold (fun dp => [.val (.obj cA_RootForm (rtF b v)), .own (.lst (dp.map encDeed)), .val (.int n), .val (.int g), .val (.tup (t.map .int)), .no, .no]) (rt4 b n t) (fun j s => s.length ≤ dn.length + j * 2) dn (by walk_at "pass") rfl (by first | exact wd_range1N (ed_fld (ed_var 0 rfl rfl (by walk_at "vis")) cl_RootForm na_RootForm_alphabet rfl) (by walk_at "side") rfl T.m_range | exact wd_range1 (ed_fld (ed_var 0 rfl rfl (by walk_at "vis")) cl_RootForm na_RootForm_alphabet rfl) (by walk_at "side") (by walk_at "side") rfl T.m_range) (td_name 5 sc_root_machine.nd rfl (by walk_at "loc")) (by repeat first | exact Wk.nil | refine Wk.no ?_ | refine Wk.eq ?_ | refine Wk.frz ?_ | (refine Wk.eq' ?hh ?_; (case hh => first | (simp only [rt4, List.map_append, List.map_cons, List.map_nil, if_true, if_false, and_self, and_true, true_and, and_false, false_and, not_true_eq_false, not_false_eq_true, reduceIte]; done) | (simp [rt4]; done) | ((try simp only [rt4]); (repeat' split) <;> first | rfl | (simp only [List.map_append, List.map_cons, List.map_nil, rt4]; done) | (exfalso; omega) | (simp_all; done)))) | (refine Wk.frzE ?hh ?_; (case hh => first | (simp only [rt4, List.map_append, List.map_cons, List.map_nil, if_true, if_false, and_self, and_true, true_and, and_false, false_and, not_true_eq_false, not_false_eq_true, reduceIte]; done) | (simp [rt4]; done) | ((try simp only [rt4]); (repeat' split) <;> first | rfl | (simp only [List.map_append, List.map_cons, List.map_nil, rt4]; done) | (exfalso; omega) | (simp_all; done))))) (by exact Nat.le_refl _) ?_ ?_
        · intro i4 x dp hx hP
          have hP4' : dp.length ≤ dn.length + i4 * 2 := hP; have hx4 := get_rng hx; have hi4 := (List.getElem?_eq_some_iff.mp hx).1; rw [rng_len] at hi4; have hD := five (n := n) (g := g) (p := p) (q := q) (x := x) ⟨by omega, by omega, by omega, by omega, by omega⟩; have hD := (⟨⟨h0, by omega⟩, hD, by omega⟩ : (((3 ≤ b ∧ b ≤ 5) ∧ (1 ≤ v ∧ v ≤ 4)) ∧ (0 ≤ n ∧ n < 2)) ∧ (∀ y ∈ [n, g, p, q, x], 0 ≤ y ∧ y < 10) ∧ (0 ≤ (g + (if (n != 0) = true then 1 else -1)) % 3 ∧ (g + (if (n != 0) = true then 1 else -1)) % 3 < 10))
          refine ⟨_, (by walk_at "tgt"), ?_⟩
          refine sds_app 1 rfl (ed_call F_update_deed (hr.mono (by decide)) rfl (ea_cons (ed_var 0 rfl rfl (by walk_at "vis")) (ea_cons (ed_var 2 rfl rfl (by walk_at "vis")) (ea_cons (ed_var 4 rfl rfl (by walk_at "vis")) (ea_cons (ed_var 5 rfl rfl (by walk_at "vis")) ea_nil)))) (by walk_at "S")) rfl (by walk_at "vis") (by walk_at "side") ?_
          refine sds_app 1 rfl (ed_call F_torn_deed (hr.mono (by decide)) rfl (ea_cons (ed_var 0 rfl rfl (by walk_at "vis")) (ea_cons (ed_var 2 rfl rfl (by walk_at "vis")) (ea_cons (ed_var 4 rfl rfl (by walk_at "vis")) (ea_cons (ed_var 5 rfl rfl (by walk_at "vis")) ea_nil)))) (by walk_at "S")) rfl (by walk_at "vis") (by walk_at "side") ?_
          refine sds_nil ⟨?_, rfl⟩ ?_
          · have := rt4_len b n t dp x; omega
          · repeat first | exact Wk.nil | refine Wk.no ?_ | refine Wk.eq ?_ | refine Wk.frz ?_ | (refine Wk.eq' ?hh ?_; (case hh => first | (simp only [rt4, rt4, List.map_append, List.map_cons, List.map_nil, if_true, if_false, and_self, and_true, true_and, and_false, false_and, not_true_eq_false, not_false_eq_true, reduceIte]; done) | (simp [rt4, rt4]; done) | ((try simp only [rt4, rt4]); (repeat' split) <;> first | rfl | (simp only [List.map_append, List.map_cons, List.map_nil, rt4, rt4]; done) | (exfalso; omega) | (simp_all; done)))) | (refine Wk.frzE ?hh ?_; (case hh => first | (simp only [rt4, rt4, List.map_append, List.map_cons, List.map_nil, if_true, if_false, and_self, and_true, true_and, and_false, false_and, not_true_eq_false, not_false_eq_true, reduceIte]; done) | (simp [rt4, rt4]; done) | ((try simp only [rt4, rt4]); (repeat' split) <;> first | rfl | (simp only [List.map_append, List.map_cons, List.map_nil, rt4, rt4]; done) | (exfalso; omega) | (simp_all; done))))
        · intro hP4
          refine sds_nil ⟨?_, rfl⟩ ?_
          · have := rt3_len (b := b) h0.2.2 n t dn; omega
          · repeat first | exact Wk.nil | refine Wk.no ?_ | refine Wk.eq ?_ | refine Wk.frz ?_ | (refine Wk.eq' ?hh ?_; (case hh => first | (simp only [rt3, List.map_append, List.map_cons, List.map_nil, if_true, if_false, and_self, and_true, true_and, and_false, false_and, not_true_eq_false, not_false_eq_true, reduceIte]; done) | (simp [rt3]; done) | ((try simp only [rt3]); (repeat' split) <;> first | rfl | (simp only [List.map_append, List.map_cons, List.map_nil, rt3]; done) | (exfalso; omega) | (simp_all; done)))) | (refine Wk.frzE ?hh ?_; (case hh => first | (simp only [rt3, List.map_append, List.map_cons, List.map_nil, if_true, if_false, and_self, and_true, true_and, and_false, false_and, not_true_eq_false, not_false_eq_true, reduceIte]; done) | (simp [rt3]; done) | ((try simp only [rt3]); (repeat' split) <;> first | rfl | (simp only [List.map_append, List.map_cons, List.map_nil, rt3]; done) | (exfalso; omega) | (simp_all; done))))
      · intro hP3
        refine sds_nil ⟨?_, rfl⟩ ?_
        · have := rt2_len h0.1.2 h0.2.2 n g dm; omega
        · repeat first | exact Wk.nil | refine Wk.no ?_ | refine Wk.eq ?_ | refine Wk.frz ?_ | (refine Wk.eq' ?hh ?_; (case hh => first | (simp only [rt2, List.map_append, List.map_cons, List.map_nil, if_true, if_false, and_self, and_true, true_and, and_false, false_and, not_true_eq_false, not_false_eq_true, reduceIte]; done) | (simp [rt2]; done) | ((try simp only [rt2]); (repeat' split) <;> first | rfl | (simp only [List.map_append, List.map_cons, List.map_nil, rt2]; done) | (exfalso; omega) | (simp_all; done)))) | (refine Wk.frzE ?hh ?_; (case hh => first | (simp only [rt2, List.map_append, List.map_cons, List.map_nil, if_true, if_false, and_self, and_true, true_and, and_false, false_and, not_true_eq_false, not_false_eq_true, reduceIte]; done) | (simp [rt2]; done) | ((try simp only [rt2]); (repeat' split) <;> first | rfl | (simp only [List.map_append, List.map_cons, List.map_nil, rt2]; done) | (exfalso; omega) | (simp_all; done))))
    · intro hP2
      refine sds_nil ⟨?_, rfl⟩ ?_
      · have := rt1_len h0.1.2 h0.2.2 n dl; omega
      · repeat first | exact Wk.nil | refine Wk.no ?_ | refine Wk.eq ?_ | refine Wk.frz ?_ | (refine Wk.eq' ?hh ?_; (case hh => first | (simp only [rt1, List.map_append, List.map_cons, List.map_nil, if_true, if_false, and_self, and_true, true_and, and_false, false_and, not_true_eq_false, not_false_eq_true, reduceIte]; done) | (simp [rt1]; done) | ((try simp only [rt1]); (repeat' split) <;> first | rfl | (simp only [List.map_append, List.map_cons, List.map_nil, rt1]; done) | (exfalso; omega) | (simp_all; done)))) | (refine Wk.frzE ?hh ?_; (case hh => first | (simp only [rt1, List.map_append, List.map_cons, List.map_nil, if_true, if_false, and_self, and_true, true_and, and_false, false_and, not_true_eq_false, not_false_eq_true, reduceIte]; done) | (simp [rt1]; done) | ((try simp only [rt1]); (repeat' split) <;> first | rfl | (simp only [List.map_append, List.map_cons, List.map_nil, rt1]; done) | (exfalso; omega) | (simp_all; done))))
  · intro hP1
    refine sds_set 6 (ed_bin (ed_tup (ea_cons ed_int (ea_cons ed_int (ea_cons ed_int (ea_cons ed_int ea_nil)))) (by walk_at "len")) (ed_bin (ed_tup (ea_cons ed_int ea_nil) (by walk_at "len")) (ed_fld (ed_var 0 rfl rfl (by walk_at "vis")) cl_RootForm na_RootForm_blocks rfl) (by walk_at "opMult")) (by walk_at "opAdd")) sc_root_machine.nd rfl (by walk_at "loc") ?_ (by walk_at "len")
    refine sds_frz 1 ?_
    refine sds_retR (er_make (takes_of rfl rfl rfl rfl) FI_Machine (hr.mono (by decide)) rfl (ea_cons (ed_call F_root_cells (hr.mono (by decide)) rfl (ea_cons (ed_var 0 rfl rfl (by walk_at "vis")) ea_nil) (by walk_at "S")) (ea_cons (ed_var 1 rfl rfl (by walk_at "vis")) (ea_cons (ed_var 6 rfl rfl (by walk_at "vis")) ea_nil))) (by walk_at "S") (fun d hd => newMach_obj hd)) (fun d hc1 => ?_) (fun c fs hc1 => ?_)
    ·
      exact hc1
    · exact hc1
end

end
end RW

end
section
set_option maxHeartbeats 0
namespace RW
open PySem PySem.Spec PyProof.Rows L2
set_option hygiene false
local macro_rules | `(tactic| walk_at "vis") => `(tactic| first | exact Or.inl rfl | exact Or.inr (Or.inl rfl) | exact Or.inr (Or.inr rfl))
local macro_rules | `(tactic| walk_at "loc") => `(tactic| first | exact Or.inl rfl | exact Or.inr rfl)
local macro_rules | `(tactic| walk_at "side0") => `(tactic| first | omega | assumption | decide | (refine And.intro ?_ ?_ <;> walk_at "side0") | (simp; done) | (simp; omega))
local macro_rules | `(tactic| walk_at "side") => `(tactic| walk_at "side0")
local macro_rules | `(tactic| walk_at "len") => `(tactic| first | exact Nat.le_of_ble_eq_true rfl | decide | (show _ < _; simp only [List.length_set, List.length_cons, List.length_nil]; omega) | (simp; done) | (simp; omega))
local macro_rules | `(tactic| walk_at "opAdd") => `(tactic| first | exact opd_add | (refine opd_addS ?_; walk_at "side") | (refine opd_cat ?_; walk_at "side") | (refine opd_catL ?_; walk_at "side"))
local macro_rules | `(tactic| walk_at "opSub") => `(tactic| exact opd_sub)
local macro_rules | `(tactic| walk_at "opMult") => `(tactic| first | (refine opd_mulR ?_; constructor <;> decide) | (refine opd_mulL ?_; constructor <;> decide) | (refine opd_mulR ?_; walk_at "side") | (refine opd_mulL ?_; walk_at "side"))
local macro_rules | `(tactic| walk_at "opFloorDiv") => `(tactic| first | (refine opd_fdiv ?_; constructor <;> decide) | (refine opd_fdiv ?_; walk_at "side"))
local macro_rules | `(tactic| walk_at "opMod") => `(tactic| first | (refine opd_mod ?_; decide) | (refine opd_mod ?_; walk_at "side"))
local macro_rules | `(tactic| walk_at "opBitAnd") => `(tactic| exact opd_and)
local macro_rules | `(tactic| walk_at "opBitOr") => `(tactic| exact opd_or)
local macro_rules | `(tactic| walk_at "opLShift") => `(tactic| (refine opd_shl ?_; walk_at "side"))
local macro_rules | `(tactic| walk_at "opRShift") => `(tactic| (refine opd_shr ?_; walk_at "side"))
local macro_rules | `(tactic| walk_at "unUSub") => `(tactic| exact und_neg)
local macro_rules | `(tactic| walk_at "unInvert") => `(tactic| exact und_inv)
local macro_rules | `(tactic| walk_at "cmpLt") => `(tactic| exact opd_lt)
local macro_rules | `(tactic| walk_at "cmpLtE") => `(tactic| exact opd_le)
local macro_rules | `(tactic| walk_at "cmpGt") => `(tactic| exact opd_gt)
local macro_rules | `(tactic| walk_at "cmpGtE") => `(tactic| exact opd_ge)
local macro_rules | `(tactic| walk_at "cmpEq") => `(tactic| first | exact opd_eqI | exact opd_eqS | exact opd_eqB | (refine opd_eq hr.units ?_ ?_; walk_at "plain"; walk_at "plain"))
local macro_rules | `(tactic| walk_at "cmpNotEq") => `(tactic| first | exact opd_neI | exact opd_neS | exact opd_neB | (refine opd_ne hr.units ?_ ?_; walk_at "plain"; walk_at "plain"))
local macro_rules | `(tactic| walk_at "cmpIs") => `(tactic| exact opd_isN)
local macro_rules | `(tactic| walk_at "cmpIsNot") => `(tactic| exact opd_notN)
local macro_rules | `(tactic| walk_at "cmpIn") => `(tactic| first | exact opd_inC | (refine opd_inT ?_ ?_; walk_at "flat"; walk_at "flat") | (refine opd_inL ?_ ?_; walk_at "flat"; walk_at "flat") | (refine opd_inDL hr.units65 ?_ ?_; walk_at "plain"; walk_at "plain"))
local macro_rules | `(tactic| walk_at "cmpNotIn") => `(tactic| first | exact opd_niC | (refine opd_niT ?_ ?_; walk_at "flat"; walk_at "flat") | (refine opd_niL ?_ ?_; walk_at "flat"; walk_at "flat"))
local macro_rules | `(tactic| walk_at "flat") => `(tactic| first | rfl | (simp [flatD]; done) | assumption)
local macro_rules | `(tactic| walk_at "plain") => `(tactic| first | rfl | assumption | (simp [plainD, plainDs]; done))
local macro_rules | `(tactic| walk_at "ifd") => `(tactic| first | exact ifd_int | exact ifd_str | exact ifd_bl | exact ifd_tup | exact ifd_lst | exact ifd_any)
local macro_rules | `(tactic| walk_at "sld") => `(tactic| first | exact sld_tup | exact sld_lst | (refine sld_str ?_; walk_at "side"))
local macro_rules | `(tactic| walk_at "ix") => `(tactic| first | exact ixd_tup rfl | exact ixd_lst rfl | (refine ixd_lst (atI_map ?_); walk_at "side") | (refine ixd_tup (atI_map ?_); walk_at "side"))
local macro_rules | `(tactic| walk_at "S") => `(tactic| first | exact ⟨_, rfl, rfl⟩ | exact ⟨_, _, rfl, rfl⟩ | exact ⟨_, _, _, rfl, rfl⟩ | (refine ⟨_, rfl, ?_, rfl⟩; walk_at "side") | (refine ⟨_, _, rfl, ?_, rfl⟩; walk_at "side") | (refine ⟨_, _, _, rfl, ?_, rfl⟩; walk_at "side") | exact ⟨_, _, _, _, rfl, rfl⟩ | (refine ⟨_, _, _, _, rfl, ?_, rfl⟩; walk_at "side"))
local macro_rules | `(tactic| walk_at "call_len") => `(tactic| first | exact cd_len_lstM | exact cd_len_tupM | exact cd_len_lst | exact cd_len_tup | exact cd_len_scr | (refine cd_len_str ?_; walk_at "side"))
local macro_rules | `(tactic| walk_at "call_int") => `(tactic| first | exact cd_int | exact cd_intB | (refine cd_intS ?_ ?_; walk_at "itxt"; walk_at "side"))
local macro_rules | `(tactic| walk_at "call_abs") => `(tactic| exact cd_abs)
local macro_rules | `(tactic| walk_at "call_str") => `(tactic| (refine cd_str ?_; walk_at "side"))
local macro_rules | `(tactic| walk_at "call_tuple") => `(tactic| first | exact cd_tupleL | exact cd_tupleT)
local macro_rules | `(tactic| walk_at "call_all") => `(tactic| exact cd_all rfl)
local macro_rules | `(tactic| walk_at "call_any") => `(tactic| exact cd_any rfl)
local macro_rules | `(tactic| walk_at "call_sum") => `(tactic| exact cd_sum rfl)
local macro_rules | `(tactic| walk_at "call_isinstance") => `(tactic| first | exact isi_tup_tuple | exact isi_tup_list | exact isi_tup_int | exact isi_tup_str | exact isi_tup_bool | exact isi_lst_tuple | exact isi_lst_list | exact isi_lst_int | exact isi_lst_str | exact isi_lst_bool | exact isi_int_tuple | exact isi_int_list | exact isi_int_int | exact isi_int_str | exact isi_int_bool | exact isi_str_tuple | exact isi_str_list | exact isi_str_int | exact isi_str_str | exact isi_str_bool | exact isi_bl_tuple | exact isi_bl_list | exact isi_bl_int | exact isi_bl_str | exact isi_bl_bool | exact isi_non_tuple | exact isi_non_list | exact isi_non_int | exact isi_non_str | exact isi_non_bool)
local macro_rules | `(tactic| walk_at "callo") => `(tactic| first | exact co_listL | exact co_listT)
local macro_rules | `(tactic| walk_at "truv") => `(tactic| first | exact trd_int | exact trd_lst | exact trd_tup | (refine trd_str ?_; walk_at "side"))
local macro_rules | `(tactic| walk_at "tgt") => `(tactic| first | exact ⟨(by walk_at "len"), rfl⟩ | (refine pairF ?_ ?_; walk_at "len"; walk_at "len") | (refine ⟨[_, _, _], rfl, rfl, consF_name ?_ (consF_name ?_ (consF_name ?_ nilF_mk))⟩; walk_at "len"; walk_at "len"; walk_at "len"))
local macro_rules | `(tactic| walk_at "pass") => `(tactic| first | exact passes_of rfl | exact PassesOwn.never | exact po1)
local macro_rules | `(tactic| walk_at "wk") => `(tactic| repeat first | exact Wk.nil | refine Wk.no ?_ | refine Wk.eq ?_ | refine Wk.frz ?_)
local macro_rules | `(tactic| walk_at "ret") => `(tactic| first | rfl | assumption)
local macro_rules | `(tactic| walk_at "lcr") => `(tactic| first | exact lcr_int | exact lcr_str | exact lcr_bl | exact lcr_int' | rfl)
local macro_rules | `(tactic| walk_at "ixo") => `(tactic| first | exact atI_nat rfl | (refine atI_map ?_; walk_at "side"))
local macro_rules | `(tactic| walk_at "call_max") => `(tactic| exact cd_max2 rfl)
local macro_rules | `(tactic| walk_at "call_min") => `(tactic| exact cd_min2 rfl)
local macro_rules | `(tactic| walk_at "call_divmod") => `(tactic| (refine cd_divmod ?_; walk_at "side"))

section
variable {P : Program} {w : World} {K : PySem.W.Frag} {mg : Str → Option Value} {base : Heap}
def rvR (t : List Int) (fm : Bool) : Int := t.getD (4 + t.getD (2 + (if fm = true then 1 - newR t else newR t)).toNat default).toNat default
theorem newR_01 (t : List Int) : newR t = 0 ∨ newR t = 1 := by unfold newR; split <;> simp
section
local macro_rules | `(tactic| walk_at "S") => `(tactic| exact ⟨t, rfl, (by omega), rfl⟩)
local macro_rules | `(tactic| walk_at "ix") => `(tactic| (refine ixd_tup (atI_map ?_); omega))

abbrev s_root_value : Stmt := topS 57
theorem sc_root_value : FnScope ["form", "disk", "former", "newer", "root"] ["form", "disk", "former"] (defScope s_root_value) := ⟨rfl, rfl, rfl, by decide +kernel, rfl, by decide +kernel, by decide +kernel⟩
def S_root_value : List D → Res → Prop := fun ds r => ∃ (d0 : D) (b : Nat) (t : List Int) (fm : Bool), ds = [d0, .tup (t.map .int), .bl fm] ∧ (t.length = 4 + b ∧ (0 ≤ t.getD (2 : Int).toNat default ∧ t.getD (2 : Int).toNat default < (b : Int)) ∧ (0 ≤ t.getD (3 : Int).toNat default ∧ t.getD (3 : Int).toNat default < (b : Int))) ∧ r = .ok (.int (rvR t fm))
theorem fk_root_value {f : Addr} {fd : FuncData} (F : FunD K "root_value" "root_value" (defArgs s_root_value) (defBody s_root_value) (defScope s_root_value) [] [("former", .bl false)] f fd) (gx : mg "root_value" = some (.ref f)) (T : Txt mg) (F_newer_root : FD P w K mg base 1 "newer_root" 1 S_newer_root) : FK P w K mg base 2 "root_value" 2 [] [.bl false] [.bl false] S_root_value ∧ FK P w K mg base 2 "root_value" 2 ["former"] [] [] S_root_value := by
  refine fk_of (ps := ["form", "disk", "former"]) F gx rfl (fun D doc pm an cdv ct us mv hl hm => match us, mv, hl, hm with | [_, _], [_], _, _ => ⟨_, _, _, _, _, _, rfl, rfl, rfl⟩) (fun D doc pm an cdv ct us ws hl hm => match us, ws, hl, hm with | [_, _], [_], _, _ => rfl) (fnk_of (N := ["form", "disk", "former", "newer", "root"]) F sc_root_value (by decide) ?_)
  intro cdv A outer s0_ H E ds r hr hl hS
  obtain ⟨d0, b, t, fm, rfl, ⟨hl, h2, h3⟩, rfl⟩ := hS
  show SDs _ _ [.val (d0), .val (.tup (t.map .int)), .val (.bl fm), .no, .no] _ _
  have h01 := newR_01 t
  have hk : (if fm = true then 1 - newR t else newR t) = 0 ∨ (if fm = true then 1 - newR t else newR t) = 1 := by cases fm <;> rcases h01 with e | e <;> rw [e] <;> decide
  have hv : 0 ≤ t.getD (2 + (if fm = true then 1 - newR t else newR t)).toNat default ∧ t.getD (2 + (if fm = true then 1 - newR t else newR t)).toNat default < (b : Int) := by
    rcases hk with e | e <;> rw [e]
    · exact h2
    · exact h3
  refine sds_set 3 (ed_call F_newer_root (hr.mono (by decide)) rfl (ea_cons (ed_var 1 rfl rfl (by walk_at "vis")) ea_nil) (by walk_at "S")) sc_root_value.nd rfl (by walk_at "loc") ?_ (by walk_at "len")
  refine sds_set 4 (ed_ifd (by first | exact et_val (ed_var 2 rfl rfl (by walk_at "vis")) | exact et_tru (ed_var 2 rfl rfl (by walk_at "vis")) (by walk_at "truv")) (fun hb => (ed_bin ed_int (ed_var 3 rfl rfl (by walk_at "vis")) (by walk_at "opSub"))) (fun hb => (ed_var 3 rfl rfl (by walk_at "vis"))) (by walk_at "ifd")) sc_root_value.nd rfl (by walk_at "loc") ?_ (by walk_at "len")
  refine sds_ret (ed_ix (ed_var 1 rfl rfl (by walk_at "vis")) (ed_bin (ed_globI rfl T.c_CONTENTS) (ed_ix (ed_var 1 rfl rfl (by walk_at "vis")) (ed_bin (ed_globI rfl T.c_BLOCK) (ed_var 4 rfl rfl (by walk_at "vis")) (by walk_at "opAdd")) (by walk_at "ix")) (by walk_at "opAdd")) (by walk_at "ix")) ?_
  walk_at "ret"
end

def rupP (b : Nat) (t : List Int) (x : Int) (tn : Bool) : List (Int × Int) := if (!tn) = true then updP b (newR t) t ++ tornP b t x else tornP b t x
def rupR (cA : Addr) (b v : Nat) (t : List Int) (x : Int) (tn : Bool) : Res := if (!(decide ((0 : Int) ≤ x) && decide (x < (v : Int)))) = true then .er (.ref cA) none else .ok (.tup ((wrL t (rupP b t x tn)).map .int))
theorem tor_in {b : Nat} {t : List Int} {x : Int} (hb : 3 ≤ b) (hl : t.length = 4 + b) : ∀ z ∈ tornP b t x, 0 ≤ z.1 ∧ z.1 < t.length := fun z hz => by
  unfold tornP at hz
  rw [List.mem_singleton.mp hz]
  have := fre_in (t := t) hb (by omega)
  constructor <;> dsimp only <;> omega
theorem upd_in {b : Nat} {t : List Int} (hb : 3 ≤ b) (hl : t.length = 4 + b) : ∀ z ∈ updP b (newR t) t, 0 ≤ z.1 ∧ z.1 < t.length := fun z hz => by
  unfold updP at hz
  have := newR_01 t
  simp only [List.mem_cons, List.not_mem_nil, or_false] at hz
  rcases hz with rfl | rfl <;> (constructor <;> dsimp only <;> omega)
section
local macro_rules | `(tactic| walk_at "S") => `(tactic| first | exact ⟨(v : Int), x, rfl, hx0, rfl⟩ | exact ⟨t, rfl, (by omega), rfl⟩ | exact ⟨b, v, t, x, rfl, ⟨h0, by omega⟩, rfl⟩ | exact ⟨b, v, newR t, t, rfl, ⟨⟨h0, by omega⟩, by omega⟩, rfl⟩ | exact ⟨t, tornP b t x, rfl, ⟨tor_in h0.1.1 hl, by omega⟩, rfl⟩ | exact ⟨t, updP b (newR t) t ++ tornP b t x, (by rw [List.map_append]), ⟨fun z hz => (List.mem_append.mp hz).elim (upd_in h0.1.1 hl z) (tor_in h0.1.1 hl z), by omega⟩, rfl⟩)
local macro_rules | `(tactic| walk_at "side") => `(tactic| first | walk_at "side0" | (rw [List.length_map, List.length_map]; show 2 + 1 ≤ _; decide))

abbrev s_root_update : Stmt := topS 58
theorem sc_root_update : FnScope ["form", "disk", "value", "torn", "pairs"] ["form", "disk", "value", "torn"] (defScope s_root_update) := ⟨rfl, rfl, rfl, by decide +kernel, rfl, by decide +kernel, by decide +kernel⟩
def S_root_update (cA_RootForm : Addr) (cA_InvalidFile : Addr) : List D → Res → Prop := fun ds r => ∃ (b v : Nat) (t : List Int) (x : Int) (tn : Bool), ds = [.obj cA_RootForm (rtF b v), .tup (t.map .int), .int x, .bl tn] ∧ (((3 ≤ b ∧ b ≤ 5) ∧ (1 ≤ v ∧ v ≤ 4)) ∧ t.length = 4 + b ∧ (-1 ≤ x ∧ x < 500)) ∧ r = rupR cA_InvalidFile b v t x tn
theorem fk_root_update {f : Addr} {fd : FuncData} (F : FunD K "root_update" "root_update" (defArgs s_root_update) (defBody s_root_update) (defScope s_root_update) [] [("torn", .bl false)] f fd) (gx : mg "root_update" = some (.ref f)) (T : Txt mg) (F_check_value : FD P w K mg base 1 "check_value" 2 (S_check_value cA_InvalidFile)) (F_disk_with : FD P w K mg base 1 "disk_with" 2 S_disk_with) (F_newer_root : FD P w K mg base 1 "newer_root" 1 S_newer_root) (F_torn_pairs : FD P w K mg base 2 "torn_pairs" 3 (S_torn_pairs cA_RootForm)) (F_updated_pairs : FD P w K mg base 2 "updated_pairs" 3 (S_updated_pairs cA_RootForm)) (cl_RootForm : Cls K cA_RootForm) (na_RootForm_alphabet : NoAttr K cA_RootForm "alphabet") : FK P w K mg base 3 "root_update" 3 [] [.bl false] [.bl false] (S_root_update cA_RootForm cA_InvalidFile) ∧ FK P w K mg base 3 "root_update" 3 ["torn"] [] [] (S_root_update cA_RootForm cA_InvalidFile) := by
  refine fk_of (ps := ["form", "disk", "value", "torn"]) F gx rfl (fun D doc pm an cdv ct us mv hl hm => match us, mv, hl, hm with | [_, _, _], [_], _, _ => ⟨_, _, _, _, _, _, rfl, rfl, rfl⟩) (fun D doc pm an cdv ct us ws hl hm => match us, ws, hl, hm with | [_, _, _], [_], _, _ => rfl) (fnk_of (N := ["form", "disk", "value", "torn", "pairs"]) F sc_root_update (by decide) ?_)
  intro cdv A outer s0_ H E ds r hr hl hS
  obtain ⟨b, v, t, x, tn, rfl, ⟨h0, hl, hx0⟩, rfl⟩ := hS
  show SDs _ _ [.val (.obj cA_RootForm (rtF b v)), .val (.tup (t.map .int)), .val (.int x), .val (.bl tn), .no] _ _
  have h01 := newR_01 t
  refine sds_exprR (er_call (takes_of rfl rfl rfl rfl) F_check_value (hr.mono (by decide)) rfl (ea_cons (ed_fld (ed_var 0 rfl rfl (by walk_at "vis")) cl_RootForm na_RootForm_alphabet rfl) (ea_cons (ed_var 2 rfl rfl (by walk_at "vis")) ea_nil)) (by walk_at "S")) (fun d hc1 => ?_) (fun c fs hc1 => ?_)
  · skip
    refine sds_set 4 (ed_call F_torn_pairs (hr.mono (by decide)) rfl (ea_cons (ed_var 0 rfl rfl (by walk_at "vis")) (ea_cons (ed_var 1 rfl rfl (by walk_at "vis")) (ea_cons (ed_var 2 rfl rfl (by walk_at "vis")) ea_nil))) (by walk_at "S")) sc_root_update.nd rfl (by walk_at "loc") ?_ (by walk_at "len")
    refine sds_if (et_not (by first | exact et_val (ed_var 3 rfl rfl (by walk_at "vis")) | exact et_tru (ed_var 3 rfl rfl (by walk_at "vis")) (by walk_at "truv"))) (fun hc2 => ?_) (fun hc2 => ?_)
    · have hc2d := hc2
      try simp only [Bool.and_eq_true, Bool.or_eq_true, decide_eq_true_eq, decide_eq_false_iff_not, Bool.not_eq_true', Bool.not_eq_false', Bool.and_eq_false_iff, Bool.or_eq_false_iff] at hc2d
      refine sds_set 4 (ed_bin (ed_call F_updated_pairs (hr.mono (by decide)) rfl (ea_cons (ed_var 0 rfl rfl (by walk_at "vis")) (ea_cons (ed_call F_newer_root (hr.mono (by decide)) rfl (ea_cons (ed_var 1 rfl rfl (by walk_at "vis")) ea_nil) (by walk_at "S")) (ea_cons (ed_var 1 rfl rfl (by walk_at "vis")) ea_nil))) (by walk_at "S")) (ed_var 4 rfl rfl (by walk_at "vis")) (by walk_at "opAdd")) sc_root_update.nd rfl (by walk_at "loc") ?_ (by walk_at "len")
      refine sds_go ?_
      refine sds_ret (ed_call F_disk_with (hr.mono (by decide)) rfl (ea_cons (ed_var 1 rfl rfl (by walk_at "vis")) (ea_cons (ed_var 4 rfl rfl (by walk_at "vis")) ea_nil)) (by walk_at "S")) ?_
      show rupR _ _ _ _ _ _ = Res.ok _; unfold rupR; rw [if_neg (if_ok hc1)]; unfold rupP; first | (rw [if_pos hc2]; done) | (rw [if_neg (by rw [hc2]; exact Bool.false_ne_true)]; done)
    · have hc2d := hc2
      try simp only [Bool.and_eq_true, Bool.or_eq_true, decide_eq_true_eq, decide_eq_false_iff_not, Bool.not_eq_true', Bool.not_eq_false', Bool.and_eq_false_iff, Bool.or_eq_false_iff] at hc2d
      refine sds_go ?_
      refine sds_ret (ed_call F_disk_with (hr.mono (by decide)) rfl (ea_cons (ed_var 1 rfl rfl (by walk_at "vis")) (ea_cons (ed_var 4 rfl rfl (by walk_at "vis")) ea_nil)) (by walk_at "S")) ?_
      show rupR _ _ _ _ _ _ = Res.ok _; unfold rupR; rw [if_neg (if_ok hc1)]; unfold rupP; first | (rw [if_pos hc2]; done) | (rw [if_neg (by rw [hc2]; exact Bool.false_ne_true)]; done)
  · obtain ⟨g, e⟩ := if_er hc1; show rupR _ _ _ _ _ _ = Res.er c fs; rw [← e]; unfold rupR; rw [if_pos g]
end

def lnw (t : List Int) : Int := if decide (t.getD (1 : Int).toNat default = (t.getD (0 : Int).toNat default + 1) % 3) = true then 1 else 0
theorem lnw_01 (t : List Int) : lnw t = 0 ∨ lnw t = 1 := by unfold lnw; split <;> simp
section
local macro_rules | `(tactic| walk_at "ix") => `(tactic| first | (refine ixd_tup (atI_map ?_); omega) | (refine ixd_lst (atI_map ?_); omega))

abbrev s_law_newer : Stmt := topS 62
theorem sc_law_newer : FnScope ["disk"] ["disk"] (defScope s_law_newer) := ⟨rfl, rfl, rfl, by decide +kernel, rfl, by decide +kernel, by decide +kernel⟩
def S_law_newer : List D → Res → Prop := fun ds r => ∃ (t : List Int), ds = [.tup (t.map .int)] ∧ (2 ≤ t.length) ∧ r = .ok (.int (lnw t))
theorem fd_law_newer {f : Addr} {fd : FuncData} (F : Fun K "_law_newer" "_law_newer" s_law_newer f fd) (gx : mg "_law_newer" = some (.ref f)) (hb : Binds K fd ["disk"] []) (T : Txt mg)  : FD P w K mg base 1 "_law_newer" 1 S_law_newer := by
  refine fd_of (N := ["disk"]) F gx hb sc_law_newer (by decide) ?_
  intro cdv A outer s0_ H E ds r hr hl hS
  obtain ⟨t, rfl, h0, rfl⟩ := hS
  show SDs _ _ [.val (.tup (t.map .int))] _ _
  refine sds_ret (ed_callTy rfl T.m_int boot_int (ea_cons (ed_cmp (ed_ix (ed_var 0 rfl rfl (by walk_at "vis")) ed_int (by walk_at "ix")) (ed_bin (ed_bin (ed_ix (ed_var 0 rfl rfl (by walk_at "vis")) ed_int (by walk_at "ix")) ed_int (by walk_at "opAdd")) ed_int (by walk_at "opMod")) (by walk_at "cmpEq")) ea_nil) (by walk_at "call_int")) ?_
  walk_at "ret"
end

def lfr (b : Nat) (t : List Int) : List Int := (rng 0 b).filter fun k => !decide (k ∈ RW.cut t (some 2) (some 4))
def lbk (b : Nat) (t : List Int) : Int := (lfr b t).getD (0 : Int).toNat default
theorem lbk_is (b : Nat) (t : List Int) : lbk b t = freB b t := by
  unfold lbk freB
  rw [show lfr b t = frL b t from rfl]
  cases frL b t <;> rfl
theorem lfr_pos {b : Nat} {t : List Int} (hb : 3 ≤ b) (h4 : 4 ≤ t.length) : 1 ≤ (lfr b t).length := List.length_pos_iff.mpr fun z => by
  have := (fr_min hb h4).1
  rw [show frL b t = [] from z] at this
  cases this
def lup (b : Nat) (t : List Int) (x : Int) (tn : Bool) : List Int := if (!tn) = true then ((t.set (4 + lbk b t).toNat x).set (1 - lnw t).toNat ((t.getD (lnw t).toNat default + 1) % 3)).set (3 - lnw t).toNat (lbk b t) else t.set (4 + lbk b t).toNat x
section
local macro_rules | `(tactic| walk_at "ix") => `(tactic| first | (refine ixd_tup (atI_map ?_); omega) | (refine ixd_lst (atI_map ?_); omega))
local macro_rules | `(tactic| walk_at "tgt") => `(tactic| (refine pairF ?_ ?_; walk_at "len"; walk_at "len"))
local macro_rules | `(tactic| walk_at "cmpNotIn") => `(tactic| exact opd_niI (cut_map D.int t _ _))
local macro_rules | `(tactic| walk_at "ixn") => `(tactic| (refine ixN_in ?_; simp only [List.length_set, List.length_map]; omega))
local macro_rules | `(tactic| walk_at "S") => `(tactic| exact ⟨t, rfl, (by omega), rfl⟩)

abbrev s_law_update : Stmt := topS 63
theorem sc_law_update : FnScope ["form", "disk", "value", "torn", "blocks", "values", "newer", "block", "cells", "k"] ["form", "disk", "value", "torn"] (defScope s_law_update) := ⟨rfl, rfl, rfl, by decide +kernel, rfl, by decide +kernel, by decide +kernel⟩
def S_law_update : List D → Res → Prop := fun ds r => ∃ (b v : Nat) (t : List Int) (x : Int) (tn : Bool), ds = [.tup [.int (b : Int), .int (v : Int)], .tup (t.map .int), .int x, .bl tn] ∧ (((3 ≤ b ∧ b ≤ 5) ∧ (1 ≤ v ∧ v ≤ 4)) ∧ t.length = 4 + b) ∧ r = .ok (.tup ((lup b t x tn).map .int))
theorem fd_law_update {f : Addr} {fd : FuncData} (F : Fun K "_law_update" "_law_update" s_law_update f fd) (gx : mg "_law_update" = some (.ref f)) (hb : Binds K fd ["form", "disk", "value", "torn"] []) (T : Txt mg) (F_law_newer : FD P w K mg base 1 "_law_newer" 1 S_law_newer) : FD P w K mg base 2 "_law_update" 4 S_law_update := by
  refine fd_of (N := ["form", "disk", "value", "torn", "blocks", "values", "newer", "block", "cells", "k"]) F gx hb sc_law_update (by decide) ?_
  intro cdv A outer s0_ H E ds r hr hl hS
  obtain ⟨b, v, t, x, tn, rfl, ⟨h0, hl⟩, rfl⟩ := hS
  show SDs _ _ [.val (.tup [.int (b : Int), .int (v : Int)]), .val (.tup (t.map .int)), .val (.int x), .val (.bl tn), .no, .no, .no, .no, .no, .no] _ _
  have h01 := lnw_01 t
  have hp := lfr_pos (t := t) h0.1.1 (by omega)
  have hin : 0 ≤ (lfr b t).getD (0 : Int).toNat default ∧ (lfr b t).getD (0 : Int).toNat default < (b : Int) := by
    have z := fre_in (t := t) h0.1.1 (by omega)
    rw [← lbk_is] at z
    exact z
  refine sds_tgt (ed_var 0 rfl rfl (by walk_at "vis")) (td_pair 4 5 rfl sc_law_update.nd rfl (by walk_at "loc") rfl (by walk_at "loc")) (pairF (by walk_at "len") (by walk_at "len")) ?_
  refine sds_set 6 (ed_call F_law_newer (hr.mono (by decide)) rfl (ea_cons (ed_var 1 rfl rfl (by walk_at "vis")) ea_nil) (by walk_at "S")) sc_law_update.nd rfl (by walk_at "loc") ?_ (by walk_at "len")
  refine sds_set 7 (ed_ix (eo_ed (eo_lc1 (t := fun k => !decide (k ∈ RW.cut t (some 2) (some 4))) (y := "k") 9 rfl sc_law_update.nd (by first | exact wd_range1N (ed_var 4 rfl rfl (by walk_at "vis")) (by walk_at "side") rfl T.m_range | exact wd_range1 (ed_var 4 rfl rfl (by walk_at "vis")) (by walk_at "side") (by walk_at "side") rfl T.m_range) (blkOk_by (N := ["form", "disk", "value", "torn", "blocks", "values", "newer", "block", "cells", "k"]) (sc := defScope s_law_update) (by decide +kernel)) (fun sb Hb Cb clb fpb => (td_name 9 sc_law_update.nd rfl (by walk_at "loc"))) (by walk_at "len") (fun d z => by cases d <;> cases z) (fun sb Hb Cb clb fpb x hx => pts_if (by exact (et_cmp (ed_var 9 rfl rfl (by walk_at "vis")) (ed_slice (ed_var 1 rfl rfl (by walk_at "vis")) (ept_some ed_int) (ept_some ed_int) (by walk_at "sld")) (by walk_at "cmpNotIn")))) (fun sb Hb Cb clb fpb x hx ht => by exact (ed_var 9 rfl rfl (by walk_at "vis"))) (by walk_at "side") (by exact (rfl : ((lfr b t).map D.int) = _)))) ed_int (by walk_at "ix")) sc_law_update.nd rfl (by walk_at "loc") ?_ (by walk_at "len")
  refine sds_setO 8 (eo_callTy rfl T.m_list boot_list (ea_cons (ed_var 1 rfl rfl (by walk_at "vis")) ea_nil) (by walk_at "callo")) sc_law_update.nd rfl (by walk_at "loc") ?_ (by walk_at "len")
  refine sds_put 8 rfl (ed_var 2 rfl rfl (by walk_at "vis")) (ed_bin ed_int (ed_var 7 rfl rfl (by walk_at "vis")) (by walk_at "opAdd")) rfl (by walk_at "vis") (by walk_at "ixn") ?_
  refine sds_if (et_not (by first | exact et_val (ed_var 3 rfl rfl (by walk_at "vis")) | exact et_tru (ed_var 3 rfl rfl (by walk_at "vis")) (by walk_at "truv"))) (fun hc1 => ?_) (fun hc1 => ?_)
  · have hc1d := hc1
    try simp only [Bool.and_eq_true, Bool.or_eq_true, decide_eq_true_eq, decide_eq_false_iff_not, Bool.not_eq_true', Bool.not_eq_false', Bool.and_eq_false_iff, Bool.or_eq_false_iff] at hc1d
    refine sds_put 8 rfl (ed_bin (ed_bin (ed_ix (ed_var 1 rfl rfl (by walk_at "vis")) (ed_var 6 rfl rfl (by walk_at "vis")) (by walk_at "ix")) ed_int (by walk_at "opAdd")) ed_int (by walk_at "opMod")) (ed_bin ed_int (ed_var 6 rfl rfl (by walk_at "vis")) (by walk_at "opSub")) rfl (by walk_at "vis") (by walk_at "ixn") ?_
    refine sds_put 8 rfl (ed_var 7 rfl rfl (by walk_at "vis")) (ed_bin ed_int (ed_var 6 rfl rfl (by walk_at "vis")) (by walk_at "opSub")) rfl (by walk_at "vis") (by walk_at "ixn") ?_
    refine sds_go ?_
    refine sds_frz 8 ?_
    refine sds_ret (ed_callTy rfl T.m_tuple boot_tuple (ea_cons (ed_var 8 rfl rfl (by walk_at "vis")) ea_nil) (by walk_at "call_tuple")) ?_
    show Res.ok _ = Res.ok _; unfold lup; first | (rw [if_pos hc1]; simp only [List.map_set]; rfl) | (rw [if_neg (by rw [hc1]; exact Bool.false_ne_true)]; simp only [List.map_set]; rfl)
  · have hc1d := hc1
    try simp only [Bool.and_eq_true, Bool.or_eq_true, decide_eq_true_eq, decide_eq_false_iff_not, Bool.not_eq_true', Bool.not_eq_false', Bool.and_eq_false_iff, Bool.or_eq_false_iff] at hc1d
    refine sds_go ?_
    refine sds_frz 8 ?_
    refine sds_ret (ed_callTy rfl T.m_tuple boot_tuple (ea_cons (ed_var 8 rfl rfl (by walk_at "vis")) ea_nil) (by walk_at "call_tuple")) ?_
    show Res.ok _ = Res.ok _; unfold lup; first | (rw [if_pos hc1]; simp only [List.map_set]; rfl) | (rw [if_neg (by rw [hc1]; exact Bool.false_ne_true)]; simp only [List.map_set]; rfl)
end

def lvl (t : List Int) (fm : Bool) : Int := if fm = true then t.getD (4 + t.getD (3 - lnw t).toNat default).toNat default else t.getD (4 + t.getD (2 + lnw t).toNat default).toNat default
section
local macro_rules | `(tactic| walk_at "ix") => `(tactic| first | (refine ixd_tup (atI_map ?_); omega) | (refine ixd_lst (atI_map ?_); omega))
local macro_rules | `(tactic| walk_at "S") => `(tactic| exact ⟨t, rfl, (by omega), rfl⟩)

abbrev s_law_value : Stmt := topS 64
theorem sc_law_value : FnScope ["disk", "former", "newer"] ["disk", "former"] (defScope s_law_value) := ⟨rfl, rfl, rfl, by decide +kernel, rfl, by decide +kernel, by decide +kernel⟩
def S_law_value : List D → Res → Prop := fun ds r => ∃ (b : Nat) (t : List Int) (fm : Bool), ds = [.tup (t.map .int), .bl fm] ∧ (t.length = 4 + b ∧ (0 ≤ t.getD (2 : Int).toNat default ∧ t.getD (2 : Int).toNat default < (b : Int)) ∧ (0 ≤ t.getD (3 : Int).toNat default ∧ t.getD (3 : Int).toNat default < (b : Int))) ∧ r = .ok (.int (lvl t fm))
theorem fd_law_value {f : Addr} {fd : FuncData} (F : Fun K "_law_value" "_law_value" s_law_value f fd) (gx : mg "_law_value" = some (.ref f)) (hb : Binds K fd ["disk", "former"] []) (T : Txt mg) (F_law_newer : FD P w K mg base 1 "_law_newer" 1 S_law_newer) : FD P w K mg base 2 "_law_value" 2 S_law_value := by
  refine fd_of (N := ["disk", "former", "newer"]) F gx hb sc_law_value (by decide) ?_
  intro cdv A outer s0_ H E ds r hr hl hS
  obtain ⟨b, t, fm, rfl, ⟨hl, h2, h3⟩, rfl⟩ := hS
  show SDs _ _ [.val (.tup (t.map .int)), .val (.bl fm), .no] _ _
  have h01 := lnw_01 t
  have ha : 0 ≤ t.getD (3 - lnw t).toNat default ∧ t.getD (3 - lnw t).toNat default < (b : Int) := by
    rcases h01 with e | e <;> rw [e]
    · exact h3
    · exact h2
  have hb : 0 ≤ t.getD (2 + lnw t).toNat default ∧ t.getD (2 + lnw t).toNat default < (b : Int) := by
    rcases h01 with e | e <;> rw [e]
    · exact h2
    · exact h3
  refine sds_set 2 (ed_call F_law_newer (hr.mono (by decide)) rfl (ea_cons (ed_var 0 rfl rfl (by walk_at "vis")) ea_nil) (by walk_at "S")) sc_law_value.nd rfl (by walk_at "loc") ?_ (by walk_at "len")
  refine sds_if (by first | exact et_val (ed_var 1 rfl rfl (by walk_at "vis")) | exact et_tru (ed_var 1 rfl rfl (by walk_at "vis")) (by walk_at "truv")) (fun hc1 => ?_) (fun hc1 => ?_)
  · have hc1d := hc1
    try simp only [Bool.and_eq_true, Bool.or_eq_true, decide_eq_true_eq, decide_eq_false_iff_not, Bool.not_eq_true', Bool.not_eq_false', Bool.and_eq_false_iff, Bool.or_eq_false_iff] at hc1d
    refine sds_ret (ed_ix (ed_var 0 rfl rfl (by walk_at "vis")) (ed_bin ed_int (ed_ix (ed_var 0 rfl rfl (by walk_at "vis")) (ed_bin ed_int (ed_var 2 rfl rfl (by walk_at "vis")) (by walk_at "opSub")) (by walk_at "ix")) (by walk_at "opAdd")) (by walk_at "ix")) ?_
    show Res.ok _ = Res.ok _; unfold lvl; first | (rw [if_pos hc1]; done) | (rw [if_neg (by rw [hc1]; exact Bool.false_ne_true)]; done)
  · have hc1d := hc1
    try simp only [Bool.and_eq_true, Bool.or_eq_true, decide_eq_true_eq, decide_eq_false_iff_not, Bool.not_eq_true', Bool.not_eq_false', Bool.and_eq_false_iff, Bool.or_eq_false_iff] at hc1d
    refine sds_go ?_
    refine sds_ret (ed_ix (ed_var 0 rfl rfl (by walk_at "vis")) (ed_bin ed_int (ed_ix (ed_var 0 rfl rfl (by walk_at "vis")) (ed_bin ed_int (ed_var 2 rfl rfl (by walk_at "vis")) (by walk_at "opAdd")) (by walk_at "ix")) (by walk_at "opAdd")) (by walk_at "ix")) ?_
    show Res.ok _ = Res.ok _; unfold lvl; first | (rw [if_pos hc1]; done) | (rw [if_neg (by rw [hc1]; exact Bool.false_ne_true)]; done)
end

def lsc (n g : Int) : Int := (g + 2 * (if decide (n = 0) = true then 1 else 0) + (if decide (n = 1) = true then 1 else 0)) % 3
def lf2 (b : Nat) (p q : Int) : List Int := (rng 0 b).filter fun k => (!decide (k = p)) && (!decide (k = q))
def lb2 (b : Nat) (p q : Int) : Int := (lf2 b p q).getD (0 : Int).toNat default
theorem lf2_pos {b : Nat} (p q : Int) (hb : 3 ≤ b) : 1 ≤ (lf2 b p q).length := List.length_pos_iff.mpr fun z => by
  unfold lf2 at z
  have all := List.filter_eq_nil_iff.mp z
  have a0 := all 0 (rng_has (by omega))
  have a1 := all 1 (rng_has (by omega))
  have a2 := all 2 (rng_has (by omega))
  simp at a0 a1 a2
  omega
def lnm (n g p q x : Int) : Str := ((((toString n : Str) ++ (toString g : Str)) ++ (toString p : Str)) ++ (toString q : Str)) ++ (toString x : Str)
def lgd (n g p q : Int) : List (Int × Int) := [(0, 1 * 2 ^ g.toNat), (1, 1 * 2 ^ (lsc n g).toNat), (2, 1 * 2 ^ p.toNat), (3, 1 * 2 ^ q.toNat)]
def lda (b : Nat) (p q x : Int) : List (Int × Str × Int) := [(4 + lb2 b p q, ("set" : Str), x)]
def lro (b : Nat) (n g p q : Int) : List (Int × Str × Int) := [(1 - n, ("set" : Str), ([g, lsc n g].getD n.toNat default + 1) % 3), (3 - n, ("set" : Str), lb2 b p q)]
def ltN (b : Nat) (n g p q : Int) (dl : List Deed) (x : Int) : List Deed := dl ++ [⟨("u" : Str) ++ lnm n g p q x, lgd n g p q, lro b n g p q ++ lda b p q x⟩, ⟨("t" : Str) ++ lnm n g p q x, lgd n g p q, lda b p q x⟩]
def ltw (b v : Nat) (n g p q : Int) : List Deed := (rng 0 v).foldl (ltN b n g p q) []
theorem dig1 {v : Int} (h : 0 ≤ v ∧ v < 10) : (toString v : Str).length ≤ 1 := dig_small h
section
local macro_rules | `(tactic| walk_at "fint") => `(tactic| first | exact small_n (by omega) | assumption)
local macro_rules | `(tactic| walk_at "ix") => `(tactic| first | (refine ixd_tup (ds := [g, lsc n g].map D.int) (atI_map ?_); show 0 ≤ n ∧ n < ((2 : Nat) : Int); omega) | (refine ixd_tup (atI_map ?_); omega) | (refine ixd_lst (atI_map ?_); omega))
local macro_rules | `(tactic| walk_at "tgt") => `(tactic| first | exact ⟨(by walk_at "len"), rfl⟩ | (refine pairF ?_ ?_; walk_at "len"; walk_at "len") | (refine ⟨[_, _, _, _], rfl, rfl, consF_name ?_ (consF_name ?_ (consF_name ?_ (consF_name ?_ nilF_mk)))⟩; walk_at "len"; walk_at "len"; walk_at "len"; walk_at "len"))
local macro_rules | `(tactic| walk_at "side") => `(tactic| first | walk_at "side0" | (refine ⟨?_, ?_, by decide⟩ <;> omega) | ((try simp only [List.length_map, List.length_append, Str.length_append, List.length_cons, List.length_nil]); have d1 := dig1 (v := n) ⟨hn.1, Int.lt_of_lt_of_le hn.2 (by decide)⟩; have d2 := dig1 (v := g) ⟨hg.1, Int.lt_of_lt_of_le hg.2 (by decide)⟩; have d3 := dig1 (v := p) (by omega); have d4 := dig1 (v := q) (by omega); have d5 := dig1 (v := x) (by omega); (try have e1 : ("u" : Str).length = 1 := (by decide)); (try have e2 : ("t" : Str).length = 1 := (by decide)); omega))
local macro_rules | `(tactic| walk_at "call_str") => `(tactic| exact cd_str (small_n (by omega)).1)

abbrev s_law_two : Stmt := topS 66
theorem sc_law_two : FnScope ["form", "newer", "first", "left", "right", "blocks", "values", "second", "guard", "block", "latest", "deeds", "value", "name", "data", "roots", "k"] ["form", "newer", "first", "left", "right"] (defScope s_law_two) := ⟨rfl, rfl, rfl, by decide +kernel, rfl, by decide +kernel, by decide +kernel⟩
def S_law_two : List D → Res → Prop := fun ds r => ∃ (b v : Nat) (n g p q : Int), ds = [.tup [.int (b : Int), .int (v : Int)], .int n, .int g, .int p, .int q] ∧ (((3 ≤ b ∧ b ≤ 5) ∧ (1 ≤ v ∧ v ≤ 4)) ∧ (0 ≤ n ∧ n < 2) ∧ (0 ≤ g ∧ g < 3) ∧ (0 ≤ p ∧ p < (b : Int)) ∧ (0 ≤ q ∧ q < (b : Int))) ∧ r = .ok (.lst ((ltw b v n g p q).map encDeed))
theorem fd_law_two {f : Addr} {fd : FuncData} (F : Fun K "_law_two" "_law_two" s_law_two f fd) (gx : mg "_law_two" = some (.ref f)) (hb : Binds K fd ["form", "newer", "first", "left", "right"] []) (T : Txt mg)  : FD P w K mg base 1 "_law_two" 5 S_law_two := by
  refine fd_of (N := ["form", "newer", "first", "left", "right", "blocks", "values", "second", "guard", "block", "latest", "deeds", "value", "name", "data", "roots", "k"]) F gx hb sc_law_two (by decide) ?_
  intro cdv A outer s0_ H E ds r hr hl hS
  obtain ⟨b, v, n, g, p, q, rfl, ⟨h0, hn, hg, hp, hq⟩, rfl⟩ := hS
  show SDs _ _ [.val (.tup [.int (b : Int), .int (v : Int)]), .val (.int n), .val (.int g), .val (.int p), .val (.int q), .no, .no, .no, .no, .no, .no, .no, .no, .no, .no, .no, .no] _ _
  have hf2 := lf2_pos p q h0.1.1
  have hsc : 0 ≤ lsc n g ∧ lsc n g < 3 := by unfold lsc; omega
  refine sds_tgt (ed_var 0 rfl rfl (by walk_at "vis")) (td_pair 5 6 rfl sc_law_two.nd rfl (by walk_at "loc") rfl (by walk_at "loc")) (pairF (by walk_at "len") (by walk_at "len")) ?_
  refine sds_set 7 (ed_bin (ed_bin (ed_bin (ed_var 2 rfl rfl (by walk_at "vis")) (ed_bin ed_int (ed_callTy rfl T.m_int boot_int (ea_cons (ed_cmp (ed_var 1 rfl rfl (by walk_at "vis")) ed_int (by walk_at "cmpEq")) ea_nil) (by walk_at "call_int")) (by walk_at "opMult")) (by walk_at "opAdd")) (ed_callTy rfl T.m_int boot_int (ea_cons (ed_cmp (ed_var 1 rfl rfl (by walk_at "vis")) ed_int (by walk_at "cmpEq")) ea_nil) (by walk_at "call_int")) (by walk_at "opAdd")) ed_int (by walk_at "opMod")) sc_law_two.nd rfl (by walk_at "loc") ?_ (by walk_at "len")
  refine sds_set 8 (ed_tup (ea_cons (ed_tup (ea_cons ed_int (ea_cons (ed_bin ed_int (ed_var 2 rfl rfl (by walk_at "vis")) (by walk_at "opLShift")) ea_nil)) (by walk_at "len")) (ea_cons (ed_tup (ea_cons ed_int (ea_cons (ed_bin ed_int (ed_var 7 rfl rfl (by walk_at "vis")) (by walk_at "opLShift")) ea_nil)) (by walk_at "len")) (ea_cons (ed_tup (ea_cons ed_int (ea_cons (ed_bin ed_int (ed_var 3 rfl rfl (by walk_at "vis")) (by walk_at "opLShift")) ea_nil)) (by walk_at "len")) (ea_cons (ed_tup (ea_cons ed_int (ea_cons (ed_bin ed_int (ed_var 4 rfl rfl (by walk_at "vis")) (by walk_at "opLShift")) ea_nil)) (by walk_at "len")) ea_nil)))) (by walk_at "len")) sc_law_two.nd rfl (by walk_at "loc") ?_ (by walk_at "len")
  refine sds_set 9 (ed_ix (eo_ed (eo_lc1 (t := fun k => (!decide (k = p)) && (!decide (k = q))) (y := "k") 16 rfl sc_law_two.nd (by first | exact wd_range1N (ed_var 5 rfl rfl (by walk_at "vis")) (by walk_at "side") rfl T.m_range | exact wd_range1 (ed_var 5 rfl rfl (by walk_at "vis")) (by walk_at "side") (by walk_at "side") rfl T.m_range) (blkOk_by (N := ["form", "newer", "first", "left", "right", "blocks", "values", "second", "guard", "block", "latest", "deeds", "value", "name", "data", "roots", "k"]) (sc := defScope s_law_two) (by decide +kernel)) (fun sb Hb Cb clb fpb => (td_name 16 sc_law_two.nd rfl (by walk_at "loc"))) (by walk_at "len") (fun d z => by cases d <;> cases z) (fun sb Hb Cb clb fpb x hx => pts_if (by exact (et_w (ew_and (et_cmp (ed_var 16 rfl rfl (by walk_at "vis")) (ed_var 3 rfl rfl (by walk_at "vis")) (by walk_at "cmpNotEq")) (fun hb => (ew_and1 (et_cmp (ed_var 16 rfl rfl (by walk_at "vis")) (ed_var 4 rfl rfl (by walk_at "vis")) (by walk_at "cmpNotEq")))))))) (fun sb Hb Cb clb fpb x hx ht => by exact (ed_var 16 rfl rfl (by walk_at "vis"))) (by walk_at "side") (by exact (rfl : ((lf2 b p q).map D.int) = _)))) ed_int (by walk_at "ix")) sc_law_two.nd rfl (by walk_at "loc") ?_ (by walk_at "len")
  refine sds_set 10 (ed_ix (ed_tup (ea_cons (ed_var 2 rfl rfl (by walk_at "vis")) (ea_cons (ed_var 7 rfl rfl (by walk_at "vis")) ea_nil)) (by walk_at "len")) (ed_var 1 rfl rfl (by walk_at "vis")) (by walk_at "ix")) sc_law_two.nd rfl (by walk_at "loc") ?_ (by walk_at "len")
  refine sds_setO 11 (eo_lst ea_nil (by walk_at "len")) sc_law_two.nd rfl (by walk_at "loc") ?_ (by walk_at "len")
  refine sds_fold (fun dl => [.val (.tup [.int (b : Int), .int (v : Int)]), .val (.int n), .val (.int g), .val (.int p), .val (.int q), .val (.int (b : Int)), .val (.int (v : Int)), .val (.int (lsc n g)), .val (.tup ((lgd n g p q).map encP)), .val (.int (lb2 b p q)), .val (.int ([g, lsc n g].getD n.toNat default)), .own (.lst (dl.map encDeed)), .no, .no, .no, .no, .no]) (ltN b n g p q) (fun i s => s.length ≤ i * 2) [] (by walk_at "pass") rfl (by first | exact wd_range1N (ed_var 6 rfl rfl (by walk_at "vis")) (by walk_at "side") rfl T.m_range | exact wd_range1 (ed_var 6 rfl rfl (by walk_at "vis")) (by walk_at "side") (by walk_at "side") rfl T.m_range) (td_name 12 sc_law_two.nd rfl (by walk_at "loc")) (by repeat first | exact Wk.nil | refine Wk.no ?_ | refine Wk.eq ?_ | refine Wk.frz ?_ | (refine Wk.eq' ?hh ?_; (case hh => first | (simp only [ltN, lro, lda, lnm, encDeed, encCh, encSrc, List.map_append, List.map_cons, List.map_nil, if_true, if_false, and_self, and_true, true_and, and_false, false_and, not_true_eq_false, not_false_eq_true, reduceIte]; done) | (simp [ltN, lro, lda, lnm, encDeed, encCh, encSrc]; done) | ((try simp only [ltN, lro, lda, lnm, encDeed, encCh, encSrc]); (repeat' split) <;> first | rfl | (simp only [List.map_append, List.map_cons, List.map_nil, ltN, lro, lda, lnm, encDeed, encCh, encSrc]; done) | (exfalso; omega) | (simp_all; done)))) | (refine Wk.frzE ?hh ?_; (case hh => first | (simp only [ltN, lro, lda, lnm, encDeed, encCh, encSrc, List.map_append, List.map_cons, List.map_nil, if_true, if_false, and_self, and_true, true_and, and_false, false_and, not_true_eq_false, not_false_eq_true, reduceIte]; done) | (simp [ltN, lro, lda, lnm, encDeed, encCh, encSrc]; done) | ((try simp only [ltN, lro, lda, lnm, encDeed, encCh, encSrc]); (repeat' split) <;> first | rfl | (simp only [List.map_append, List.map_cons, List.map_nil, ltN, lro, lda, lnm, encDeed, encCh, encSrc]; done) | (exfalso; omega) | (simp_all; done))))) (by exact Nat.le_refl _) ?_ ?_
  · intro i x dl hx hP
    have hP1 : dl.length ≤ i * 2 := hP; have hx1 := get_rng hx; have hi := (List.getElem?_eq_some_iff.mp hx).1; rw [rng_len] at hi
    refine ⟨_, (by walk_at "tgt"), ?_⟩
    refine sds_set 13 (ed_bin (ed_bin (ed_bin (ed_bin (ed_callTy rfl T.m_str boot_str (ea_cons (ed_var 1 rfl rfl (by walk_at "vis")) ea_nil) (by walk_at "call_str")) (ed_callTy rfl T.m_str boot_str (ea_cons (ed_var 2 rfl rfl (by walk_at "vis")) ea_nil) (by walk_at "call_str")) (by walk_at "opAdd")) (ed_callTy rfl T.m_str boot_str (ea_cons (ed_var 3 rfl rfl (by walk_at "vis")) ea_nil) (by walk_at "call_str")) (by walk_at "opAdd")) (ed_callTy rfl T.m_str boot_str (ea_cons (ed_var 4 rfl rfl (by walk_at "vis")) ea_nil) (by walk_at "call_str")) (by walk_at "opAdd")) (ed_callTy rfl T.m_str boot_str (ea_cons (ed_var 12 rfl rfl (by walk_at "vis")) ea_nil) (by walk_at "call_str")) (by walk_at "opAdd")) sc_law_two.nd rfl (by walk_at "loc") ?_ (by walk_at "len")
    refine sds_set 14 (ed_tup (ea_cons (ed_tup (ea_cons (ed_bin ed_int (ed_var 9 rfl rfl (by walk_at "vis")) (by walk_at "opAdd")) (ea_cons (ed_tup (ea_cons ed_str (ea_cons (ed_var 12 rfl rfl (by walk_at "vis")) ea_nil)) (by walk_at "len")) ea_nil)) (by walk_at "len")) ea_nil) (by walk_at "len")) sc_law_two.nd rfl (by walk_at "loc") ?_ (by walk_at "len")
    refine sds_set 15 (ed_tup (ea_cons (ed_tup (ea_cons (ed_bin ed_int (ed_var 1 rfl rfl (by walk_at "vis")) (by walk_at "opSub")) (ea_cons (ed_tup (ea_cons ed_str (ea_cons (ed_bin (ed_bin (ed_var 10 rfl rfl (by walk_at "vis")) ed_int (by walk_at "opAdd")) ed_int (by walk_at "opMod")) ea_nil)) (by walk_at "len")) ea_nil)) (by walk_at "len")) (ea_cons (ed_tup (ea_cons (ed_bin ed_int (ed_var 1 rfl rfl (by walk_at "vis")) (by walk_at "opSub")) (ea_cons (ed_tup (ea_cons ed_str (ea_cons (ed_var 9 rfl rfl (by walk_at "vis")) ea_nil)) (by walk_at "len")) ea_nil)) (by walk_at "len")) ea_nil)) (by walk_at "len")) sc_law_two.nd rfl (by walk_at "loc") ?_ (by walk_at "len")
    refine sds_frz 11 ?_
    refine sds_setO 11 (eo_cat (ed_var 11 rfl rfl (by walk_at "vis")) (eo_ed (eo_lst (ea_cons (ed_tup (ea_cons (ed_bin ed_str (ed_var 13 rfl rfl (by walk_at "vis")) (by walk_at "opAdd")) (ea_cons (ed_var 8 rfl rfl (by walk_at "vis")) (ea_cons (ed_bin (ed_var 15 rfl rfl (by walk_at "vis")) (ed_var 14 rfl rfl (by walk_at "vis")) (by walk_at "opAdd")) ea_nil))) (by walk_at "len")) (ea_cons (ed_tup (ea_cons (ed_bin ed_str (ed_var 13 rfl rfl (by walk_at "vis")) (by walk_at "opAdd")) (ea_cons (ed_var 8 rfl rfl (by walk_at "vis")) (ea_cons (ed_var 14 rfl rfl (by walk_at "vis")) ea_nil))) (by walk_at "len")) ea_nil)) (by walk_at "len"))) (by walk_at "side")) sc_law_two.nd rfl (by walk_at "loc") ?_ (by walk_at "len")
    refine sds_nil ⟨?_, rfl⟩ ?_
    · unfold ltN; rw [List.length_append]; show _ + 2 ≤ _; omega
    · repeat first | exact Wk.nil | refine Wk.no ?_ | refine Wk.eq ?_ | refine Wk.frz ?_ | (refine Wk.eq' ?hh ?_; (case hh => first | (simp only [ltN, lro, lda, lnm, encDeed, encCh, encSrc, ltN, List.map_append, List.map_cons, List.map_nil, if_true, if_false, and_self, and_true, true_and, and_false, false_and, not_true_eq_false, not_false_eq_true, reduceIte]; done) | (simp [ltN, lro, lda, lnm, encDeed, encCh, encSrc, ltN]; done) | ((try simp only [ltN, lro, lda, lnm, encDeed, encCh, encSrc, ltN]); (repeat' split) <;> first | rfl | (simp only [List.map_append, List.map_cons, List.map_nil, ltN, lro, lda, lnm, encDeed, encCh, encSrc, ltN]; done) | (exfalso; omega) | (simp_all; done)))) | (refine Wk.frzE ?hh ?_; (case hh => first | (simp only [ltN, lro, lda, lnm, encDeed, encCh, encSrc, ltN, List.map_append, List.map_cons, List.map_nil, if_true, if_false, and_self, and_true, true_and, and_false, false_and, not_true_eq_false, not_false_eq_true, reduceIte]; done) | (simp [ltN, lro, lda, lnm, encDeed, encCh, encSrc, ltN]; done) | ((try simp only [ltN, lro, lda, lnm, encDeed, encCh, encSrc, ltN]); (repeat' split) <;> first | rfl | (simp only [List.map_append, List.map_cons, List.map_nil, ltN, lro, lda, lnm, encDeed, encCh, encSrc, ltN]; done) | (exfalso; omega) | (simp_all; done))))
  · intro hT
    refine sds_frz 11 ?_
    refine sds_ret (ed_var 11 rfl rfl (by walk_at "vis")) ?_
    walk_at "ret"
end

def lt4 (b v : Nat) (n g p : Int) (dl : List Deed) (q : Int) : List Deed := if (!decide (p = q)) = true then dl ++ ltw b v n g p q else dl
def lt3 (b v : Nat) (n g : Int) (dl : List Deed) (p : Int) : List Deed := (rng 0 b).foldl (lt4 b v n g p) dl
def lt2 (b v : Nat) (n : Int) (dl : List Deed) (g : Int) : List Deed := (rng 0 b).foldl (lt3 b v n g) dl
def lt1 (b v : Nat) (dl : List Deed) (n : Int) : List Deed := (rng 0 3).foldl (lt2 b v n) dl
def ltD (b v : Nat) : List Deed := (rng 0 2).foldl (lt1 b v) []
theorem ltw_len {b v : Nat} (hv : v ≤ 4) (n g p q : Int) : (ltw b v n g p q).length ≤ 8 := by
  have := grow (f := ltN b n g p q) (c := 2) (rng 0 v) [] fun s x _ => by unfold ltN; rw [List.length_append]; exact Nat.le_refl _
  rw [rng_len] at this
  unfold ltw
  have e : ([] : List Deed).length = 0 := rfl
  omega
theorem lt4_len {b v : Nat} (hv : v ≤ 4) (n g p : Int) (dl : List Deed) (q : Int) : (lt4 b v n g p dl q).length ≤ dl.length + 8 := by
  have := ltw_len (b := b) hv n g p q
  unfold lt4
  split
  · rw [List.length_append]; omega
  · omega
theorem lt3_len {b v : Nat} (hb : b ≤ 5) (hv : v ≤ 4) (n g : Int) (dl : List Deed) (p : Int) : (lt3 b v n g dl p).length ≤ dl.length + 40 := by
  have := grow (f := lt4 b v n g p) (c := 8) (rng 0 b) dl fun s x _ => lt4_len hv n g p s x
  rw [rng_len] at this
  unfold lt3; omega
theorem lt2_len {b v : Nat} (hb : b ≤ 5) (hv : v ≤ 4) (n : Int) (dl : List Deed) (g : Int) : (lt2 b v n dl g).length ≤ dl.length + 200 := by
  have := grow (f := lt3 b v n g) (c := 40) (rng 0 b) dl fun s x _ => lt3_len hb hv n g s x
  rw [rng_len] at this
  unfold lt2; omega
theorem lt1_len {b v : Nat} (hb : b ≤ 5) (hv : v ≤ 4) (dl : List Deed) (n : Int) : (lt1 b v dl n).length ≤ dl.length + 600 := by
  have := grow (f := lt2 b v n) (c := 200) (rng 0 3) dl fun s x _ => lt2_len hb hv n s x
  rw [rng_len] at this
  unfold lt1; omega
section
local macro_rules | `(tactic| walk_at "tgt") => `(tactic| first | exact ⟨(by walk_at "len"), rfl⟩ | (refine pairF ?_ ?_; walk_at "len"; walk_at "len") | (refine ⟨[_, _, _, _], rfl, rfl, consF_name ?_ (consF_name ?_ (consF_name ?_ (consF_name ?_ nilF_mk)))⟩; walk_at "len"; walk_at "len"; walk_at "len"; walk_at "len"))
local macro_rules | `(tactic| walk_at "S") => `(tactic| exact ⟨b, v, n, g, p, q, rfl, ⟨h0, hn, hg3, hp3, hq3⟩, rfl⟩)
local macro_rules | `(tactic| walk_at "side") => `(tactic| first | walk_at "side0" | (simp only [List.length_append, List.length_map]; have hlw := ltw_len (b := b) h0.2.2 n g p q; omega))

abbrev s_law_deeds : Stmt := topS 65
theorem sc_law_deeds : FnScope ["form", "blocks", "values", "deeds", "newer", "first", "left", "right"] ["form"] (defScope s_law_deeds) := ⟨rfl, rfl, rfl, by decide +kernel, rfl, by decide +kernel, by decide +kernel⟩
def S_law_deeds : List D → Res → Prop := fun ds r => ∃ (b v : Nat), ds = [.tup [.int (b : Int), .int (v : Int)]] ∧ ((3 ≤ b ∧ b ≤ 5) ∧ (1 ≤ v ∧ v ≤ 4)) ∧ r = .ok (.lst ((ltD b v).map encDeed))
theorem fd_law_deeds {f : Addr} {fd : FuncData} (F : Fun K "_law_deeds" "_law_deeds" s_law_deeds f fd) (gx : mg "_law_deeds" = some (.ref f)) (hb : Binds K fd ["form"] []) (T : Txt mg) (F_law_two : FD P w K mg base 1 "_law_two" 5 S_law_two) : FD P w K mg base 2 "_law_deeds" 1 S_law_deeds := by
  refine fd_of (N := ["form", "blocks", "values", "deeds", "newer", "first", "left", "right"]) F gx hb sc_law_deeds (by decide) ?_
  intro cdv A outer s0_ H E ds r hr hl hS
  obtain ⟨b, v, rfl, h0, rfl⟩ := hS
  show SDs _ _ [.val (.tup [.int (b : Int), .int (v : Int)]), .no, .no, .no, .no, .no, .no, .no] _ _
  refine sds_tgt (ed_var 0 rfl rfl (by walk_at "vis")) (td_pair 1 2 rfl sc_law_deeds.nd rfl (by walk_at "loc") rfl (by walk_at "loc")) (pairF (by walk_at "len") (by walk_at "len")) ?_
  refine sds_setO 3 (eo_lst ea_nil (by walk_at "len")) sc_law_deeds.nd rfl (by walk_at "loc") ?_ (by walk_at "len")
  refine sds_fold (fun dl => [.val (.tup [.int (b : Int), .int (v : Int)]), .val (.int (b : Int)), .val (.int (v : Int)), .own (.lst (dl.map encDeed)), .no, .no, .no, .no]) (lt1 b v) (fun i s => s.length ≤ i * 600) [] (by walk_at "pass") rfl (wd_range1N (n := 2) ed_int (by decide) rfl T.m_range) (td_name 4 sc_law_deeds.nd rfl (by walk_at "loc")) (by repeat first | exact Wk.nil | refine Wk.no ?_ | refine Wk.eq ?_ | refine Wk.frz ?_ | (refine Wk.eq' ?hh ?_; (case hh => first | (simp only [List.map_append, List.map_cons, List.map_nil, if_true, if_false, and_self, and_true, true_and, and_false, false_and, not_true_eq_false, not_false_eq_true, reduceIte]; done) | (simp []; done))) | (refine Wk.frzE ?hh ?_; (case hh => first | (simp only [List.map_append, List.map_cons, List.map_nil, if_true, if_false, and_self, and_true, true_and, and_false, false_and, not_true_eq_false, not_false_eq_true, reduceIte]; done) | (simp []; done)))) (by exact Nat.le_refl _) ?_ ?_
  · intro i1 n dl hx hP
    have hP1' : dl.length ≤ i1 * 600 := hP; have hn : 0 ≤ n ∧ n < 2 := ⟨(get_rng hx).1, (get_rng hx).2.1⟩; have hi1 : i1 < 2 := by have z := (List.getElem?_eq_some_iff.mp hx).1; rw [rng_len] at z; exact z
    refine ⟨_, (by walk_at "tgt"), ?_⟩
    refine sds_fold (fun dm => [.val (.tup [.int (b : Int), .int (v : Int)]), .val (.int (b : Int)), .val (.int (v : Int)), .own (.lst (dm.map encDeed)), .val (.int n), .no, .no, .no]) (lt2 b v n) (fun j s => s.length ≤ dl.length + j * 200) dl (by walk_at "pass") rfl (wd_range1N (n := 3) ed_int (by decide) rfl T.m_range) (td_name 5 sc_law_deeds.nd rfl (by walk_at "loc")) (by repeat first | exact Wk.nil | refine Wk.no ?_ | refine Wk.eq ?_ | refine Wk.frz ?_ | (refine Wk.eq' ?hh ?_; (case hh => first | (simp only [List.map_append, List.map_cons, List.map_nil, if_true, if_false, and_self, and_true, true_and, and_false, false_and, not_true_eq_false, not_false_eq_true, reduceIte]; done) | (simp []; done))) | (refine Wk.frzE ?hh ?_; (case hh => first | (simp only [List.map_append, List.map_cons, List.map_nil, if_true, if_false, and_self, and_true, true_and, and_false, false_and, not_true_eq_false, not_false_eq_true, reduceIte]; done) | (simp []; done)))) (by exact Nat.le_refl _) ?_ ?_
    · intro i2 g dm hx hP
      have hP2' : dm.length ≤ dl.length + i2 * 200 := hP; have hg3 : 0 ≤ g ∧ g < 3 := ⟨(get_rng hx).1, (get_rng hx).2.1⟩; have hi2 : i2 < 3 := by have z := (List.getElem?_eq_some_iff.mp hx).1; rw [rng_len] at z; exact z
      refine ⟨_, (by walk_at "tgt"), ?_⟩
      refine sds_fold (fun dn => [.val (.tup [.int (b : Int), .int (v : Int)]), .val (.int (b : Int)), .val (.int (v : Int)), .own (.lst (dn.map encDeed)), .val (.int n), .val (.int g), .no, .no]) (lt3 b v n g) (fun j s => s.length ≤ dm.length + j * 40) dm (by walk_at "pass") rfl (by first | exact wd_range1N (ed_var 1 rfl rfl (by walk_at "vis")) (by walk_at "side") rfl T.m_range | exact wd_range1 (ed_var 1 rfl rfl (by walk_at "vis")) (by walk_at "side") (by walk_at "side") rfl T.m_range) (td_name 6 sc_law_deeds.nd rfl (by walk_at "loc")) (by repeat first | exact Wk.nil | refine Wk.no ?_ | refine Wk.eq ?_ | refine Wk.frz ?_ | (refine Wk.eq' ?hh ?_; (case hh => first | (simp only [List.map_append, List.map_cons, List.map_nil, if_true, if_false, and_self, and_true, true_and, and_false, false_and, not_true_eq_false, not_false_eq_true, reduceIte]; done) | (simp []; done))) | (refine Wk.frzE ?hh ?_; (case hh => first | (simp only [List.map_append, List.map_cons, List.map_nil, if_true, if_false, and_self, and_true, true_and, and_false, false_and, not_true_eq_false, not_false_eq_true, reduceIte]; done) | (simp []; done)))) (by exact Nat.le_refl _) ?_ ?_
      · intro i3 p dn hx hP
        have hP3' : dn.length ≤ dm.length + i3 * 40 := hP; have hp3 : 0 ≤ p ∧ p < (b : Int) := by have z := get_rng hx; omega
        have hi3 := (List.getElem?_eq_some_iff.mp hx).1; rw [rng_len] at hi3
        refine ⟨_, (by walk_at "tgt"), ?_⟩
        refine sds_fold (fun dp => [.val (.tup [.int (b : Int), .int (v : Int)]), .val (.int (b : Int)), .val (.int (v : Int)), .own (.lst (dp.map encDeed)), .val (.int n), .val (.int g), .val (.int p), .no]) (lt4 b v n g p) (fun j s => s.length ≤ dn.length + j * 8) dn (by walk_at "pass") rfl (by first | exact wd_range1N (ed_var 1 rfl rfl (by walk_at "vis")) (by walk_at "side") rfl T.m_range | exact wd_range1 (ed_var 1 rfl rfl (by walk_at "vis")) (by walk_at "side") (by walk_at "side") rfl T.m_range) (td_name 7 sc_law_deeds.nd rfl (by walk_at "loc")) (by repeat first | exact Wk.nil | refine Wk.no ?_ | refine Wk.eq ?_ | refine Wk.frz ?_ | (refine Wk.eq' ?hh ?_; (case hh => first | (simp only [List.map_append, List.map_cons, List.map_nil, if_true, if_false, and_self, and_true, true_and, and_false, false_and, not_true_eq_false, not_false_eq_true, reduceIte]; done) | (simp []; done))) | (refine Wk.frzE ?hh ?_; (case hh => first | (simp only [List.map_append, List.map_cons, List.map_nil, if_true, if_false, and_self, and_true, true_and, and_false, false_and, not_true_eq_false, not_false_eq_true, reduceIte]; done) | (simp []; done)))) (by exact Nat.le_refl _) ?_ ?_
        · intro i4 q dp hx hP
          have hP4' : dp.length ≤ dn.length + i4 * 8 := hP; have hq3 : 0 ≤ q ∧ q < (b : Int) := by have z := get_rng hx; omega
          have hi4 := (List.getElem?_eq_some_iff.mp hx).1; rw [rng_len] at hi4
          refine ⟨_, (by walk_at "tgt"), ?_⟩
          refine sds_if (et_cmp (ed_var 6 rfl rfl (by walk_at "vis")) (ed_var 7 rfl rfl (by walk_at "vis")) (by walk_at "cmpNotEq")) (fun hc1 => ?_) (fun hc1 => ?_)
          · have hc1d := hc1
            try simp only [Bool.and_eq_true, Bool.or_eq_true, decide_eq_true_eq, decide_eq_false_iff_not, Bool.not_eq_true', Bool.not_eq_false', Bool.and_eq_false_iff, Bool.or_eq_false_iff] at hc1d
            refine sds_frz 3 ?_
            refine sds_setO 3 (eo_cat (ed_var 3 rfl rfl (by walk_at "vis")) (ed_call F_law_two (hr.mono (by decide)) rfl (ea_cons (ed_var 0 rfl rfl (by walk_at "vis")) (ea_cons (ed_var 4 rfl rfl (by walk_at "vis")) (ea_cons (ed_var 5 rfl rfl (by walk_at "vis")) (ea_cons (ed_var 6 rfl rfl (by walk_at "vis")) (ea_cons (ed_var 7 rfl rfl (by walk_at "vis")) ea_nil))))) (by walk_at "S")) (by walk_at "side")) sc_law_deeds.nd rfl (by walk_at "loc") ?_ (by walk_at "len")
            refine sds_go ?_
            refine sds_nil ⟨?_, rfl⟩ ?_
            · have := lt4_len (b := b) h0.2.2 n g p dp q; omega
            · unfold lt4; (try rw [if_pos hc1]); (try rw [if_neg (by rw [hc1]; exact Bool.false_ne_true)]); repeat first | exact Wk.nil | refine Wk.no ?_ | refine Wk.eq ?_ | refine Wk.frz ?_ | (refine Wk.eq' ?hh ?_; (case hh => first | (simp only [lt4, hc1d, hc1, List.map_append, List.map_cons, List.map_nil, if_true, if_false, and_self, and_true, true_and, and_false, false_and, not_true_eq_false, not_false_eq_true, reduceIte]; done) | (simp [lt4, hc1d, hc1]; done) | ((try simp only [lt4]); (repeat' split) <;> first | rfl | (simp only [List.map_append, List.map_cons, List.map_nil, lt4]; done) | (exfalso; omega) | (simp_all; done)))) | (refine Wk.frzE ?hh ?_; (case hh => first | (simp only [lt4, hc1d, hc1, List.map_append, List.map_cons, List.map_nil, if_true, if_false, and_self, and_true, true_and, and_false, false_and, not_true_eq_false, not_false_eq_true, reduceIte]; done) | (simp [lt4, hc1d, hc1]; done) | ((try simp only [lt4]); (repeat' split) <;> first | rfl | (simp only [List.map_append, List.map_cons, List.map_nil, lt4]; done) | (exfalso; omega) | (simp_all; done))))
          · have hc1d := hc1
            try simp only [Bool.and_eq_true, Bool.or_eq_true, decide_eq_true_eq, decide_eq_false_iff_not, Bool.not_eq_true', Bool.not_eq_false', Bool.and_eq_false_iff, Bool.or_eq_false_iff] at hc1d
            refine sds_go ?_
            refine sds_nil ⟨?_, rfl⟩ ?_
            · have := lt4_len (b := b) h0.2.2 n g p dp q; omega
            · unfold lt4; (try rw [if_pos hc1]); (try rw [if_neg (by rw [hc1]; exact Bool.false_ne_true)]); repeat first | exact Wk.nil | refine Wk.no ?_ | refine Wk.eq ?_ | refine Wk.frz ?_ | (refine Wk.eq' ?hh ?_; (case hh => first | (simp only [lt4, hc1d, hc1, List.map_append, List.map_cons, List.map_nil, if_true, if_false, and_self, and_true, true_and, and_false, false_and, not_true_eq_false, not_false_eq_true, reduceIte]; done) | (simp [lt4, hc1d, hc1]; done) | ((try simp only [lt4]); (repeat' split) <;> first | rfl | (simp only [List.map_append, List.map_cons, List.map_nil, lt4]; done) | (exfalso; omega) | (simp_all; done)))) | (refine Wk.frzE ?hh ?_; (case hh => first | (simp only [lt4, hc1d, hc1, List.map_append, List.map_cons, List.map_nil, if_true, if_false, and_self, and_true, true_and, and_false, false_and, not_true_eq_false, not_false_eq_true, reduceIte]; done) | (simp [lt4, hc1d, hc1]; done) | ((try simp only [lt4]); (repeat' split) <;> first | rfl | (simp only [List.map_append, List.map_cons, List.map_nil, lt4]; done) | (exfalso; omega) | (simp_all; done))))
        · intro hP4
          refine sds_nil ⟨?_, rfl⟩ ?_
          · have := lt3_len h0.1.2 h0.2.2 n g dn p; omega
          · repeat first | exact Wk.nil | refine Wk.no ?_ | refine Wk.eq ?_ | refine Wk.frz ?_ | (refine Wk.eq' ?hh ?_; (case hh => first | (simp only [lt3, List.map_append, List.map_cons, List.map_nil, if_true, if_false, and_self, and_true, true_and, and_false, false_and, not_true_eq_false, not_false_eq_true, reduceIte]; done) | (simp [lt3]; done) | ((try simp only [lt3]); (repeat' split) <;> first | rfl | (simp only [List.map_append, List.map_cons, List.map_nil, lt3]; done) | (exfalso; omega) | (simp_all; done)))) | (refine Wk.frzE ?hh ?_; (case hh => first | (simp only [lt3, List.map_append, List.map_cons, List.map_nil, if_true, if_false, and_self, and_true, true_and, and_false, false_and, not_true_eq_false, not_false_eq_true, reduceIte]; done) | (simp [lt3]; done) | ((try simp only [lt3]); (repeat' split) <;> first | rfl | (simp only [List.map_append, List.map_cons, List.map_nil, lt3]; done) | (exfalso; omega) | (simp_all; done))))
      · intro hP3
        refine sds_nil ⟨?_, rfl⟩ ?_
        · have := lt2_len h0.1.2 h0.2.2 n dm g; omega
        · repeat first | exact Wk.nil | refine Wk.no ?_ | refine Wk.eq ?_ | refine Wk.frz ?_ | (refine Wk.eq' ?hh ?_; (case hh => first | (simp only [lt2, List.map_append, List.map_cons, List.map_nil, if_true, if_false, and_self, and_true, true_and, and_false, false_and, not_true_eq_false, not_false_eq_true, reduceIte]; done) | (simp [lt2]; done) | ((try simp only [lt2]); (repeat' split) <;> first | rfl | (simp only [List.map_append, List.map_cons, List.map_nil, lt2]; done) | (exfalso; omega) | (simp_all; done)))) | (refine Wk.frzE ?hh ?_; (case hh => first | (simp only [lt2, List.map_append, List.map_cons, List.map_nil, if_true, if_false, and_self, and_true, true_and, and_false, false_and, not_true_eq_false, not_false_eq_true, reduceIte]; done) | (simp [lt2]; done) | ((try simp only [lt2]); (repeat' split) <;> first | rfl | (simp only [List.map_append, List.map_cons, List.map_nil, lt2]; done) | (exfalso; omega) | (simp_all; done))))
    · intro hP2
      refine sds_nil ⟨?_, rfl⟩ ?_
      · have := lt1_len h0.1.2 h0.2.2 dl n; omega
      · repeat first | exact Wk.nil | refine Wk.no ?_ | refine Wk.eq ?_ | refine Wk.frz ?_ | (refine Wk.eq' ?hh ?_; (case hh => first | (simp only [lt1, List.map_append, List.map_cons, List.map_nil, if_true, if_false, and_self, and_true, true_and, and_false, false_and, not_true_eq_false, not_false_eq_true, reduceIte]; done) | (simp [lt1]; done) | ((try simp only [lt1]); (repeat' split) <;> first | rfl | (simp only [List.map_append, List.map_cons, List.map_nil, lt1]; done) | (exfalso; omega) | (simp_all; done)))) | (refine Wk.frzE ?hh ?_; (case hh => first | (simp only [lt1, List.map_append, List.map_cons, List.map_nil, if_true, if_false, and_self, and_true, true_and, and_false, false_and, not_true_eq_false, not_false_eq_true, reduceIte]; done) | (simp [lt1]; done) | ((try simp only [lt1]); (repeat' split) <;> first | rfl | (simp only [List.map_append, List.map_cons, List.map_nil, lt1]; done) | (exfalso; omega) | (simp_all; done))))
  · intro hP1
    refine sds_frz 3 ?_
    refine sds_ret (ed_var 3 rfl rfl (by walk_at "vis")) ?_
    walk_at "ret"
end

theorem rup_er {cA : Addr} {b v : Nat} {t : List Int} {x : Int} {c : Value} {fs : Option (List (Str × D))} (h : rupR cA b v t x false = .er c fs) : c = .ref cA ∧ fs = none ∧ (!(decide ((0 : Int) ≤ x) && decide (x < (v : Int)))) = true := by
  unfold rupR at h
  split at h
  · rename_i z; cases h; exact ⟨rfl, rfl, z⟩
  · cases h
theorem rup_ok {cA : Addr} {b v : Nat} {t : List Int} {x : Int} {tn : Bool} {d : D} (h : rupR cA b v t x tn = .ok d) : (!(decide ((0 : Int) ≤ x) && decide (x < (v : Int)))) = false := by
  unfold rupR at h
  split at h
  · cases h
  · rename_i z; exact Bool.eq_false_iff.mpr z
section
local macro_rules | `(tactic| walk_at "S") => `(tactic| exact ⟨b, v, t, x, false, rfl, ⟨h0, hl, hx0⟩, rfl⟩)

abbrev s_law_refused : Stmt := topS 67
theorem sc_law_refused : FnScope ["made", "disk", "value", "e"] ["made", "disk", "value"] (defScope s_law_refused) := ⟨rfl, rfl, rfl, by decide +kernel, rfl, by decide +kernel, by decide +kernel⟩
def S_law_refused (cA_RootForm : Addr) (cA_InvalidFile : Addr) : List D → Res → Prop := fun ds r => ∃ (b v : Nat) (t : List Int) (x : Int), ds = [.obj cA_RootForm (rtF b v), .tup (t.map .int), .int x] ∧ (((3 ≤ b ∧ b ≤ 5) ∧ (1 ≤ v ∧ v ≤ 4)) ∧ t.length = 4 + b ∧ (-1 ≤ x ∧ x < 500)) ∧ r = .ok (.bl (!(decide ((0 : Int) ≤ x) && decide (x < (v : Int)))))
theorem fd_law_refused {f : Addr} {fd : FuncData} (F : Fun K "_law_refused" "_law_refused" s_law_refused f fd) (gx : mg "_law_refused" = some (.ref f)) (hb : Binds K fd ["made", "disk", "value"] []) (T : Txt mg)  (G_InvalidFile : mg "InvalidFile" = some (.ref cA_InvalidFile)) (G_WreckError : mg "WreckError" = some (.ref cA_WreckError)) (k0_root_update : FK P w K mg base 3 "root_update" 3 [] [.bl false] [.bl false] (S_root_update cA_RootForm cA_InvalidFile)) (ki_InvalidFile_InvalidFile : PySem.W.kitOne K (.ref cA_InvalidFile) (.ref cA_InvalidFile) = some true) (xc_InvalidFile : XC K cA_InvalidFile cA_WreckError) : FD P w K mg base 4 "_law_refused" 3 (S_law_refused cA_RootForm cA_InvalidFile) := by
  refine fd_of (N := ["made", "disk", "value", "e"]) F gx hb sc_law_refused (by decide) ?_
  intro cdv A outer s0_ H E ds r hr hl hS
  obtain ⟨b, v, t, x, rfl, ⟨h0, hl, hx0⟩, rfl⟩ := hS
  show SDs _ _ [.val (.obj cA_RootForm (rtF b v)), .val (.tup (t.map .int)), .val (.int x), .no] _ _
  refine sds_tryAs (i := 3) rfl rfl sc_law_refused.nd rfl rfl ⟨rfl, by decide, .inl G_WreckError⟩ (takes_of rfl rfl rfl rfl) (Ex1 := fun ρ' c fs => ρ' = [.val (.obj cA_RootForm (rtF b v)), .val (.tup (t.map .int)), .val (.int x), .no] ∧ rupR cA_InvalidFile b v t x false = .er c fs) (fun W1 pn1 xe1 tk1 po1 => ?_) (fun ρ1 c1 fs1 hE => ?_)
  ·
    refine sds_exprR (er_kw tk1 k0_root_update (hr.mono (by decide)) rfl (ea_cons (ed_var 0 rfl rfl (by walk_at "vis")) (ea_cons (ed_var 1 rfl rfl (by walk_at "vis")) (ea_cons (ed_var 2 rfl rfl (by walk_at "vis")) ea_nil))) ek_nil (by walk_at "S")) (fun d hc1 => ?_) (fun c fs hc1 => ?_)
    · have hF := rup_ok hc1
      refine sds_ret ed_bl ?_
      show Res.ok _ = Res.ok _; rw [hF]
    · exact ⟨rfl, hc1⟩
  · obtain ⟨rfl, hE⟩ := hE
    obtain ⟨rfl, rfl, hF⟩ := rup_er hE
    · refine ⟨rfl, .inl ⟨xc_InvalidFile.m, (by walk_at "len"), fun a1 oe1 pn1 hz1 hv1 => ?_⟩⟩
      show SDs _ _ [.val (.obj cA_RootForm (rtF b v)), .val (.tup (t.map .int)), .val (.int x), .val (.adr a1)] _ _
      refine sds_ret (ed_callB rfl T.m_isinstance boot_isinstance (ea_cons (ed_var 3 rfl rfl (by walk_at "vis")) (ea_cons (ed_glob (v := .ref cA_InvalidFile) (d := .adr cA_InvalidFile) rfl G_InvalidFile rfl (fun _ _ => rfl)) ea_nil)) (cd_isE xc_InvalidFile.c hz1 hv1 ki_InvalidFile_InvalidFile)) ?_
      show Res.ok _ = Res.ok _; rw [hF]
end

def bitAt (m v : Int) : Int := Builtin.bitAnd (m / 2 ^ v.toNat) 1
def allowsB (d : Deed) (disk : List Int) : Bool := d.guard.all fun q => bitAt q.2 (disk.getD q.1.toNat default) != 0
section
local macro_rules | `(tactic| walk_at "ix") => `(tactic| first | exact ixd_tup (ds := [_, _, _]) rfl | (refine ixd_tup (atI_map ?_); first | exact hq | exact hq2 (of_decide_eq_false hb) | walk_at "side"))
local macro_rules | `(tactic| walk_at "side") => `(tactic| first | walk_at "side0" | exact hv)
abbrev s_allows : Stmt := topS 29
theorem sc_allows : FnScope ["deed", "disk", "cell", "mask"] ["deed", "disk"] (defScope s_allows) := ⟨rfl, rfl, rfl, by decide +kernel, rfl, by decide +kernel, by decide +kernel⟩
def S_allows : List D → Res → Prop := fun ds r => ∃ (d : Deed) (disk : List Int), ds = [.tup [.str d.name, .tup (d.guard.map encP), .tup (d.changes.map encCh)], .tup (disk.map .int)] ∧ ((∀ q ∈ d.guard, 0 ≤ q.1 ∧ q.1 < disk.length) ∧ (∀ c ∈ d.changes, (0 ≤ c.1 ∧ c.1 < disk.length) ∧ (c.2.1 ≠ "set" → 0 ≤ c.2.2 ∧ c.2.2 < disk.length)) ∧ (∀ v ∈ disk, 0 ≤ v) ∧ disk.length ≤ 1000) ∧ r = .ok (.bl (allowsB d disk))
theorem fd_allows {f : Addr} {fd : FuncData} (F : Fun K "allows" "allows" s_allows f fd) (gx : mg "allows" = some (.ref f)) (hb : Binds K fd ["deed", "disk"] []) (T : Txt mg)  : FD P w K mg base 1 "allows" 2 S_allows := by
  refine fd_of (N := ["deed", "disk", "cell", "mask"]) F gx hb sc_allows (by decide) ?_
  intro cdv A outer s0_ H E ds r hr hl hS
  obtain ⟨d, disk, rfl, ⟨h0, h1, h2, h3⟩, rfl⟩ := hS
  show SDs _ _ [.val (.tup [.str d.name, .tup (d.guard.map encP), .tup (d.changes.map encCh)]), .val (.tup (disk.map .int)), .no, .no] _ _
  refine sds_all ([.val (.tup [.str d.name, .tup (d.guard.map encP), .tup (d.changes.map encCh)]), .val (.tup (disk.map .int)), .no, .no]) (fun q : Int × Int => bitAt q.2 (disk.getD q.1.toNat default) != 0) (.bl false) (by walk_at "pass") rfl (by first | exact wd_list (ed_ix (ed_var 0 rfl rfl (by walk_at "vis")) ed_int (by walk_at "ix")) | exact wd_tup (ed_ix (ed_var 0 rfl rfl (by walk_at "vis")) ed_int (by walk_at "ix")) | exact wd_str (ed_ix (ed_var 0 rfl rfl (by walk_at "vis")) ed_int (by walk_at "ix"))) (td_pair 2 3 rfl sc_allows.nd rfl (by walk_at "loc") rfl (by walk_at "loc")) (by repeat first | exact Wk.nil | refine Wk.no ?_ | refine Wk.eq ?_ | refine Wk.frz ?_ | (refine Wk.eq' ?hh ?_; (case hh => first | (simp only [List.map_append, List.map_cons, List.map_nil, if_true, if_false, and_self, and_true, true_and, and_false, false_and, not_true_eq_false, not_false_eq_true, reduceIte]; done) | (simp []; done))) | (refine Wk.frzE ?hh ?_; (case hh => first | (simp only [List.map_append, List.map_cons, List.map_nil, if_true, if_false, and_self, and_true, true_and, and_false, false_and, not_true_eq_false, not_false_eq_true, reduceIte]; done) | (simp []; done)))) ?_ ?_ ?_
  · intro i x hx
    have hq := h0 x (List.mem_of_getElem? hx); have hv := h2 _ (getD_mem (xs := disk) (k := x.1) hq)
    refine ⟨_, (by walk_at "tgt"), ?_⟩
    refine sds_if (et_not (by first | exact et_val (ed_bin (ed_bin (ed_var 3 rfl rfl (by walk_at "vis")) (ed_ix (ed_var 1 rfl rfl (by walk_at "vis")) (ed_var 2 rfl rfl (by walk_at "vis")) (by walk_at "ix")) (by walk_at "opRShift")) ed_int (by walk_at "opBitAnd")) | exact et_tru (ed_bin (ed_bin (ed_var 3 rfl rfl (by walk_at "vis")) (ed_ix (ed_var 1 rfl rfl (by walk_at "vis")) (ed_var 2 rfl rfl (by walk_at "vis")) (by walk_at "ix")) (by walk_at "opRShift")) ed_int (by walk_at "opBitAnd")) (by walk_at "truv"))) (fun hc1 => ?_) (fun hc1 => ?_)
    · have hc1d := hc1
      try simp only [Bool.and_eq_true, Bool.or_eq_true, decide_eq_true_eq, decide_eq_false_iff_not, Bool.not_eq_true', Bool.not_eq_false', Bool.and_eq_false_iff, Bool.or_eq_false_iff] at hc1d
      refine sds_ret ed_bl ?_
      refine ⟨?_, rfl⟩
      exact nbt hc1
    · have hc1d := hc1
      try simp only [Bool.and_eq_true, Bool.or_eq_true, decide_eq_true_eq, decide_eq_false_iff_not, Bool.not_eq_true', Bool.not_eq_false', Bool.and_eq_false_iff, Bool.or_eq_false_iff] at hc1d
      refine sds_go ?_
      refine sds_nil ⟨?_, rfl⟩ ?_
      · exact nbf hc1
      · repeat first | exact Wk.nil | refine Wk.no ?_ | refine Wk.eq ?_ | refine Wk.frz ?_ | (refine Wk.eq' ?hh ?_; (case hh => first | (simp only [List.map_append, List.map_cons, List.map_nil, if_true, if_false, and_self, and_true, true_and, and_false, false_and, not_true_eq_false, not_false_eq_true, reduceIte]; done) | (simp []; done))) | (refine Wk.frzE ?hh ?_; (case hh => first | (simp only [List.map_append, List.map_cons, List.map_nil, if_true, if_false, and_self, and_true, true_and, and_false, false_and, not_true_eq_false, not_false_eq_true, reduceIte]; done) | (simp []; done)))
  · intro hc2
    refine sds_ret ed_bl ?_
    show Res.ok _ = Res.ok _; unfold allowsB; rw [hc2]
  · intro hc2 q_
    show Res.ok _ = Res.ok _; unfold allowsB; rw [hc2]
end

def chNxt (disk : List Int) (vs : List Int) (c : Int × Str × Int) : List Int := vs.set c.1.toNat (if decide (c.2.1 = "set") = true then c.2.2 else disk.getD c.2.2.toNat default)
def changedL (d : Deed) (disk : List Int) : List Int := d.changes.foldl (chNxt disk) disk
section
local macro_rules | `(tactic| walk_at "ix") => `(tactic| first | exact ixd_tup (ds := [_, _, _]) rfl | (refine ixd_tup (atI_map ?_); first | exact hq | exact hq2 (of_decide_eq_false hb) | walk_at "side"))
local macro_rules | `(tactic| walk_at "tgt") => `(tactic| (refine ⟨[_, _], rfl, rfl, consF_name ?_ (consF_pr ?_ ?_ nilF_mk)⟩; walk_at "len"; walk_at "len"; walk_at "len"))
local macro_rules | `(tactic| walk_at "ixn") => `(tactic| (refine ixN_in ?_; rw [List.length_map, hP]; exact hq))
abbrev s_changed : Stmt := topS 30
theorem sc_changed : FnScope ["deed", "disk", "values", "cell", "word", "number"] ["deed", "disk"] (defScope s_changed) := ⟨rfl, rfl, rfl, by decide +kernel, rfl, by decide +kernel, by decide +kernel⟩
def S_changed : List D → Res → Prop := fun ds r => ∃ (d : Deed) (disk : List Int), ds = [.tup [.str d.name, .tup (d.guard.map encP), .tup (d.changes.map encCh)], .tup (disk.map .int)] ∧ ((∀ q ∈ d.guard, 0 ≤ q.1 ∧ q.1 < disk.length) ∧ (∀ c ∈ d.changes, (0 ≤ c.1 ∧ c.1 < disk.length) ∧ (c.2.1 ≠ "set" → 0 ≤ c.2.2 ∧ c.2.2 < disk.length)) ∧ (∀ v ∈ disk, 0 ≤ v) ∧ disk.length ≤ 1000) ∧ r = .ok (.tup ((changedL d disk).map .int))
theorem fd_changed {f : Addr} {fd : FuncData} (F : Fun K "changed" "changed" s_changed f fd) (gx : mg "changed" = some (.ref f)) (hb : Binds K fd ["deed", "disk"] []) (T : Txt mg)  : FD P w K mg base 1 "changed" 2 S_changed := by
  refine fd_of (N := ["deed", "disk", "values", "cell", "word", "number"]) F gx hb sc_changed (by decide) ?_
  intro cdv A outer s0_ H E ds r hr hl hS
  obtain ⟨d, disk, rfl, ⟨h0, h1, h2, h3⟩, rfl⟩ := hS
  show SDs _ _ [.val (.tup [.str d.name, .tup (d.guard.map encP), .tup (d.changes.map encCh)]), .val (.tup (disk.map .int)), .no, .no, .no, .no] _ _
  refine sds_setO 2 (eo_callTy rfl T.m_list boot_list (ea_cons (ed_var 1 rfl rfl (by walk_at "vis")) ea_nil) (by walk_at "callo")) sc_changed.nd rfl (by walk_at "loc") ?_ (by walk_at "len")
  refine sds_fold (fun vs => [.val (.tup [.str d.name, .tup (d.guard.map encP), .tup (d.changes.map encCh)]), .val (.tup (disk.map .int)), .own (.lst (vs.map .int)), .no, .no, .no]) (chNxt disk) (fun _ vs => vs.length = disk.length) disk (by walk_at "pass") rfl (by first | exact wd_list (ed_ix (ed_var 0 rfl rfl (by walk_at "vis")) ed_int (by walk_at "ix")) | exact wd_tup (ed_ix (ed_var 0 rfl rfl (by walk_at "vis")) ed_int (by walk_at "ix")) | exact wd_str (ed_ix (ed_var 0 rfl rfl (by walk_at "vis")) ed_int (by walk_at "ix"))) (td_tup rfl (tds_cons (td_name 3 sc_changed.nd rfl (by walk_at "loc")) (tds_cons (td_pair 4 5 rfl sc_changed.nd rfl (by walk_at "loc") rfl (by walk_at "loc")) tds_nil))) (by repeat first | exact Wk.nil | refine Wk.no ?_ | refine Wk.eq ?_ | refine Wk.frz ?_ | (refine Wk.eq' ?hh ?_; (case hh => first | (simp only [chNxt, List.map_set, List.map_append, List.map_cons, List.map_nil, if_true, if_false, and_self, and_true, true_and, and_false, false_and, not_true_eq_false, not_false_eq_true, reduceIte]; done) | (simp [chNxt, List.map_set]; done) | ((try simp only [chNxt, List.map_set]); (repeat' split) <;> first | rfl | (simp only [List.map_append, List.map_cons, List.map_nil, chNxt, List.map_set]; done) | (exfalso; omega) | (simp_all; done)))) | (refine Wk.frzE ?hh ?_; (case hh => first | (simp only [chNxt, List.map_set, List.map_append, List.map_cons, List.map_nil, if_true, if_false, and_self, and_true, true_and, and_false, false_and, not_true_eq_false, not_false_eq_true, reduceIte]; done) | (simp [chNxt, List.map_set]; done) | ((try simp only [chNxt, List.map_set]); (repeat' split) <;> first | rfl | (simp only [List.map_append, List.map_cons, List.map_nil, chNxt, List.map_set]; done) | (exfalso; omega) | (simp_all; done))))) (by rfl) ?_ ?_
  · intro i c vs hx hP
    have hP : vs.length = disk.length := hP; obtain ⟨hq, hq2⟩ := h1 c (List.mem_of_getElem? hx)
    refine ⟨_, (by walk_at "tgt"), ?_⟩
    refine sds_put 2 rfl (ed_ifd (et_cmp (ed_var 4 rfl rfl (by walk_at "vis")) ed_str (by walk_at "cmpEq")) (fun hb => (ed_var 5 rfl rfl (by walk_at "vis"))) (fun hb => (ed_ix (ed_var 1 rfl rfl (by walk_at "vis")) (ed_var 5 rfl rfl (by walk_at "vis")) (by walk_at "ix"))) (by walk_at "ifd")) (ed_var 3 rfl rfl (by walk_at "vis")) rfl (by walk_at "vis") (by walk_at "ixn") ?_
    refine sds_nil ⟨?_, rfl⟩ ?_
    · unfold chNxt; rw [List.length_set, hP]
    · repeat first | exact Wk.nil | refine Wk.no ?_ | refine Wk.eq ?_ | refine Wk.frz ?_ | (refine Wk.eq' ?hh ?_; (case hh => first | (simp only [chNxt, List.map_set, chNxt, List.map_append, List.map_cons, List.map_nil, if_true, if_false, and_self, and_true, true_and, and_false, false_and, not_true_eq_false, not_false_eq_true, reduceIte]; done) | (simp [chNxt, List.map_set, chNxt]; done) | ((try simp only [chNxt, List.map_set, chNxt]); (repeat' split) <;> first | rfl | (simp only [List.map_append, List.map_cons, List.map_nil, chNxt, List.map_set, chNxt]; done) | (exfalso; omega) | (simp_all; done)))) | (refine Wk.frzE ?hh ?_; (case hh => first | (simp only [chNxt, List.map_set, chNxt, List.map_append, List.map_cons, List.map_nil, if_true, if_false, and_self, and_true, true_and, and_false, false_and, not_true_eq_false, not_false_eq_true, reduceIte]; done) | (simp [chNxt, List.map_set, chNxt]; done) | ((try simp only [chNxt, List.map_set, chNxt]); (repeat' split) <;> first | rfl | (simp only [List.map_append, List.map_cons, List.map_nil, chNxt, List.map_set, chNxt]; done) | (exfalso; omega) | (simp_all; done))))
  · intro hP
    refine sds_frz 2 ?_
    refine sds_ret (ed_callTy rfl T.m_tuple boot_tuple (ea_cons (ed_var 2 rfl rfl (by walk_at "vis")) ea_nil) (by walk_at "call_tuple")) ?_
    walk_at "ret"
end

def chkDeed (cA : Addr) (m : Mach) (k : Int) : Res := if (!(decide ((0 : Int) ≤ k) && decide (k < (m.deeds.length : Int)))) = true then .er (.ref cA) none else .ok .non
section
local macro_rules | `(tactic| walk_at "fint") => `(tactic| exact h0)
abbrev s_check_deed : Stmt := topS 26
theorem sc_check_deed : FnScope ["machine", "deed"] ["machine", "deed"] (defScope s_check_deed) := ⟨rfl, rfl, rfl, by decide +kernel, rfl, by decide +kernel, by decide +kernel⟩
def S_check_deed (cA_Machine : Addr) (cA_NoSuchDeed : Addr) : List D → Res → Prop := fun ds r => ∃ (m : Mach) (k : Int), ds = [.obj cA_Machine (machF m), .int k] ∧ (k.natAbs.log2 < 1920 ∧ (toString k : Str).length ≤ 100000) ∧ r = chkDeed cA_NoSuchDeed m k
theorem fd_check_deed {f : Addr} {fd : FuncData} (F : Fun K "check_deed" "check_deed" s_check_deed f fd) (gx : mg "check_deed" = some (.ref f)) (hb : Binds K fd ["machine", "deed"] []) (T : Txt mg)  (X_NoSuchDeed : XF K mg "NoSuchDeed" cA_NoSuchDeed) (cl_Machine : Cls K cA_Machine) (na_Machine_deeds : NoAttr K cA_Machine "deeds") : FD P w K mg base 1 "check_deed" 2 (S_check_deed cA_Machine cA_NoSuchDeed) := by
  refine fd_of (N := ["machine", "deed"]) F gx hb sc_check_deed (by decide) ?_
  intro cdv A outer s0_ H E ds r hr hl hS
  obtain ⟨m, k, rfl, h0, rfl⟩ := hS
  show SDs _ _ [.val (.obj cA_Machine (machF m)), .val (.int k)] _ _
  refine sds_if (et_not (et_chain ed_int (ed_var 1 rfl rfl (by walk_at "vis")) (ed_callB rfl T.m_len PySem.boot_len (ea_cons (ed_fld (ed_var 0 rfl rfl (by walk_at "vis")) cl_Machine na_Machine_deeds rfl) ea_nil) (by walk_at "call_len")) (by walk_at "cmpLtE") (by walk_at "cmpLt"))) (fun hc1 => ?_) (fun hc1 => ?_)
  · have hc1d := hc1
    try simp only [Bool.and_eq_true, Bool.or_eq_true, decide_eq_true_eq, decide_eq_false_iff_not, Bool.not_eq_true', Bool.not_eq_false', Bool.and_eq_false_iff, Bool.or_eq_false_iff] at hc1d
    refine sds_raise rfl (takes_of rfl rfl rfl rfl) X_NoSuchDeed rfl (es_joined (.cons (.txt ed_str (by decide +kernel)) (.cons (by first | exact .str (ed_var 1 rfl rfl (by walk_at "vis")) (by walk_at "flen") | exact .int (ed_var 1 rfl rfl (by walk_at "vis")) (by walk_at "fint")) .nil))) ?_
    unfold chkDeed; first | (rw [if_pos hc1]; done) | (exact if_neg (by rw [hc1]; exact Bool.false_ne_true))
  · have hc1d := hc1
    try simp only [Bool.and_eq_true, Bool.or_eq_true, decide_eq_true_eq, decide_eq_false_iff_not, Bool.not_eq_true', Bool.not_eq_false', Bool.and_eq_false_iff, Bool.or_eq_false_iff] at hc1d
    refine sds_go ?_
    refine sds_nil ?_ (Wk.refl _)
    unfold chkDeed; first | (rw [if_pos hc1]; done) | (exact if_neg (by rw [hc1]; exact Bool.false_ne_true))
end

def inCell (q : (Str × Int) × Int) : Bool := decide ((0 : Int) ≤ q.2) && decide (q.2 < q.1.2)
def chkDisk (cA : Addr) (m : Mach) (disk : List Int) : Res := if (!decide ((disk.length : Int) = (m.cells.length : Int))) = true then .er (.ref cA) none else if (m.cells.zip disk).all inCell = true then .ok .non else .er (.ref cA) none
section
local macro_rules | `(tactic| walk_at "flen") => `(tactic| exact h0 _ (List.of_mem_zip (List.mem_of_getElem? hx)).1)
local macro_rules | `(tactic| walk_at "tgt") => `(tactic| (refine ⟨[_, _], rfl, rfl, consF_pr ?_ ?_ (consF_name ?_ nilF_mk)⟩; walk_at "len"; walk_at "len"; walk_at "len"))
abbrev s_check_disk : Stmt := topS 25
theorem sc_check_disk : FnScope ["machine", "disk", "name", "size", "value"] ["machine", "disk"] (defScope s_check_disk) := ⟨rfl, rfl, rfl, by decide +kernel, rfl, by decide +kernel, by decide +kernel⟩
def S_check_disk (cA_Machine : Addr) (cA_InvalidDisk : Addr) : List D → Res → Prop := fun ds r => ∃ (m : Mach) (disk : List Int), ds = [.obj cA_Machine (machF m), .tup (disk.map .int)] ∧ (∀ c ∈ m.cells, c.1.length ≤ 100000) ∧ r = chkDisk cA_InvalidDisk m disk
theorem fd_check_disk {f : Addr} {fd : FuncData} (F : Fun K "check_disk" "check_disk" s_check_disk f fd) (gx : mg "check_disk" = some (.ref f)) (hb : Binds K fd ["machine", "disk"] []) (T : Txt mg)  (X_InvalidDisk : XF K mg "InvalidDisk" cA_InvalidDisk) (cl_Machine : Cls K cA_Machine) (na_Machine_cells : NoAttr K cA_Machine "cells") : FD P w K mg base 1 "check_disk" 2 (S_check_disk cA_Machine cA_InvalidDisk) := by
  refine fd_of (N := ["machine", "disk", "name", "size", "value"]) F gx hb sc_check_disk (by decide) ?_
  intro cdv A outer s0_ H E ds r hr hl hS
  obtain ⟨m, disk, rfl, h0, rfl⟩ := hS
  show SDs _ _ [.val (.obj cA_Machine (machF m)), .val (.tup (disk.map .int)), .no, .no, .no] _ _
  refine sds_if (et_cmp (ed_callB rfl T.m_len PySem.boot_len (ea_cons (ed_var 1 rfl rfl (by walk_at "vis")) ea_nil) (by walk_at "call_len")) (ed_callB rfl T.m_len PySem.boot_len (ea_cons (ed_fld (ed_var 0 rfl rfl (by walk_at "vis")) cl_Machine na_Machine_cells rfl) ea_nil) (by walk_at "call_len")) (by walk_at "cmpNotEq")) (fun hc1 => ?_) (fun hc1 => ?_)
  · have hc1d := hc1
    try simp only [Bool.and_eq_true, Bool.or_eq_true, decide_eq_true_eq, decide_eq_false_iff_not, Bool.not_eq_true', Bool.not_eq_false', Bool.and_eq_false_iff, Bool.or_eq_false_iff] at hc1d
    refine sds_raise rfl (takes_of rfl rfl rfl rfl) X_InvalidDisk rfl (es_ed (n := 1000000) ed_str (by decide +kernel)) ?_
    unfold chkDisk; first | (rw [if_pos hc1]; done) | (rw [if_neg (by rw [hc1]; exact Bool.false_ne_true), if_pos (guard_in hL)])
  · have hc1d := hc1
    try simp only [Bool.and_eq_true, Bool.or_eq_true, decide_eq_true_eq, decide_eq_false_iff_not, Bool.not_eq_true', Bool.not_eq_false', Bool.and_eq_false_iff, Bool.or_eq_false_iff] at hc1d
    refine sds_go ?_
    refine sds_loop (fun _ : Unit => [.val (.obj cA_Machine (machF m)), .val (.tup (disk.map .int)), .no, .no, .no]) (fun q (_ : Unit) => if inCell q = true then none else some (.er (.ref cA_InvalidDisk) none)) (fun _ s => s) (fun _ _ => True) () (by walk_at "pass") rfl (by first | exact wd_zipTm (ed_fld (ed_var 0 rfl rfl (by walk_at "vis")) cl_Machine na_Machine_cells rfl) (ed_var 1 rfl rfl (by walk_at "vis")) rfl T.m_zip | exact wd_zipLm (ed_fld (ed_var 0 rfl rfl (by walk_at "vis")) cl_Machine na_Machine_cells rfl) (ed_var 1 rfl rfl (by walk_at "vis")) rfl T.m_zip | exact wd_zipTL (ed_fld (ed_var 0 rfl rfl (by walk_at "vis")) cl_Machine na_Machine_cells rfl) (ed_var 1 rfl rfl (by walk_at "vis")) rfl T.m_zip | exact wd_zipLT (ed_fld (ed_var 0 rfl rfl (by walk_at "vis")) cl_Machine na_Machine_cells rfl) (ed_var 1 rfl rfl (by walk_at "vis")) rfl T.m_zip) (td_tup rfl (tds_cons (td_pair 2 3 rfl sc_check_disk.nd rfl (by walk_at "loc") rfl (by walk_at "loc")) (tds_cons (td_name 4 sc_check_disk.nd rfl (by walk_at "loc")) tds_nil))) (by repeat first | exact Wk.nil | refine Wk.no ?_ | refine Wk.eq ?_ | refine Wk.frz ?_ | (refine Wk.eq' ?hh ?_; (case hh => first | (simp only [List.map_append, List.map_cons, List.map_nil, if_true, if_false, and_self, and_true, true_and, and_false, false_and, not_true_eq_false, not_false_eq_true, reduceIte]; done) | (simp []; done))) | (refine Wk.frzE ?hh ?_; (case hh => first | (simp only [List.map_append, List.map_cons, List.map_nil, if_true, if_false, and_self, and_true, true_and, and_false, false_and, not_true_eq_false, not_false_eq_true, reduceIte]; done) | (simp []; done)))) (by trivial) ?_ ?_ ?_ ?_
    · intro i q u hx hP
      refine ⟨_, (by walk_at "tgt"), ?_⟩
      refine sds_if (et_not (et_chain ed_int (ed_var 4 rfl rfl (by walk_at "vis")) (ed_var 3 rfl rfl (by walk_at "vis")) (by walk_at "cmpLtE") (by walk_at "cmpLt"))) (fun hc2 => ?_) (fun hc2 => ?_)
      · have hc2d := hc2
        try simp only [Bool.and_eq_true, Bool.or_eq_true, decide_eq_true_eq, decide_eq_false_iff_not, Bool.not_eq_true', Bool.not_eq_false', Bool.and_eq_false_iff, Bool.or_eq_false_iff] at hc2d
        refine sds_raise rfl (takes_of rfl rfl rfl rfl) X_InvalidDisk rfl (es_joined (.cons (.txt ed_str (by decide +kernel)) (.cons (by first | exact .str (ed_var 2 rfl rfl (by walk_at "vis")) (by walk_at "flen") | exact .int (ed_var 2 rfl rfl (by walk_at "vis")) (by walk_at "fint")) (.cons (.txt ed_str (by decide +kernel)) .nil)))) ?_
        exact if_neg (fun z => by rw [show inCell q = _ from nbt hc2] at z; exact Bool.noConfusion z)
      · have hc2d := hc2
        try simp only [Bool.and_eq_true, Bool.or_eq_true, decide_eq_true_eq, decide_eq_false_iff_not, Bool.not_eq_true', Bool.not_eq_false', Bool.and_eq_false_iff, Bool.or_eq_false_iff] at hc2d
        refine sds_go ?_
        refine sds_nil ⟨⟨?_, ?_⟩, rfl⟩ ?_
        · exact if_pos (nbf hc2)
        · trivial
        · repeat first | exact Wk.nil | refine Wk.no ?_ | refine Wk.eq ?_ | refine Wk.frz ?_ | (refine Wk.eq' ?hh ?_; (case hh => first | (simp only [hc2d, hc2, List.map_append, List.map_cons, List.map_nil, if_true, if_false, and_self, and_true, true_and, and_false, false_and, not_true_eq_false, not_false_eq_true, reduceIte]; done) | (simp [hc2d, hc2]; done))) | (refine Wk.frzE ?hh ?_; (case hh => first | (simp only [hc2d, hc2, List.map_append, List.map_cons, List.map_nil, if_true, if_false, and_self, and_true, true_and, and_false, false_and, not_true_eq_false, not_false_eq_true, reduceIte]; done) | (simp [hc2d, hc2]; done)))
    · intro u hP hL
      refine sds_nil ?_ (Wk.refl _)
      unfold chkDisk; first | (rw [if_pos hc1]; done) | (rw [if_neg (by rw [hc1]; exact Bool.false_ne_true), if_pos (guard_in hL)])
    · intro d hL q_
      exact nomatch (guard_out hL).2
    · intro _ c fs hL
      have hg := guard_out hL; unfold chkDisk; rw [if_neg (by rw [hc1]; exact Bool.false_ne_true), if_neg hg.1]; exact hg.2
end

def canDo (cD cN : Addr) (m : Mach) (disk : List Int) (k : Int) : Res :=
  match chkDisk cD m disk with
  | .er c fs => .er c fs
  | .ok _ => match chkDeed cN m k with
    | .er c fs => .er c fs
    | .ok _ => .ok (.bl (allowsB (m.deeds.getD k.toNat default) disk))
theorem disk_ok {cD : Addr} {m : Mach} {disk : List Int} {d : D} (h : chkDisk cD m disk = .ok d) : disk.length = m.cells.length ∧ ∀ v ∈ disk, 0 ≤ v := by
  unfold chkDisk at h
  by_cases z : (!decide ((disk.length : Int) = (m.cells.length : Int))) = true
  · rw [if_pos z] at h; cases h
  · rw [if_neg z] at h
    have z2 : disk.length = m.cells.length := by
      have z3 : (disk.length : Int) = (m.cells.length : Int) := by simpa using z
      omega
    by_cases y : (m.cells.zip disk).all inCell = true
    · refine ⟨z2, fun v hv => ?_⟩
      obtain ⟨i, hi⟩ := List.getElem?_of_mem hv
      have hi2 := (List.getElem?_eq_some_iff.mp hi).1
      have hm : (m.cells[i]'(by omega), v) ∈ m.cells.zip disk := by
        refine List.mem_of_getElem? (i := i) ?_
        rw [List.getElem?_eq_getElem (by rw [List.length_zip]; omega), List.getElem_zip]
        rw [List.getElem?_eq_getElem hi2] at hi
        rw [Option.some.inj hi]
      have := List.all_eq_true.mp y _ hm
      simp only [inCell, Bool.and_eq_true, decide_eq_true_eq] at this
      exact this.1
    · rw [if_neg y] at h; cases h
theorem deed_ok {cN : Addr} {m : Mach} {k : Int} {d : D} (h : chkDeed cN m k = .ok d) : 0 ≤ k ∧ k < m.deeds.length := by
  unfold chkDeed at h
  by_cases z : (!(decide ((0 : Int) ≤ k) && decide (k < (m.deeds.length : Int)))) = true
  · rw [if_pos z] at h; cases h
  · simpa using z
section
local macro_rules | `(tactic| walk_at "ix") => `(tactic| (refine ixd_tup (atI_map ?_); exact deed_ok hc2))
local macro_rules | `(tactic| walk_at "side") => `(tactic| first | walk_at "side0" | exact h0 | exact h2 | (obtain ⟨e1, e2⟩ := disk_ok hc1; obtain ⟨e3, e4⟩ := h3 _ (getD_mem (xs := m.deeds) (k := k) (deed_ok hc2)); refine ⟨fun q hq => by rw [e1]; exact e3 q hq, fun c hc => by rw [e1]; exact e4 c hc, e2, by omega⟩))
abbrev s_can_do : Stmt := topS 27
theorem sc_can_do : FnScope ["machine", "disk", "deed"] ["machine", "disk", "deed"] (defScope s_can_do) := ⟨rfl, rfl, rfl, by decide +kernel, rfl, by decide +kernel, by decide +kernel⟩
def S_can_do (cA_Machine : Addr) (cA_InvalidDisk : Addr) (cA_NoSuchDeed : Addr) : List D → Res → Prop := fun ds r => ∃ (m : Mach) (disk : List Int) (k : Int), ds = [.obj cA_Machine (machF m), .tup (disk.map .int), .int k] ∧ ((∀ c ∈ m.cells, c.1.length ≤ 100000) ∧ m.cells.length ≤ 1000 ∧ (k.natAbs.log2 < 1920 ∧ (toString k : Str).length ≤ 100000) ∧ ∀ d ∈ m.deeds, (∀ q ∈ d.guard, 0 ≤ q.1 ∧ q.1 < m.cells.length) ∧ (∀ c ∈ d.changes, (0 ≤ c.1 ∧ c.1 < m.cells.length) ∧ (c.2.1 ≠ "set" → 0 ≤ c.2.2 ∧ c.2.2 < m.cells.length))) ∧ r = canDo cA_InvalidDisk cA_NoSuchDeed m disk k
theorem fd_can_do {f : Addr} {fd : FuncData} (F : Fun K "can_do" "can_do" s_can_do f fd) (gx : mg "can_do" = some (.ref f)) (hb : Binds K fd ["machine", "disk", "deed"] []) (T : Txt mg) (F_allows : FD P w K mg base 1 "allows" 2 S_allows) (F_check_deed : FD P w K mg base 1 "check_deed" 2 (S_check_deed cA_Machine cA_NoSuchDeed)) (F_check_disk : FD P w K mg base 1 "check_disk" 2 (S_check_disk cA_Machine cA_InvalidDisk)) (cl_Machine : Cls K cA_Machine) (na_Machine_deeds : NoAttr K cA_Machine "deeds") : FD P w K mg base 2 "can_do" 3 (S_can_do cA_Machine cA_InvalidDisk cA_NoSuchDeed) := by
  refine fd_of (N := ["machine", "disk", "deed"]) F gx hb sc_can_do (by decide) ?_
  intro cdv A outer s0_ H E ds r hr hl hS
  obtain ⟨m, disk, k, rfl, ⟨h0, h1, h2, h3⟩, rfl⟩ := hS
  show SDs _ _ [.val (.obj cA_Machine (machF m)), .val (.tup (disk.map .int)), .val (.int k)] _ _
  refine sds_exprR (er_call (takes_of rfl rfl rfl rfl) F_check_disk (hr.mono (by decide)) rfl (ea_cons (ed_var 0 rfl rfl (by walk_at "vis")) (ea_cons (ed_var 1 rfl rfl (by walk_at "vis")) ea_nil)) (by walk_at "S")) (fun d hc1 => ?_) (fun c fs hc1 => ?_)
  · skip
    refine sds_exprR (er_call (takes_of rfl rfl rfl rfl) F_check_deed (hr.mono (by decide)) rfl (ea_cons (ed_var 0 rfl rfl (by walk_at "vis")) (ea_cons (ed_var 2 rfl rfl (by walk_at "vis")) ea_nil)) (by walk_at "S")) (fun d hc2 => ?_) (fun c fs hc2 => ?_)
    · skip
      refine sds_ret (ed_call F_allows (hr.mono (by decide)) rfl (ea_cons (ed_ix (ed_fld (ed_var 0 rfl rfl (by walk_at "vis")) cl_Machine na_Machine_deeds rfl) (ed_var 2 rfl rfl (by walk_at "vis")) (by walk_at "ix")) (ea_cons (ed_var 1 rfl rfl (by walk_at "vis")) ea_nil)) (by walk_at "S")) ?_
      unfold canDo; rw [hc1, hc2]
    · unfold canDo; rw [hc1, hc2]
  · unfold canDo; rw [hc1]
end

abbrev s_CannotDo_init : Stmt := inCls (topS 6) 0
theorem xp_CannotDo_init {f cc cda : Addr} {fd : FuncData} (g : mg "CannotDo" = some (.ref cA_CannotDo)) (F : FunS K "__init__" "CannotDo.__init__" s_CannotDo_init f cc cda fd) (S : SupC K P cA_CannotDo f cc cda "self") (iC : PySem.W.findIn K (.ref cA_CannotDo) "__init__" = some (some (.ref f))) (tI : PySem.W.typeIn K (.ref f) = some (.type "function"))
    (hb : Binds K fd ["self", "position"] []) (hms : mg "super" = none) (hno : PySem.W.findIn K (.ref cA_CannotDo) "position" = some none) : XP P w K mg base 1 "CannotDo" cA_CannotDo "position" :=
  xp_of (n1 := "position") g F S iC tI hb hms hno (by decide) (by decide) (by decide) (by decide +kernel) (by decide +kernel) rfl (by decide +kernel) (by decide +kernel) (free_of (by decide +kernel)) (by decide +kernel) rfl rfl rfl
    (fun A outer s H E a i hi => es_joined (.cons (.txt ed_str (by decide +kernel)) (.cons (.int (ed_var 1 rfl rfl (Or.inl rfl)) hi) (.cons (.txt ed_str (by decide +kernel)) .nil)))) (fun L => rfl) (fun L => rfl) (fun L => rfl) (fun L => rfl) (fun L => rfl)

def afterR (cD cN cC : Addr) (m : Mach) (disk : List Int) (k : Int) : Res :=
  match canDo cD cN m disk k with
  | .er c fs => .er c fs
  | .ok _ => if allowsB (m.deeds.getD k.toNat default) disk = true then .ok (.tup ((changedL (m.deeds.getD k.toNat default) disk).map .int)) else .er (.ref cC) (some [("position", .int 0)])
theorem can_res {cD cN : Addr} {m : Mach} {disk : List Int} {k : Int} {d : D} (h : canDo cD cN m disk k = .ok d) : d = .bl (allowsB (m.deeds.getD k.toNat default) disk) ∧ (∃ e, chkDisk cD m disk = .ok e) ∧ ∃ e, chkDeed cN m k = .ok e := by
  unfold canDo at h
  split at h
  · cases h
  · rename_i h1
    split at h
    · cases h
    · rename_i h2
      cases h
      exact ⟨rfl, ⟨_, h1⟩, _, h2⟩
theorem can_need {cD cN : Addr} {m : Mach} {disk : List Int} {k : Int} {d : D} (hh : (∀ c ∈ m.cells, c.1.length ≤ 100000) ∧ m.cells.length ≤ 1000 ∧ (k.natAbs.log2 < 1920 ∧ (toString k : Str).length ≤ 100000) ∧ ∀ d ∈ m.deeds, (∀ q ∈ d.guard, 0 ≤ q.1 ∧ q.1 < m.cells.length) ∧ (∀ c ∈ d.changes, (0 ≤ c.1 ∧ c.1 < m.cells.length) ∧ (c.2.1 ≠ "set" → 0 ≤ c.2.2 ∧ c.2.2 < m.cells.length)))
    (h : canDo cD cN m disk k = .ok d) : (0 ≤ k ∧ k < m.deeds.length) ∧ (∀ q ∈ (m.deeds.getD k.toNat default).guard, 0 ≤ q.1 ∧ q.1 < disk.length) ∧ (∀ c ∈ (m.deeds.getD k.toNat default).changes, (0 ≤ c.1 ∧ c.1 < disk.length) ∧ (c.2.1 ≠ "set" → 0 ≤ c.2.2 ∧ c.2.2 < disk.length)) ∧ (∀ v ∈ disk, 0 ≤ v) ∧ disk.length ≤ 1000 := by
  obtain ⟨_, ⟨e1, h1⟩, e2, h2⟩ := can_res h
  obtain ⟨a1, a2⟩ := disk_ok h1
  have b := deed_ok h2
  obtain ⟨e3, e4⟩ := hh.2.2.2 _ (getD_mem (xs := m.deeds) (k := k) b)
  exact ⟨b, fun q hq => by rw [a1]; exact e3 q hq, fun c hc => by rw [a1]; exact e4 c hc, a2, by have := hh.2.1; omega⟩
section
local macro_rules | `(tactic| walk_at "ix") => `(tactic| (refine ixd_tup (atI_map ?_); exact (can_need hh hc1).1))
local macro_rules | `(tactic| walk_at "sml") => `(tactic| (unfold Sml; decide +kernel))
local macro_rules | `(tactic| walk_at "side") => `(tactic| first | walk_at "side0" | exact hh | exact (can_need hh hc1).2)
abbrev s_after : Stmt := topS 28
theorem sc_after : FnScope ["machine", "disk", "deed"] ["machine", "disk", "deed"] (defScope s_after) := ⟨rfl, rfl, rfl, by decide +kernel, rfl, by decide +kernel, by decide +kernel⟩
def S_after (cA_Machine : Addr) (cA_InvalidDisk : Addr) (cA_NoSuchDeed : Addr) (cA_CannotDo : Addr) : List D → Res → Prop := fun ds r => ∃ (m : Mach) (disk : List Int) (k : Int), ds = [.obj cA_Machine (machF m), .tup (disk.map .int), .int k] ∧ ((∀ c ∈ m.cells, c.1.length ≤ 100000) ∧ m.cells.length ≤ 1000 ∧ (k.natAbs.log2 < 1920 ∧ (toString k : Str).length ≤ 100000) ∧ ∀ d ∈ m.deeds, (∀ q ∈ d.guard, 0 ≤ q.1 ∧ q.1 < m.cells.length) ∧ (∀ c ∈ d.changes, (0 ≤ c.1 ∧ c.1 < m.cells.length) ∧ (c.2.1 ≠ "set" → 0 ≤ c.2.2 ∧ c.2.2 < m.cells.length))) ∧ r = afterR cA_InvalidDisk cA_NoSuchDeed cA_CannotDo m disk k
theorem fd_after {f : Addr} {fd : FuncData} (F : Fun K "after" "after" s_after f fd) (gx : mg "after" = some (.ref f)) (hb : Binds K fd ["machine", "disk", "deed"] []) (T : Txt mg) (F_can_do : FD P w K mg base 2 "can_do" 3 (S_can_do cA_Machine cA_InvalidDisk cA_NoSuchDeed)) (F_changed : FD P w K mg base 1 "changed" 2 S_changed) (XP_CannotDo : XP P w K mg base 1 "CannotDo" cA_CannotDo "position") (cl_Machine : Cls K cA_Machine) (na_Machine_deeds : NoAttr K cA_Machine "deeds") : FD P w K mg base 3 "after" 3 (S_after cA_Machine cA_InvalidDisk cA_NoSuchDeed cA_CannotDo) := by
  refine fd_of (N := ["machine", "disk", "deed"]) F gx hb sc_after (by decide) ?_
  intro cdv A outer s0_ H E ds r hr hl hS
  obtain ⟨m, disk, k, rfl, hh, rfl⟩ := hS
  show SDs _ _ [.val (.obj cA_Machine (machF m)), .val (.tup (disk.map .int)), .val (.int k)] _ _
  refine sds_ifNR (er_call (takes_of rfl rfl rfl rfl) F_can_do (hr.mono (by decide)) rfl (ea_cons (ed_var 0 rfl rfl (by walk_at "vis")) (ea_cons (ed_var 1 rfl rfl (by walk_at "vis")) (ea_cons (ed_var 2 rfl rfl (by walk_at "vis")) ea_nil))) (by walk_at "S")) (by exact fun d hd => ⟨_, (can_res hd).1⟩) (fun hc1 => ?_) (fun hc1 => ?_) (fun c fs hc1 => ?_)
  · have hc1d := hc1
    try simp only [Bool.and_eq_true, Bool.or_eq_true, decide_eq_true_eq, decide_eq_false_iff_not, Bool.not_eq_true', Bool.not_eq_false', Bool.and_eq_false_iff, Bool.or_eq_false_iff] at hc1d
    refine sds_raiseP rfl (takes_of rfl rfl rfl rfl) XP_CannotDo (hr.mono (by decide)) rfl ed_int (by walk_at "sml") ?_
    unfold afterR; rw [hc1]; have hq := (can_res hc1).1; first | (cases hq; done) | (rw [← D.bl.inj hq]; rfl)
  · have hc1d := hc1
    try simp only [Bool.and_eq_true, Bool.or_eq_true, decide_eq_true_eq, decide_eq_false_iff_not, Bool.not_eq_true', Bool.not_eq_false', Bool.and_eq_false_iff, Bool.or_eq_false_iff] at hc1d
    refine sds_go ?_
    refine sds_ret (ed_call F_changed (hr.mono (by decide)) rfl (ea_cons (ed_ix (ed_fld (ed_var 0 rfl rfl (by walk_at "vis")) cl_Machine na_Machine_deeds rfl) (ed_var 2 rfl rfl (by walk_at "vis")) (by walk_at "ix")) (ea_cons (ed_var 1 rfl rfl (by walk_at "vis")) ea_nil)) (by walk_at "S")) ?_
    unfold afterR; rw [hc1]; have hq := (can_res hc1).1; first | (cases hq; done) | (rw [← D.bl.inj hq]; rfl)
  · unfold afterR; rw [hc1]
end

def findR (cA : Addr) (xs : List Str) (z : Str) : Res := if z ∈ xs then .ok (.int (xs.idxOf z)) else .er (.ref cA) none
theorem find_loop {α : Type} {F : α → Str} {z : Str} : ∀ (xs : List α) (lo : Int), loopX (fun (q : Int × α) (_ : Unit) => if decide (F q.2 = z) = true then some (.ok (.int q.1)) else none) (fun _ s => s) ((rng lo xs.length).zip xs) () = if z ∈ xs.map F then .inr (.ok (.int (lo + ((xs.map F).idxOf z : Nat)))) else .inl ()
  | [], lo => rfl
  | x :: r, lo => by
    rw [List.length_cons, rng_succ, List.zip_cons_cons, loopX_cons]
    by_cases h : F x = z
    · rw [if_pos (decide_eq_true h), if_pos (by rw [List.map_cons, h]; exact List.mem_cons_self), List.map_cons, h, List.idxOf_cons_self]
      show Sum.inr (Res.ok (D.int lo)) = Sum.inr (Res.ok (D.int (lo + ((0 : Nat) : Int))))
      rw [show lo + ((0 : Nat) : Int) = lo by omega]
    · rw [if_neg (by rw [decide_eq_true_eq]; exact h)]
      refine (find_loop r (lo + 1)).trans ?_
      by_cases y : z ∈ r.map F
      · rw [if_pos y, if_pos (by rw [List.map_cons]; exact List.mem_cons_of_mem _ y), List.map_cons, List.idxOf_cons, show (F x == z) = false from by simpa using h]
        show Sum.inr (Res.ok (D.int (lo + 1 + ((List.idxOf z (r.map F) : Nat) : Int)))) = Sum.inr (Res.ok (D.int (lo + ((List.idxOf z (r.map F) + 1 : Nat) : Int))))
        rw [show lo + 1 + ((List.idxOf z (r.map F) : Nat) : Int) = lo + ((List.idxOf z (r.map F) + 1 : Nat) : Int) by omega]
      · rw [if_neg y, if_neg (by rw [List.map_cons]; exact fun q => (List.mem_cons.mp q).elim (fun e => h e.symm) y)]
theorem find_out {α : Type} {F : α → Str} {z : Str} {xs : List α} {cA : Addr} {r : Res} (h : loopX (fun (q : Int × α) (_ : Unit) => if decide (F q.2 = z) = true then some (.ok (.int q.1)) else none) (fun _ s => s) (enumL xs) () = .inr r) : findR cA (xs.map F) z = r := by
  have e := (find_loop (F := F) (z := z) xs 0).symm.trans h
  unfold findR
  split at e
  · rename_i y
    rw [if_pos y]
    cases e
    rw [show (0 : Int) + ((List.idxOf z (xs.map F) : Nat) : Int) = ((List.idxOf z (xs.map F) : Nat) : Int) by omega]
  · cases e
theorem find_in {α : Type} {F : α → Str} {z : Str} {xs : List α} {cA : Addr} {u : Unit} (h : loopX (fun (q : Int × α) (_ : Unit) => if decide (F q.2 = z) = true then some (.ok (.int q.1)) else none) (fun _ s => s) (enumL xs) () = .inl u) : findR cA (xs.map F) z = .er (.ref cA) none := by
  have e := (find_loop (F := F) (z := z) xs 0).symm.trans h
  unfold findR
  split at e
  · cases e
  · rename_i y
    rw [if_neg y]
section
local macro_rules | `(tactic| walk_at "tgt") => `(tactic| (refine pairF ?_ ?_; walk_at "len"; walk_at "len"))
local macro_rules | `(tactic| walk_at "flen") => `(tactic| exact h0)
local macro_rules | `(tactic| walk_at "ix") => `(tactic| exact ixd_tup (ds := _ :: _) rfl)
abbrev s_Machine_deed : Stmt := inCls (topS 16) 3
theorem sc_Machine_deed : FnScope ["self", "name", "number", "deed"] ["self", "name"] (defScope s_Machine_deed) := ⟨rfl, rfl, rfl, by decide +kernel, rfl, by decide +kernel, by decide +kernel⟩
def S_Machine_deed (cA_Machine : Addr) (cA_NoSuchDeed : Addr) : List D → Res → Prop := fun ds r => ∃ (m : Mach) (z : Str), ds = [.obj cA_Machine (machF m), .str z] ∧ z.length ≤ 100000 ∧ r = findR cA_NoSuchDeed (m.deeds.map fun c => c.name) z
theorem fm_Machine_deed {f : Addr} {fd : FuncData} (hM : Meth K cA_Machine "deed" f) (F : Fun K "deed" "Machine.deed" s_Machine_deed f fd) (hb : Binds K fd ["self", "name"] []) (T : Txt mg)  (X_NoSuchDeed : XF K mg "NoSuchDeed" cA_NoSuchDeed) (cl_Machine : Cls K cA_Machine) (na_Machine_deeds : NoAttr K cA_Machine "deeds") : FM P w K mg base 1 cA_Machine "deed" 2 (S_Machine_deed cA_Machine cA_NoSuchDeed) := by
  refine fm_of (N := ["self", "name", "number", "deed"]) hM F hb sc_Machine_deed (by decide) ?_
  intro cdv A outer s0_ H E ds r hr hl hS
  obtain ⟨m, z, rfl, h0, rfl⟩ := hS
  show SDs _ _ [.val (.obj cA_Machine (machF m)), .val (.str z), .no, .no] _ _
  refine sds_loop (fun (_ : Unit) => [.val (.obj cA_Machine (machF m)), .val (.str z), .no, .no]) (fun (q : Int × Deed) (_ : Unit) => if decide (q.2.name = z) = true then some (.ok (.int q.1)) else none) (fun _ s => s) (fun _ _ => True) () (by walk_at "pass") rfl (by first | exact wd_enumT (ed_fld (ed_var 0 rfl rfl (by walk_at "vis")) cl_Machine na_Machine_deeds rfl) rfl T.m_enumerate | exact wd_enumLs (ed_fld (ed_var 0 rfl rfl (by walk_at "vis")) cl_Machine na_Machine_deeds rfl) rfl T.m_enumerate) (td_pair 2 3 rfl sc_Machine_deed.nd rfl (by walk_at "loc") rfl (by walk_at "loc")) (by repeat first | exact Wk.nil | refine Wk.no ?_ | refine Wk.eq ?_ | refine Wk.frz ?_ | (refine Wk.eq' ?hh ?_; (case hh => first | (simp only [List.map_append, List.map_cons, List.map_nil, if_true, if_false, and_self, and_true, true_and, and_false, false_and, not_true_eq_false, not_false_eq_true, reduceIte]; done) | (simp []; done))) | (refine Wk.frzE ?hh ?_; (case hh => first | (simp only [List.map_append, List.map_cons, List.map_nil, if_true, if_false, and_self, and_true, true_and, and_false, false_and, not_true_eq_false, not_false_eq_true, reduceIte]; done) | (simp []; done)))) (by trivial) ?_ ?_ ?_ ?_
  · intro i q u hx hP
    refine ⟨_, (by walk_at "tgt"), ?_⟩
    refine sds_if (et_cmp (ed_ix (ed_var 3 rfl rfl (by walk_at "vis")) ed_int (by walk_at "ix")) (ed_var 1 rfl rfl (by walk_at "vis")) (by walk_at "cmpEq")) (fun hc1 => ?_) (fun hc1 => ?_)
    · have hc1d := hc1
      try simp only [Bool.and_eq_true, Bool.or_eq_true, decide_eq_true_eq, decide_eq_false_iff_not, Bool.not_eq_true', Bool.not_eq_false', Bool.and_eq_false_iff, Bool.or_eq_false_iff] at hc1d
      refine sds_ret (ed_var 2 rfl rfl (by walk_at "vis")) ?_
      exact if_pos hc1
    · have hc1d := hc1
      try simp only [Bool.and_eq_true, Bool.or_eq_true, decide_eq_true_eq, decide_eq_false_iff_not, Bool.not_eq_true', Bool.not_eq_false', Bool.and_eq_false_iff, Bool.or_eq_false_iff] at hc1d
      refine sds_go ?_
      refine sds_nil ⟨⟨?_, ?_⟩, rfl⟩ ?_
      · exact if_neg (by rw [hc1]; exact Bool.false_ne_true)
      · trivial
      · repeat first | exact Wk.nil | refine Wk.no ?_ | refine Wk.eq ?_ | refine Wk.frz ?_ | (refine Wk.eq' ?hh ?_; (case hh => first | (simp only [hc1d, hc1, List.map_append, List.map_cons, List.map_nil, if_true, if_false, and_self, and_true, true_and, and_false, false_and, not_true_eq_false, not_false_eq_true, reduceIte]; done) | (simp [hc1d, hc1]; done))) | (refine Wk.frzE ?hh ?_; (case hh => first | (simp only [hc1d, hc1, List.map_append, List.map_cons, List.map_nil, if_true, if_false, and_self, and_true, true_and, and_false, false_and, not_true_eq_false, not_false_eq_true, reduceIte]; done) | (simp [hc1d, hc1]; done)))
  · intro u hP hL
    have hno := find_in (F := fun c : Deed => c.name) (cA := cA_NoSuchDeed) hL
    refine sds_raise rfl (takes_of rfl rfl rfl rfl) X_NoSuchDeed rfl (es_joined (.cons (.txt ed_str (by decide +kernel)) (.cons (by first | exact .str (ed_var 1 rfl rfl (by walk_at "vis")) (by walk_at "flen") | exact .int (ed_var 1 rfl rfl (by walk_at "vis")) (by walk_at "fint")) .nil))) ?_
    exact hno
  · intro d hL q_
    exact find_out (F := fun c : Deed => c.name) hL
  · intro _ c fs hL
    exact find_out (F := fun c : Deed => c.name) hL
end

def goodR (b v : Int) : Bool := ((decide ((3 : Int) ≤ b) && decide (b ≤ 5)) && ((decide ((1 : Int) ≤ v) && decide (v ≤ 4)) && decide (12 * b * (b - 1) * v ≤ 400)))
theorem rtf_er {cA cF : Addr} {b v : Int} {c : Value} {fs : Option (List (Str × D))} (hb : 0 ≤ b ∧ b < 7) (hv : 0 ≤ v ∧ v < 6) (h : newRt cA cF b v = .er c fs) : c = .ref cA ∧ fs = none ∧ goodR b v = false := by
  unfold newRt rtN at h
  unfold goodR
  have h1 : b = 0 ∨ b = 1 ∨ b = 2 ∨ b = 3 ∨ b = 4 ∨ b = 5 ∨ b = 6 := by omega
  have h2 : v = 0 ∨ v = 1 ∨ v = 2 ∨ v = 3 ∨ v = 4 ∨ v = 5 := by omega
  rcases h1 with rfl | rfl | rfl | rfl | rfl | rfl | rfl <;> rcases h2 with rfl | rfl | rfl | rfl | rfl | rfl <;> first | (cases h; exact ⟨rfl, rfl, by decide⟩) | cases h
theorem rtf_ok {cA cF : Addr} {b v : Int} {d : D} (hb : 0 ≤ b ∧ b < 7) (hv : 0 ≤ v ∧ v < 6) (h : newRt cA cF b v = .ok d) : ∃ m n : Nat, b = (m : Int) ∧ v = (n : Int) ∧ RtGood m n ∧ d = .obj cF (rtF m n) ∧ goodR b v = true := by
  unfold newRt rtN at h
  unfold goodR
  have h1 : b = 0 ∨ b = 1 ∨ b = 2 ∨ b = 3 ∨ b = 4 ∨ b = 5 ∨ b = 6 := by omega
  have h2 : v = 0 ∨ v = 1 ∨ v = 2 ∨ v = 3 ∨ v = 4 ∨ v = 5 := by omega
  rcases h1 with rfl | rfl | rfl | rfl | rfl | rfl | rfl <;> rcases h2 with rfl | rfl | rfl | rfl | rfl | rfl <;> first | (cases h; done) | (cases h; first | exact ⟨3, 1, rfl, rfl, by unfold RtGood; decide, rfl, by decide⟩ | exact ⟨3, 2, rfl, rfl, by unfold RtGood; decide, rfl, by decide⟩ | exact ⟨3, 3, rfl, rfl, by unfold RtGood; decide, rfl, by decide⟩ | exact ⟨3, 4, rfl, rfl, by unfold RtGood; decide, rfl, by decide⟩ | exact ⟨4, 1, rfl, rfl, by unfold RtGood; decide, rfl, by decide⟩ | exact ⟨4, 2, rfl, rfl, by unfold RtGood; decide, rfl, by decide⟩ | exact ⟨5, 1, rfl, rfl, by unfold RtGood; decide, rfl, by decide⟩)
def stpR (ns : List Int) (k : Int) : Int := cell ns (3 + k % 50) + k / 50
def nxtR (ns : List Int) (b v : Nat) (t : List Int) (k : Int) : List Int := lup b t (stpR ns k % (v : Int)) (decide (stpR ns k / 4 % 3 = 1))
/-! can_do, told without the checks' order -/
def diskB (m : Mach) (disk : List Int) : Bool := decide ((disk.length : Int) = (m.cells.length : Int)) && (m.cells.zip disk).all inCell
theorem chk_disk (cD : Addr) (m : Mach) (disk : List Int) : chkDisk cD m disk = if diskB m disk = true then .ok .non else .er (.ref cD) none := by
  unfold chkDisk diskB
  cases decide ((disk.length : Int) = (m.cells.length : Int)) <;> cases (m.cells.zip disk).all inCell <;> rfl
theorem chk_deed (cN : Addr) (m : Mach) (k : Int) : chkDeed cN m k = if 0 ≤ k ∧ k < m.deeds.length then .ok .non else .er (.ref cN) none := by
  unfold chkDeed
  by_cases c : 0 ≤ k ∧ k < m.deeds.length
  · rw [if_pos c, decide_eq_true c.1, decide_eq_true c.2]; rfl
  · rw [if_neg c]
    refine if_pos ?_
    by_cases a : 0 ≤ k
    · rw [decide_eq_false (p := k < (m.deeds.length : Int)) (fun z => c ⟨a, z⟩), Bool.and_false]; rfl
    · rw [decide_eq_false a]; rfl
theorem can_all (cD cN : Addr) (m : Mach) (disk : List Int) (k : Int) : canDo cD cN m disk k = if diskB m disk = true then (if 0 ≤ k ∧ k < m.deeds.length then .ok (.bl (allowsB (m.deeds.getD k.toNat default) disk)) else .er (.ref cN) none) else .er (.ref cD) none := by
  unfold canDo
  rw [chk_disk, chk_deed]
  by_cases a : diskB m disk = true
  · rw [if_pos a, if_pos a]
    by_cases b : 0 ≤ k ∧ k < m.deeds.length
    · rw [if_pos b, if_pos b]
    · rw [if_neg b, if_neg b]
  · rw [if_neg a, if_neg a]
/-! roots: the machine of a good form, and the law's own list of its deeds -/
def rtB (b v : Nat) : Prop := (((1 ≤ (rtCs b v).length ∧ (rtCs b v).length ≤ 24) ∧ (∀ c ∈ rtCs b v, okCell c = true) ∧ ((rtCs b v).map fun c => c.1).Nodup) ∧ (rtDl b v).length ≤ 400 ∧ fitsB (fullOf (rtCs b v)) (rtFi b) = true) ∧ (∀ d ∈ rtDl b v, okDeed (fullOf (rtCs b v)) d = true)
instance (b v : Nat) : Decidable (rtB b v) := by unfold rtB; infer_instance
theorem rtB_31 : rtB 3 1 := by decide +kernel
theorem rtB_32 : rtB 3 2 := by decide +kernel
theorem rtB_33 : rtB 3 3 := by decide +kernel
theorem rtB_34 : rtB 3 4 := by decide +kernel
theorem rtB_41 : rtB 4 1 := by decide +kernel
theorem rtB_42 : rtB 4 2 := by decide +kernel
theorem rtB_51 : rtB 5 1 := by decide +kernel
def codeN (l : List Nat) : Nat := l.foldl (fun n c => n * 128 + c) 1
/-- deeds' names, in the order in which they stand -/
def keyN (s : Str) : Nat := match s.cps.toList with
  | c0 :: r => codeN r * 256 + (128 - c0)
  | _ => 0
def incrB : List Nat → Bool
  | a :: b :: r => Nat.blt a b && incrB (b :: r)
  | _ => true
theorem incr_lt : ∀ {l : List Nat} {a : Nat}, incrB (a :: l) = true → ∀ b ∈ l, a < b
  | [], _, _, b, hb => by cases hb
  | x :: r, a, h, b, hb => by
    have h' : (Nat.blt a x && incrB (x :: r)) = true := h
    rw [Bool.and_eq_true] at h'
    have h1 : a < x := by
      have := h'.1
      rw [Nat.blt_eq] at this
      exact this
    rcases List.mem_cons.mp hb with e | e
    · rw [e]; exact h1
    · exact Nat.lt_trans h1 (incr_lt h'.2 b e)
theorem incr_nodup : ∀ {l : List Str}, incrB (l.map keyN) = true → l.Nodup
  | [], _ => List.nodup_nil
  | x :: r, h => by
    refine List.nodup_cons.mpr ⟨fun hm => ?_, incr_nodup ?_⟩
    · have := incr_lt (show incrB (keyN x :: r.map keyN) = true from h) (keyN x) (List.mem_map.mpr ⟨x, hm, rfl⟩)
      omega
    · cases r with
      | nil => rfl
      | cons y t =>
        have h' : (Nat.blt (keyN x) (keyN y) && incrB ((y :: t).map keyN)) = true := h
        rw [Bool.and_eq_true] at h'
        exact h'.2
def rtND (b v : Nat) : Bool := incrB ((rtDl b v).map fun d => keyN d.name)
theorem rtND_31 : rtND 3 1 = true := by decide +kernel
theorem rtND_32 : rtND 3 2 = true := by decide +kernel
theorem rtND_33 : rtND 3 3 = true := by decide +kernel
theorem rtND_34 : rtND 3 4 = true := by decide +kernel
theorem rtND_41 : rtND 4 1 = true := by decide +kernel
theorem rtND_42 : rtND 4 2 = true := by decide +kernel
theorem rtND_51 : rtND 5 1 = true := by decide +kernel
theorem rt_good {b v : Nat} (h : RtGood b v) : GoodM (rtCs b v) (rtDl b v) (rtFi b) := by
  have q := rt_cases (p := rtB) h rtB_31 rtB_32 rtB_33 rtB_34 rtB_41 rtB_42 rtB_51
  have n := rt_cases (p := fun b v => rtND b v = true) h rtND_31 rtND_32 rtND_33 rtND_34 rtND_41 rtND_42 rtND_51
  exact ⟨q.1.1.1, q.1.1.2.1, q.1.1.2.2, q.1.2.1, q.2, incr_nodup (by rw [List.map_map]; exact n), q.1.2.2⟩
def rtM (b v : Nat) : Mach := ⟨rtCs b v, rtDl b v, rtFi b, fullOf (rtCs b v)⟩
theorem rt_mach {b v : Nat} (h : RtGood b v) (cA cM : Addr) : newMach cA cM (rtCs b v) (rtDl b v) (rtFi b) = .ok (.obj cM (machF (rtM b v))) := newM_ok (rt_good h)
def triD (d : Deed) : Str × List (Int × Int) × List (Int × Str × Int) := (d.name, d.guard, d.changes)
theorem triD_inj : ∀ {l m : List Deed}, l.map triD = m.map triD → l = m
  | [], [], _ => rfl
  | [], _ :: _, h => by cases h
  | _ :: _, [], h => by cases h
  | ⟨a, b, c⟩ :: l, ⟨a', b', c'⟩ :: m, h => by
    rw [List.map_cons, List.map_cons] at h
    injection h with h1 h2
    unfold triD at h1
    injection h1 with e1 h1
    injection h1 with e2 e3
    dsimp only at e1 e2 e3
    subst e1; subst e2; subst e3
    rw [triD_inj h2]
def rtEq (b v : Nat) : Prop := (rtDl b v).map triD = (ltD b v).map triD
instance (b v : Nat) : Decidable (rtEq b v) := by unfold rtEq; infer_instance
theorem rtEq_31 : rtEq 3 1 := by decide +kernel
theorem rtEq_32 : rtEq 3 2 := by decide +kernel
theorem rtEq_33 : rtEq 3 3 := by decide +kernel
theorem rtEq_34 : rtEq 3 4 := by decide +kernel
theorem rtEq_41 : rtEq 4 1 := by decide +kernel
theorem rtEq_42 : rtEq 4 2 := by decide +kernel
theorem rtEq_51 : rtEq 5 1 := by decide +kernel
theorem rt_deeds {b v : Nat} (h : RtGood b v) : rtDl b v = ltD b v := triD_inj (rt_cases (p := rtEq) h rtEq_31 rtEq_32 rtEq_33 rtEq_34 rtEq_41 rtEq_42 rtEq_51)
/-! roots: disks that come about -/
structure VR (b v : Nat) (t : List Int) : Prop where
  len : t.length = 4 + b
  g0 : 0 ≤ t.getD (0 : Int).toNat default ∧ t.getD (0 : Int).toNat default < 3
  g1 : 0 ≤ t.getD (1 : Int).toNat default ∧ t.getD (1 : Int).toNat default < 3
  gg : t.getD (1 : Int).toNat default = (t.getD (0 : Int).toNat default + 1) % 3 ∨ t.getD (0 : Int).toNat default = (t.getD (1 : Int).toNat default + 1) % 3
  p2 : 0 ≤ t.getD (2 : Int).toNat default ∧ t.getD (2 : Int).toNat default < (b : Int)
  p3 : 0 ≤ t.getD (3 : Int).toNat default ∧ t.getD (3 : Int).toNat default < (b : Int)
  pp : t.getD (2 : Int).toNat default ≠ t.getD (3 : Int).toNat default
theorem newR_is {b v : Nat} {t : List Int} (h : VR b v t) : newR t = lnw t := by
  have h0 := h.g0; have h1 := h.g1
  unfold newR lnw
  rcases h.gg with e | e
  · rw [if_neg (by intro z; have := of_decide_eq_true z; omega), if_pos (decide_eq_true e)]
  · rw [if_pos (decide_eq_true e), if_neg (by intro z; have := of_decide_eq_true z; omega)]
theorem rv_is {b v : Nat} {t : List Int} (h : VR b v t) (fm : Bool) : rvR t fm = lvl t fm := by
  unfold rvR lvl
  rw [newR_is h]
  cases fm with
  | true =>
    rw [if_pos rfl, if_pos rfl, show (2 : Int) + (1 - lnw t) = 3 - lnw t from by omega]
  | false =>
    rw [if_neg (by decide), if_neg (by decide)]
theorem up_is {b v : Nat} {t : List Int} (h : VR b v t) (hb : 3 ≤ b) (x : Int) (tn : Bool) : wrL t (rupP b t x tn) = lup b t x tn := by
  have hf := fre_in (t := t) hb (by have := h.len; omega)
  have h01 := lnw_01 t
  unfold rupP lup
  rw [newR_is h, lbk_is]
  cases tn with
  | true =>
    rw [if_neg (by decide), if_neg (by decide)]
    rfl
  | false =>
    rw [if_pos (show (!false) = true from rfl), if_pos (show (!false) = true from rfl)]
    show ((t.set (1 - lnw t).toNat ((t.getD (lnw t).toNat default + 1) % 3)).set (2 + (1 - lnw t)).toNat (freB b t)).set (4 + freB b t).toNat x = _
    rw [show (2 : Int) + (1 - lnw t) = 3 - lnw t from by omega, List.set_comm _ _ (show (3 - lnw t).toNat ≠ (4 + freB b t).toNat by omega), List.set_comm _ _ (show (1 - lnw t).toNat ≠ (4 + freB b t).toNat by omega)]
theorem set_ne {t : List Int} {i j : Nat} {y : Int} (h : i ≠ j) : (t.set i y).getD j default = t.getD j default := by
  rw [List.getD_eq_getElem?_getD, List.getD_eq_getElem?_getD, List.getElem?_set_ne h]
theorem set_at {t : List Int} {i : Nat} {y : Int} (h : i < t.length) : (t.set i y).getD i default = y := by
  rw [List.getD_eq_getElem?_getD, List.getElem?_set_self h]; rfl
theorem free_ne {b : Nat} {t : List Int} (hb : 3 ≤ b) (h4 : 4 ≤ t.length) : freB b t ≠ t.getD (2 : Int).toNat default ∧ freB b t ≠ t.getD (3 : Int).toNat default := by
  have := (fr_min hb h4).1
  unfold frL at this
  have := (List.mem_filter.mp this).2
  have e : RW.cut t (some 2) (some (2 + 2)) = [t.getD (2 : Int).toNat default, t.getD (3 : Int).toNat default] := by
    match t, h4 with
    | a :: b :: c :: d :: r, _ =>
      unfold RW.cut
      rw [show (some (2 + 2) : Option Int) = some ((4 : Nat) : Int) from rfl, show (some 2 : Option Int) = some ((2 : Nat) : Int) from rfl, HT.sIx_nat, HT.sIx_nat]
      have e1 : min 4 (a :: b :: c :: d :: r).length = 4 := Nat.min_eq_left (by simp)
      have e2 : min 2 (a :: b :: c :: d :: r).length = 2 := Nat.min_eq_left (by simp)
      rw [e1, e2]; rfl
  rw [e] at this
  simpa using this
theorem vr_tear {b v : Nat} {t : List Int} (h : VR b v t) {k x : Int} (hk : 0 ≤ k) : VR b v (t.set (4 + k).toNat x) := by
  have q (j : Int) (hj : 0 ≤ j ∧ j < 4) : (t.set (4 + k).toNat x).getD j.toNat default = t.getD j.toNat default := set_ne (by omega)
  exact ⟨by rw [List.length_set]; exact h.len, by rw [q 0 (by decide)]; exact h.g0, by rw [q 1 (by decide)]; exact h.g1, by rw [q 0 (by decide), q 1 (by decide)]; exact h.gg, by rw [q 2 (by decide)]; exact h.p2, by rw [q 3 (by decide)]; exact h.p3, by rw [q 2 (by decide), q 3 (by decide)]; exact h.pp⟩
theorem vr_up {b v : Nat} {t : List Int} (h : VR b v t) {f : Int} (hf : 0 ≤ f ∧ f < (b : Int)) (h2 : f ≠ t.getD (2 : Int).toNat default) (h3 : f ≠ t.getD (3 : Int).toNat default) : VR b v ((t.set (1 - lnw t).toNat ((t.getD (lnw t).toNat default + 1) % 3)).set (3 - lnw t).toNat f) := by
  have hl := h.len
  have g0 := h.g0; have g1 := h.g1; have p2 := h.p2; have p3 := h.p3
  have hb : 0 < b := by omega
  rcases lnw_01 t with e | e <;> rw [e]
  · show VR b v ((t.set 1 ((t.getD 0 default + 1) % 3)).set 3 f)
    refine ⟨by rw [List.length_set, List.length_set]; exact hl, ?_, ?_, ?_, ?_, ?_, ?_⟩
    · show 0 ≤ ((t.set 1 _).set 3 f).getD 0 default ∧ ((t.set 1 _).set 3 f).getD 0 default < 3
      rw [set_ne (by decide), set_ne (by decide)]; exact g0
    · show 0 ≤ ((t.set 1 _).set 3 f).getD 1 default ∧ ((t.set 1 _).set 3 f).getD 1 default < 3
      rw [set_ne (by decide), set_at (by omega)]; omega
    · refine .inl ?_
      show ((t.set 1 _).set 3 f).getD 1 default = (((t.set 1 _).set 3 f).getD 0 default + 1) % 3
      rw [set_ne (by decide), set_at (by omega), set_ne (by decide), set_ne (by decide)]
    · show 0 ≤ ((t.set 1 _).set 3 f).getD 2 default ∧ ((t.set 1 _).set 3 f).getD 2 default < (b : Int)
      rw [set_ne (by decide), set_ne (by decide)]; exact p2
    · show 0 ≤ ((t.set 1 _).set 3 f).getD 3 default ∧ ((t.set 1 _).set 3 f).getD 3 default < (b : Int)
      rw [set_at (by rw [List.length_set]; omega)]; exact hf
    · show ((t.set 1 _).set 3 f).getD 2 default ≠ ((t.set 1 _).set 3 f).getD 3 default
      rw [set_ne (by decide), set_ne (by decide), set_at (by rw [List.length_set]; omega)]; exact fun z => h2 z.symm
  · show VR b v ((t.set 0 ((t.getD 1 default + 1) % 3)).set 2 f)
    refine ⟨by rw [List.length_set, List.length_set]; exact hl, ?_, ?_, ?_, ?_, ?_, ?_⟩
    · show 0 ≤ ((t.set 0 _).set 2 f).getD 0 default ∧ ((t.set 0 _).set 2 f).getD 0 default < 3
      rw [set_ne (by decide), set_at (by omega)]; omega
    · show 0 ≤ ((t.set 0 _).set 2 f).getD 1 default ∧ ((t.set 0 _).set 2 f).getD 1 default < 3
      rw [set_ne (by decide), set_ne (by decide)]; exact g1
    · refine .inr ?_
      show ((t.set 0 _).set 2 f).getD 0 default = (((t.set 0 _).set 2 f).getD 1 default + 1) % 3
      rw [set_ne (by decide), set_at (by omega), set_ne (by decide), set_ne (by decide)]
    · show 0 ≤ ((t.set 0 _).set 2 f).getD 2 default ∧ ((t.set 0 _).set 2 f).getD 2 default < (b : Int)
      rw [set_at (by rw [List.length_set]; omega)]; exact hf
    · show 0 ≤ ((t.set 0 _).set 2 f).getD 3 default ∧ ((t.set 0 _).set 2 f).getD 3 default < (b : Int)
      rw [set_ne (by decide), set_ne (by decide)]; exact p3
    · show ((t.set 0 _).set 2 f).getD 2 default ≠ ((t.set 0 _).set 2 f).getD 3 default
      rw [set_at (by rw [List.length_set]; omega), set_ne (by decide), set_ne (by decide)]; exact h3
/-- contents are values of the form -/
def CV (v : Nat) (t : List Int) : Prop := ∀ k : Nat, 4 ≤ k → k < t.length → 0 ≤ t.getD k default ∧ t.getD k default < (v : Int)
theorem cv_low {v : Nat} {t : List Int} (h : CV v t) {j : Nat} {y : Int} (hj : j < 4) : CV v (t.set j y) := fun k h4 hl => by
  rw [List.length_set] at hl
  rw [set_ne (by omega)]; exact h k h4 hl
theorem cv_set {v : Nat} {t : List Int} (h : CV v t) {j : Nat} {y : Int} (hy : 0 ≤ y ∧ y < (v : Int)) : CV v (t.set j y) := fun k h4 hl => by
  rw [List.length_set] at hl
  by_cases e : j = k
  · subst e; rw [set_at hl]; exact hy
  · rw [set_ne e]; exact h k h4 hl
structure VD (b v : Nat) (t : List Int) : Prop where
  r : VR b v t
  c : CV v t
theorem lnw_low {t : List Int} {f : Int} {y : Int} (hf : 0 ≤ f) : lnw (t.set (4 + f).toNat y) = lnw t ∧ (t.set (4 + f).toNat y).getD (lnw t).toNat default = t.getD (lnw t).toNat default := by
  have q (j : Int) (hj : 0 ≤ j ∧ j < 4) : (t.set (4 + f).toNat y).getD j.toNat default = t.getD j.toNat default := set_ne (by omega)
  constructor
  · unfold lnw; rw [q 0 (by decide), q 1 (by decide)]
  · exact q _ (by rcases lnw_01 t with e | e <;> rw [e] <;> decide)
theorem lup_vd {b v : Nat} {t : List Int} (h : VD b v t) (hb : 3 ≤ b) {x : Int} (hx : 0 ≤ x ∧ x < (v : Int)) (tn : Bool) : VD b v (lup b t x tn) := by
  have hl := h.r.len
  have hf := fre_in (t := t) hb (by omega)
  obtain ⟨n2, n3⟩ := free_ne (t := t) hb (by omega)
  have r1 := vr_tear h.r (x := x) hf.1
  have c1 : CV v (t.set (4 + freB b t).toNat x) := cv_set h.c hx
  unfold lup
  rw [lbk_is]
  cases tn with
  | true => rw [if_neg (by decide)]; exact ⟨r1, c1⟩
  | false =>
    rw [if_pos (show (!false) = true from rfl)]
    obtain ⟨e1, e2⟩ := lnw_low (t := t) (y := x) hf.1
    have q (j : Int) (hj : 0 ≤ j ∧ j < 4) : (t.set (4 + freB b t).toNat x).getD j.toNat default = t.getD j.toNat default := set_ne (by omega)
    have r2 := vr_up r1 (f := freB b t) hf (by rw [q 2 (by decide)]; exact n2) (by rw [q 3 (by decide)]; exact n3)
    rw [e1, e2] at r2
    have h01 := lnw_01 t
    exact ⟨r2, cv_low (cv_low c1 (by omega)) (by omega)⟩
theorem vd_first {b v : Nat} (hb : 3 ≤ b) (hv : 1 ≤ v) : VD b v ([1, 0, 0, 1] ++ List.replicate b 0) := by
  refine ⟨⟨by rw [List.length_append, List.length_replicate]; rfl, (by decide : 0 ≤ (1 : Int) ∧ (1 : Int) < 3), (by decide : 0 ≤ (0 : Int) ∧ (0 : Int) < 3), .inr (show (1 : Int) = (0 + 1) % 3 by decide), ?_, ?_, (by decide : (0 : Int) ≠ 1)⟩, fun k h4 hl => ?_⟩
  · show 0 ≤ (0 : Int) ∧ (0 : Int) < (b : Int); omega
  · show 0 ≤ (1 : Int) ∧ (1 : Int) < (b : Int); omega
  · rw [List.length_append, List.length_replicate] at hl
    have hl : k < 4 + b := hl
    rw [List.getD_eq_getElem?_getD, List.getElem?_append_right (by show 4 ≤ k; exact h4), List.getElem?_replicate, if_pos (by show k - 4 < b; omega)]
    show 0 ≤ (0 : Int) ∧ (0 : Int) < (v : Int)
    omega
def skOf (t : List Int) : List Int := [t.getD (0 : Int).toNat default, t.getD (1 : Int).toNat default, t.getD (2 : Int).toNat default, t.getD (3 : Int).toNat default]
theorem sk_in {b v : Nat} {t : List Int} (h : VR b v t) : skOf t ∈ prsOf b (lnw t) (t.getD (0 : Int).toNat default) := by
  have g0 := h.g0; have g1 := h.g1
  unfold prsOf
  refine List.mem_flatMap.mpr ⟨t.getD (2 : Int).toNat default, rng_has h.p2, List.mem_map.mpr ⟨t.getD (3 : Int).toNat default, List.mem_filter.mpr ⟨rng_has h.p3, ?_⟩, ?_⟩⟩
  · have := h.pp
    simpa using this
  · have e : t.getD (1 : Int).toNat default = (t.getD (0 : Int).toNat default + (if (lnw t != 0) = true then 1 else -1)) % 3 := by
      by_cases z : t.getD (1 : Int).toNat default = (t.getD (0 : Int).toNat default + 1) % 3
      · have : lnw t = 1 := by unfold lnw; rw [if_pos (decide_eq_true z)]
        rw [this, if_pos (by decide)]; exact z
      · have q : lnw t = 0 := by unfold lnw; rw [if_neg (by intro k; exact z (of_decide_eq_true k))]
        rw [q, if_neg (by decide)]
        rcases h.gg with k | k
        · exact absurd k z
        · omega
    show [t.getD (0 : Int).toNat default, (t.getD (0 : Int).toNat default + (if (lnw t != 0) = true then 1 else -1)) % 3, _, _] = skOf t
    rw [← e]; rfl
/-! roots: the deeds that may be done, by the first four cells -/
def ltr (tn : Bool) : Str := if tn = true then "t" else "u"
def deedAt (b : Nat) (n : Int) (sk : List Int) (tn : Bool) (x : Int) : Deed := if tn = true then torT b n sk x else updT b n sk x
def skOne (b v : Nat) (n : Int) (tn : Bool) (sk : List Int) : Bool := decide (((rtDl b v).filter fun d => Txt.startswith d.name (ltr tn) && allowsB d sk).map triD = (rng 0 v).map fun x => triD (deedAt b n sk tn x))
def skAll (b v : Nat) (n : Int) : Bool := (rng 0 3).all fun g => (prsOf b n g).all fun sk => skOne b v n true sk && skOne b v n false sk
theorem sk_31_0 : skAll 3 1 0 = true := by decide +kernel
theorem sk_31_1 : skAll 3 1 1 = true := by decide +kernel
theorem sk_32_0 : skAll 3 2 0 = true := by decide +kernel
theorem sk_32_1 : skAll 3 2 1 = true := by decide +kernel
theorem sk_33_0 : skAll 3 3 0 = true := by decide +kernel
theorem sk_33_1 : skAll 3 3 1 = true := by decide +kernel
theorem sk_34_0 : skAll 3 4 0 = true := by decide +kernel
theorem sk_34_1 : skAll 3 4 1 = true := by decide +kernel
theorem sk_41_0 : skAll 4 1 0 = true := by decide +kernel
theorem sk_41_1 : skAll 4 1 1 = true := by decide +kernel
theorem sk_42_0 : skAll 4 2 0 = true := by decide +kernel
theorem sk_42_1 : skAll 4 2 1 = true := by decide +kernel
theorem sk_51_0 : skAll 5 1 0 = true := by decide +kernel
theorem sk_51_1 : skAll 5 1 1 = true := by decide +kernel
/-! roots: what the law asks at a disk -/
theorem sk_all {b v : Nat} (h : RtGood b v) {n : Int} (hn : n = 0 ∨ n = 1) : skAll b v n = true := by
  rcases hn with rfl | rfl
  · exact rt_cases (p := fun b v => skAll b v 0 = true) h sk_31_0 sk_32_0 sk_33_0 sk_34_0 sk_41_0 sk_42_0 sk_51_0
  · exact rt_cases (p := fun b v => skAll b v 1 = true) h sk_31_1 sk_32_1 sk_33_1 sk_34_1 sk_41_1 sk_42_1 sk_51_1
def gdB (b v : Nat) : Bool := (rtDl b v).all fun d => d.guard.all fun q => decide (q.1 = 0) || decide (q.1 = 1) || decide (q.1 = 2) || decide (q.1 = 3)
theorem gd_31 : gdB 3 1 = true := by decide +kernel
theorem gd_32 : gdB 3 2 = true := by decide +kernel
theorem gd_33 : gdB 3 3 = true := by decide +kernel
theorem gd_34 : gdB 3 4 = true := by decide +kernel
theorem gd_41 : gdB 4 1 = true := by decide +kernel
theorem gd_42 : gdB 4 2 = true := by decide +kernel
theorem gd_51 : gdB 5 1 = true := by decide +kernel
theorem allows_sk {b v : Nat} (h : RtGood b v) {t : List Int} {d : Deed} (hd : d ∈ rtDl b v) : allowsB d t = allowsB d (skOf t) := by
  have g := rt_cases (p := fun b v => gdB b v = true) h gd_31 gd_32 gd_33 gd_34 gd_41 gd_42 gd_51
  have g := List.all_eq_true.mp g d hd
  unfold allowsB
  have e : ∀ q ∈ d.guard, (skOf t).getD q.1.toNat default = t.getD q.1.toNat default := fun q hq => by
    have g := List.all_eq_true.mp g q hq
    simp only [Bool.or_eq_true, decide_eq_true_eq] at g
    rcases g with ((g | g) | g) | g <;> rw [g] <;> rfl
  rw [Bool.eq_iff_iff, List.all_eq_true, List.all_eq_true]
  constructor
  · intro z q hq; have := z q hq; rw [e q hq]; exact this
  · intro z q hq; have := z q hq; rw [e q hq] at this; exact this
theorem sk_deeds {b v : Nat} (h : RtGood b v) {t : List Int} (hP : VD b v t) (tn : Bool) : ((rtDl b v).filter fun d => Txt.startswith d.name (ltr tn) && allowsB d t) = (rng 0 v).map fun x => deedAt b (lnw t) (skOf t) tn x := by
  rw [List.filter_congr fun d hd => by rw [allows_sk (t := t) h hd]]
  refine triD_inj ?_
  rw [List.map_map]
  have g := sk_all h (lnw_01 t)
  unfold skAll at g
  have g := List.all_eq_true.mp (List.all_eq_true.mp g _ (rng_has hP.r.g0)) _ (sk_in hP.r)
  rw [Bool.and_eq_true] at g
  cases tn with
  | true => exact of_decide_eq_true g.1
  | false => exact of_decide_eq_true g.2
theorem deedAt_in {b v : Nat} (h : RtGood b v) {t : List Int} (hP : VD b v t) {x : Int} (hx : 0 ≤ x ∧ x < (v : Int)) (tn : Bool) : deedAt b (lnw t) (skOf t) tn x ∈ rtDl b v ∧ allowsB (deedAt b (lnw t) (skOf t) tn x) t = true := by
  have m : deedAt b (lnw t) (skOf t) tn x ∈ (rng 0 v).map fun x => deedAt b (lnw t) (skOf t) tn x := List.mem_map.mpr ⟨x, rng_has hx, rfl⟩
  rw [← sk_deeds h hP tn] at m
  have m := List.mem_filter.mp m
  exact ⟨m.1, (Bool.and_eq_true_iff.mp m.2).2⟩
theorem cut_sk {t : List Int} (h4 : 4 ≤ t.length) : RW.cut (skOf t) (some 2) (some (2 + 2)) = RW.cut t (some 2) (some (2 + 2)) := by
  match t, h4 with
  | a :: b :: c :: d :: r, _ =>
    have e : ∀ r : List Int, RW.cut (a :: b :: c :: d :: r) (some 2) (some (2 + 2)) = [c, d] := fun r => by
      unfold RW.cut
      rw [show (some (2 + 2) : Option Int) = some ((4 : Nat) : Int) from rfl, show (some 2 : Option Int) = some ((2 : Nat) : Int) from rfl, HT.sIx_nat, HT.sIx_nat]
      have e1 : min 4 (a :: b :: c :: d :: r).length = 4 := Nat.min_eq_left (by simp)
      have e2 : min 2 (a :: b :: c :: d :: r).length = 2 := Nat.min_eq_left (by simp)
      rw [e1, e2]; rfl
    exact (e []).trans (e r).symm
theorem fre_sk (b : Nat) {t : List Int} (h4 : 4 ≤ t.length) : freB b (skOf t) = freB b t := by
  unfold freB frL; rw [cut_sk h4]
theorem ch_wr (n : Str) (g ps : List (Int × Int)) (x : List Int) : changedL ⟨n, g, chOf ps⟩ x = wrL x ps := by
  unfold changedL chOf wrL
  rw [List.foldl_map]
  rfl
theorem at_lup {b v : Nat} (h : RtGood b v) {t : List Int} (hP : VD b v t) (x : Int) (tn : Bool) : changedL (deedAt b (lnw t) (skOf t) tn x) t = lup b t x tn := by
  have h4 : 4 ≤ t.length := by have := hP.r.len; omega
  rw [← up_is hP.r h.ok.1.1 x tn]
  unfold deedAt rupP
  rw [newR_is hP.r]
  cases tn with
  | true =>
    rw [if_pos rfl, if_neg (by decide)]
    show changedL ⟨_, _, chOf (tornP b (skOf t) x)⟩ t = _
    rw [ch_wr]
    unfold tornP
    rw [fre_sk b h4]
  | false =>
    rw [if_neg (by decide), if_pos (show (!false) = true from rfl)]
    show changedL ⟨_, _, chOf (updP b (lnw t) (skOf t) ++ tornP b (skOf t) x)⟩ t = _
    rw [ch_wr]
    unfold tornP updP
    rw [fre_sk b h4]
    have e : (skOf t).getD (lnw t).toNat default = t.getD (lnw t).toNat default := by rcases lnw_01 t with e | e <;> rw [e] <;> rfl
    rw [e]
/-! names -/
def nmL (tn : Bool) (n g p q x : Int) : Str := ((((ltr tn ++ (toString n : Str)) ++ (toString g : Str)) ++ (toString p : Str)) ++ (toString q : Str)) ++ (toString x : Str)
theorem nm_fin : ((rng 0 2).all fun n => (rng 0 3).all fun g => (rng 0 5).all fun p => (rng 0 5).all fun q => (rng 0 4).all fun x => decide (nmL true n g p q x = nmR "t" n g p q x) && decide (nmL false n g p q x = nmR "u" n g p q x)) = true := by decide +kernel
theorem nm_is {n g p q x : Int} (hn : 0 ≤ n ∧ n < 2) (hg : 0 ≤ g ∧ g < 3) (hp : 0 ≤ p ∧ p < 5) (hq : 0 ≤ q ∧ q < 5) (hx : 0 ≤ x ∧ x < 4) (tn : Bool) : nmL tn n g p q x = nmR (ltr tn) n g p q x := by
  have z := List.all_eq_true.mp (List.all_eq_true.mp (List.all_eq_true.mp (List.all_eq_true.mp (List.all_eq_true.mp nm_fin n (rng_has hn)) g (rng_has hg)) p (rng_has hp)) q (rng_has hq)) x (rng_has hx)
  rw [Bool.and_eq_true] at z
  cases tn with
  | true => exact of_decide_eq_true z.1
  | false => exact of_decide_eq_true z.2
theorem at_name {b v : Nat} (h : RtGood b v) {t : List Int} (hP : VD b v t) {x : Int} (hx : 0 ≤ x ∧ x < (v : Int)) (tn : Bool) : (deedAt b (lnw t) (skOf t) tn x).name = nmL tn (lnw t) (t.getD (0 : Int).toNat default) (t.getD (2 : Int).toNat default) (t.getD (3 : Int).toNat default) x := by
  have h0 := h.ok
  have p2 := hP.r.p2; have p3 := hP.r.p3
  rw [nm_is (by rcases lnw_01 t with e | e <;> omega) hP.r.g0 (by omega) (by omega) (by omega)]
  unfold deedAt
  cases tn <;> rfl
/-! the list of the deeds that may be done -/
theorem rng_getD {dl : List Deed} : (rng 0 dl.length).map (fun j => dl.getD j.toNat default) = dl := by
  refine List.ext_getElem (by rw [List.length_map, rng_len]) fun i h1 h2 => ?_
  rw [List.getElem_map]
  have e : (rng 0 dl.length)[i]'(by rw [rng_len]; exact h2) = (i : Int) := by unfold rng; rw [List.getElem_map, List.getElem_range]; omega
  rw [e, Int.toNat_natCast, List.getD_eq_getElem?_getD, List.getElem?_eq_getElem h2]; rfl
def ablL (b v : Nat) (t : List Int) (tn : Bool) : List Str := ((rng 0 (rtDl b v).length).filter fun j => Txt.startswith ((rtDl b v).getD j.toNat default).name (ltr tn) && allowsB ((rtDl b v).getD j.toNat default) t).map fun j => ((rtDl b v).getD j.toNat default).name
theorem abl_is {b v : Nat} (h : RtGood b v) {t : List Int} (hP : VD b v t) (tn : Bool) : ablL b v t tn = (rng 0 v).map fun x => (deedAt b (lnw t) (skOf t) tn x).name := by
  have e : ablL b v t tn = (((rng 0 (rtDl b v).length).map fun j => (rtDl b v).getD j.toNat default).filter fun d => Txt.startswith d.name (ltr tn) && allowsB d t).map fun d => d.name := by
    rw [List.filter_map, List.map_map]; rfl
  rw [e, rng_getD, sk_deeds h hP, List.map_map]; rfl
theorem abl_len {b v : Nat} (h : RtGood b v) {t : List Int} (hP : VD b v t) (tn : Bool) : (ablL b v t tn).length = v := by rw [abl_is h hP, List.length_map, rng_len]
theorem abl_in {b v : Nat} (h : RtGood b v) {t : List Int} (hP : VD b v t) {x : Int} (hx : 0 ≤ x ∧ x < (v : Int)) (tn : Bool) : nmL tn (lnw t) (t.getD (0 : Int).toNat default) (t.getD (2 : Int).toNat default) (t.getD (3 : Int).toNat default) x ∈ ablL b v t tn := by
  rw [abl_is h hP, ← at_name h hP hx]
  exact List.mem_map.mpr ⟨x, rng_has hx, rfl⟩
/-! the disk, the deed by its name -/
def szB (b v : Nat) : Bool := decide ((rtCs b v).map (·.2) = [3, 3, (b : Int), (b : Int)] ++ List.replicate b (v : Int))
theorem sz_31 : szB 3 1 = true := by decide +kernel
theorem sz_32 : szB 3 2 = true := by decide +kernel
theorem sz_33 : szB 3 3 = true := by decide +kernel
theorem sz_34 : szB 3 4 = true := by decide +kernel
theorem sz_41 : szB 4 1 = true := by decide +kernel
theorem sz_42 : szB 4 2 = true := by decide +kernel
theorem sz_51 : szB 5 1 = true := by decide +kernel
theorem rt_sz {b v : Nat} (h : RtGood b v) : (rtCs b v).map (·.2) = [3, 3, (b : Int), (b : Int)] ++ List.replicate b (v : Int) := of_decide_eq_true (rt_cases (p := fun b v => szB b v = true) h sz_31 sz_32 sz_33 sz_34 sz_41 sz_42 sz_51)
theorem disk_in {b v : Nat} (h : RtGood b v) {t : List Int} (hP : VD b v t) : diskB (rtM b v) t = true := by
  have hs := rt_sz h
  have hl : (rtCs b v).length = 4 + b := by
    have := congrArg List.length hs
    rw [List.length_map, List.length_append, List.length_replicate] at this
    exact this
  unfold diskB
  rw [decide_eq_true (show ((t.length : Nat) : Int) = (((rtM b v).cells.length : Nat) : Int) by rw [hP.r.len, show (rtM b v).cells.length = 4 + b from hl]), Bool.true_and, List.all_eq_true]
  intro q hq
  obtain ⟨i, hi, e⟩ := List.mem_iff_getElem.mp hq
  rw [List.length_zip] at hi
  have ht := hP.r.len
  have hi4 : i < 4 + b := by omega
  rw [List.getElem_zip] at e
  have e1 : ((rtCs b v)[i]'(by omega)).2 = ([3, 3, (b : Int), (b : Int)] ++ List.replicate b (v : Int))[i]'(by rw [List.length_append, List.length_replicate]; exact hi4) := by
    rw [← List.getElem_map (f := fun c : Str × Int => c.2) (l := rtCs b v) (h := by rw [List.length_map]; omega)]
    exact (List.getElem_of_eq hs _)
  have e2 : t.getD i default = t[i]'(by omega) := by rw [List.getD_eq_getElem?_getD, List.getElem?_eq_getElem (by omega)]; rfl
  have key : 0 ≤ t.getD i default ∧ t.getD i default < ((rtCs b v)[i]'(by omega)).2 := by
    rw [e1]
    by_cases k : i < 4
    · rw [List.getElem_append_left (by exact k)]
      have : i = 0 ∨ i = 1 ∨ i = 2 ∨ i = 3 := by omega
      rcases this with rfl | rfl | rfl | rfl
      · exact hP.r.g0
      · exact hP.r.g1
      · exact hP.r.p2
      · exact hP.r.p3
    · rw [List.getElem_append_right (by show 4 ≤ i; omega), List.getElem_replicate]
      exact hP.c i (by omega) (by omega)
  rw [← e]
  unfold inCell
  rw [e2] at key
  show (decide (0 ≤ t[i]) && decide (t[i] < ((rtCs b v)[i]'(by omega)).2)) = true
  rw [decide_eq_true key.1, decide_eq_true key.2]; rfl
theorem find_deed {cA : Addr} {dl : List Deed} (nd : (dl.map fun d => d.name).Nodup) {d : Deed} (h : d ∈ dl) : ∃ i : Nat, findR cA (dl.map fun d => d.name) d.name = .ok (.int (i : Int)) ∧ i < dl.length ∧ dl.getD ((i : Int)).toNat default = d := by
  obtain ⟨i, hi, e⟩ := List.mem_iff_getElem.mp h
  have hi2 : i < (dl.map fun d => d.name).length := by rw [List.length_map]; exact hi
  have e2 : (dl.map fun d => d.name)[i] = d.name := by rw [List.getElem_map, e]
  refine ⟨i, ?_, hi, ?_⟩
  · unfold findR
    rw [if_pos (List.mem_map.mpr ⟨d, h, rfl⟩), ← e2, nd.idxOf_getElem]
  · rw [Int.toNat_natCast, List.getD_eq_getElem?_getD, List.getElem?_eq_getElem hi, e]; rfl
theorem find_at {b v : Nat} (h : RtGood b v) {t : List Int} (hP : VD b v t) {x : Int} (hx : 0 ≤ x ∧ x < (v : Int)) (tn : Bool) (cA : Addr) : ∃ i : Nat, findR cA ((rtM b v).deeds.map fun d => d.name) (nmL tn (lnw t) (t.getD (0 : Int).toNat default) (t.getD (2 : Int).toNat default) (t.getD (3 : Int).toNat default) x) = .ok (.int (i : Int)) ∧ (0 ≤ (i : Int) ∧ (i : Int) < ((rtDl b v).length : Int)) ∧ (rtDl b v).getD ((i : Int)).toNat default = deedAt b (lnw t) (skOf t) tn x := by
  obtain ⟨i, a, c, d⟩ := find_deed (cA := cA) (rt_good h).dn (deedAt_in h hP hx tn).1
  rw [at_name h hP hx] at a
  exact ⟨i, a, by omega, d⟩
theorem can_r {cD cN : Addr} {b v : Nat} (h : RtGood b v) {t : List Int} (hP : VD b v t) {k : Int} (hk : 0 ≤ k ∧ k < ((rtDl b v).length : Int)) : canDo cD cN (rtM b v) t k = .ok (.bl (allowsB ((rtDl b v).getD k.toNat default) t)) := by
  rw [can_all, if_pos (disk_in h hP)]; exact if_pos hk
theorem aft_r {cD cN cC : Addr} {b v : Nat} (h : RtGood b v) {t : List Int} (hP : VD b v t) {x : Int} (hx : 0 ≤ x ∧ x < (v : Int)) {tn : Bool} {i : Nat} (hi : 0 ≤ (i : Int) ∧ (i : Int) < ((rtDl b v).length : Int)) (e : (rtDl b v).getD ((i : Int)).toNat default = deedAt b (lnw t) (skOf t) tn x) : afterR cD cN cC (rtM b v) t (i : Int) = .ok (.tup ((lup b t x tn).map .int)) := by
  unfold afterR
  rw [can_r h hP hi]
  have e' : (rtM b v).deeds.getD ((i : Int)).toNat default = deedAt b (lnw t) (skOf t) tn x := e
  rw [e']
  show (if allowsB (deedAt b (lnw t) (skOf t) tn x) t = true then Res.ok (.tup ((changedL (deedAt b (lnw t) (skOf t) tn x) t).map .int)) else _) = _
  rw [if_pos (deedAt_in h hP hx tn).2, at_lup h hP]
theorem ru_ok {cA : Addr} {b v : Nat} (h : RtGood b v) {t : List Int} (hP : VD b v t) {x : Int} (hx : 0 ≤ x ∧ x < (v : Int)) (tn : Bool) : rupR cA b v t x tn = .ok (.tup ((lup b t x tn).map .int)) := by
  unfold rupR
  rw [decide_eq_true hx.1, decide_eq_true hx.2, up_is hP.r h.ok.1.1]; rfl
/-! the machine's sizes; what the law compares -/
def wfB (m : Mach) : Prop := (∀ c ∈ m.cells, c.1.length ≤ 100000) ∧ m.cells.length ≤ 1000 ∧ ∀ d ∈ m.deeds, (∀ q ∈ d.guard, 0 ≤ q.1 ∧ q.1 < m.cells.length) ∧ (∀ c ∈ d.changes, (0 ≤ c.1 ∧ c.1 < m.cells.length) ∧ (c.2.1 ≠ "set" → 0 ≤ c.2.2 ∧ c.2.2 < m.cells.length))
instance (m : Mach) : Decidable (wfB m) := by unfold wfB; infer_instance
theorem wf_31 : wfB (rtM 3 1) := by decide +kernel
theorem wf_32 : wfB (rtM 3 2) := by decide +kernel
theorem wf_33 : wfB (rtM 3 3) := by decide +kernel
theorem wf_34 : wfB (rtM 3 4) := by decide +kernel
theorem wf_41 : wfB (rtM 4 1) := by decide +kernel
theorem wf_42 : wfB (rtM 4 2) := by decide +kernel
theorem wf_51 : wfB (rtM 5 1) := by decide +kernel
theorem rt_wf {b v : Nat} (h : RtGood b v) : wfB (rtM b v) := rt_cases (p := fun b v => wfB (rtM b v)) h wf_31 wf_32 wf_33 wf_34 wf_41 wf_42 wf_51
theorem dl_few {b v : Nat} (h : RtGood b v) : (rtDl b v).length ≤ 400 := (rt_good h).few
theorem rt_can {b v : Nat} (h : RtGood b v) {k : Int} (hk : 0 ≤ k ∧ k < ((rtDl b v).length : Int)) : (∀ c ∈ (rtM b v).cells, c.1.length ≤ 100000) ∧ (rtM b v).cells.length ≤ 1000 ∧ (k.natAbs.log2 < 1920 ∧ (toString k : Str).length ≤ 100000) ∧ ∀ d ∈ (rtM b v).deeds, (∀ q ∈ d.guard, 0 ≤ q.1 ∧ q.1 < (rtM b v).cells.length) ∧ (∀ c ∈ d.changes, (0 ≤ c.1 ∧ c.1 < (rtM b v).cells.length) ∧ (c.2.1 ≠ "set" → 0 ≤ c.2.2 ∧ c.2.2 < (rtM b v).cells.length)) :=
  ⟨(rt_wf h).1, (rt_wf h).2.1, small_n (by have := dl_few h; omega), (rt_wf h).2.2⟩
def lcB (b v : Nat) : Bool := decide ([(("g0" : Str), (3 : Int)), ("g1", 3), ("p0", (b : Int)), ("p1", (b : Int))] ++ ((rng 0 b).map fun k => (("c" : Str) ++ (toString k : Str), (v : Int))) = rtCs b v)
theorem lc_31 : lcB 3 1 = true := by decide +kernel
theorem lc_32 : lcB 3 2 = true := by decide +kernel
theorem lc_33 : lcB 3 3 = true := by decide +kernel
theorem lc_34 : lcB 3 4 = true := by decide +kernel
theorem lc_41 : lcB 4 1 = true := by decide +kernel
theorem lc_42 : lcB 4 2 = true := by decide +kernel
theorem lc_51 : lcB 5 1 = true := by decide +kernel
theorem lc_is {b v : Nat} (h : RtGood b v) : [D.tup [.str "g0", .int 3], .tup [.str "g1", .int 3], .tup [.str "p0", .int (b : Int)], .tup [.str "p1", .int (b : Int)]] ++ ((rng 0 b).map fun k => (("c" : Str) ++ (toString k : Str), (v : Int))).map encCell = (rtCs b v).map encCell := by
  rw [← of_decide_eq_true (rt_cases (p := fun b v => lcB b v = true) h lc_31 lc_32 lc_33 lc_34 lc_41 lc_42 lc_51), List.map_append]; rfl
theorem zero_is (b : Nat) : ([D.int 1, .int 0, .int 0, .int 1] ++ (List.replicate ((b : Int)).toNat [D.int 0]).flatten) = ([1, 0, 0, 1] ++ List.replicate b (0 : Int)).map D.int := by
  rw [List.map_append, List.map_replicate, Int.toNat_natCast, flat_one]; rfl
theorem ne_self {d : D} (h : plainD 20 d = true) : (!eqD d d) = false := by rw [eqD_refl h]; rfl
theorem ne_disk (x : List Int) : (!eqD (.tup (x.map .int)) (.tup (x.map .int))) = false := ne_self (plain_disk 19 x)
def plB (b v : Nat) : Bool := plainD 20 (.tup ((rtCs b v).map encCell)) && plainD 20 (.lst ((rtDl b v).map encDeed))
theorem pl_31 : plB 3 1 = true := by decide +kernel
theorem pl_32 : plB 3 2 = true := by decide +kernel
theorem pl_33 : plB 3 3 = true := by decide +kernel
theorem pl_34 : plB 3 4 = true := by decide +kernel
theorem pl_41 : plB 4 1 = true := by decide +kernel
theorem pl_42 : plB 4 2 = true := by decide +kernel
theorem pl_51 : plB 5 1 = true := by decide +kernel
theorem rt_pl {b v : Nat} (h : RtGood b v) : plainD 20 (.tup ((rtCs b v).map encCell)) = true ∧ plainD 20 (.lst ((rtDl b v).map encDeed)) = true := by
  have z := rt_cases (p := fun b v => plB b v = true) h pl_31 pl_32 pl_33 pl_34 pl_41 pl_42 pl_51
  unfold plB at z
  rw [Bool.and_eq_true] at z
  exact z
theorem pl_cs {b v : Nat} (h : RtGood b v) : plainD 20 (.tup ((rtCs b v).map encCell)) = true := (rt_pl h).1
theorem pl_dl {b v : Nat} (h : RtGood b v) : plainD 20 (.lst ((rtDl b v).map encDeed)) = true := (rt_pl h).2
theorem pl_ld {b v : Nat} (h : RtGood b v) : plainD 20 (.lst ((ltD b v).map encDeed)) = true := by rw [← rt_deeds h]; exact pl_dl h
theorem mach_dead {b v : Nat} (h : RtGood b v) : (!eqD (.tup ((rtM b v).cells.map encCell)) (.tup ((rtCs b v).map encCell)) || (!eqD (.tup ((rtM b v).first.map .int)) (.tup ((rtFi b).map .int)) || !eqD (.lst ((rtM b v).deeds.map encDeed)) (.lst ((ltD b v).map encDeed)))) = false := by
  have k1 : (!eqD (.tup ((rtM b v).cells.map encCell)) (.tup ((rtCs b v).map encCell))) = false := ne_self (pl_cs h)
  have k2 : (!eqD (.tup ((rtM b v).first.map .int)) (.tup ((rtFi b).map .int))) = false := ne_disk (rtFi b)
  have k3 : (!eqD (.lst ((rtM b v).deeds.map encDeed)) (.lst ((ltD b v).map encDeed))) = false := by rw [← rt_deeds h]; exact ne_self (pl_dl h)
  rw [k1, k2, k3]; rfl
theorem form_dead (b v : Int) : (!true || !eqD (.tup [.int b, .int v]) (.tup [.int b, .int v])) = false := by
  have k : (!eqD (.tup [.int b, .int v]) (.tup [.int b, .int v])) = false := ne_disk [b, v]
  rw [k]; rfl
theorem upd_dead {b v : Nat} {t : List Int} {x y : Int} {tn : Bool} (hy : y = -1 ∨ y = (v : Int)) : (!eqD (.tup ((lup b t x tn).map .int)) (.tup ((lup b t x tn).map .int)) || !(!(decide ((0 : Int) ≤ y) && decide (y < (v : Int))))) = false := by
  rw [ne_disk]
  rcases hy with rfl | rfl
  · rw [decide_eq_false (show ¬ (0 : Int) ≤ -1 by decide)]; rfl
  · rw [decide_eq_false (show ¬ (v : Int) < (v : Int) by omega), Bool.and_false]; rfl
theorem abl_dead {b v : Nat} (h : RtGood b v) {t : List Int} (hP : VD b v t) {x : Int} (hx : 0 ≤ x ∧ x < (v : Int)) (tn : Bool) : (!decide (((ablL b v t tn).length : Int) = (v : Int)) || (!inD (.str (nmL tn (lnw t) (t.getD (0 : Int).toNat default) (t.getD (2 : Int).toNat default) (t.getD (3 : Int).toNat default) x)) ((ablL b v t tn).map D.str) || !eqD (.tup ((lup b t x tn).map .int)) (.tup ((lup b t x tn).map .int)))) = false := by
  rw [ne_disk, inD_strs, decide_eq_true (abl_in h hP hx tn), abl_len h hP, decide_eq_true rfl]; rfl
theorem val_dead {b v : Nat} {t : List Int} (hP : VD b v t) : (!decide (rvR t false = lvl t false) || !decide (rvR t true = lvl t true)) = false := by
  rw [rv_is hP.r, rv_is hP.r, decide_eq_true rfl, decide_eq_true rfl]; rfl
theorem y2 (v : Nat) (s : Int) : ∃ y : Int, atI [D.int (-1), .int (v : Int)] (s / 12 % 2) = some (.int y) ∧ (y = -1 ∨ y = (v : Int)) := by
  have : s / 12 % 2 = 0 ∨ s / 12 % 2 = 1 := by omega
  rcases this with e | e <;> rw [e]
  · exact ⟨-1, rfl, .inl rfl⟩
  · exact ⟨v, rfl, .inr rfl⟩
theorem nm_len {b v : Nat} {t : List Int} (hP : VD b v t) {x : Int} (hx : 0 ≤ x ∧ x < (v : Int)) (hb : b ≤ 5 ∧ v ≤ 4) (tn : Bool) : (nmL tn (lnw t) (t.getD (0 : Int).toNat default) (t.getD (2 : Int).toNat default) (t.getD (3 : Int).toNat default) x).length ≤ 100000 := by
  have g0 := hP.r.g0; have p2 := hP.r.p2; have p3 := hP.r.p3
  have e1 := dig_small (v := lnw t) (by rcases lnw_01 t with e | e <;> omega)
  have e2 := dig_small (v := t.getD (0 : Int).toNat default) (by omega)
  have e3 := dig_small (v := t.getD (2 : Int).toNat default) (by omega)
  have e4 := dig_small (v := t.getD (3 : Int).toNat default) (by omega)
  have e5 := dig_small (v := x) (by omega)
  have e0 : (ltr tn).length = 1 := by cases tn <;> decide
  unfold nmL
  simp only [Str.length_append]
  omega
theorem pl_csM {b v : Nat} (h : RtGood b v) : plainD 20 (.tup ((rtM b v).cells.map encCell)) = true := pl_cs h
theorem pl_dlM {b v : Nat} (h : RtGood b v) : plainD 20 (.lst ((rtM b v).deeds.map encDeed)) = true := pl_dl h
theorem no_torn {b : Nat} {t : List Int} {x : Int} (tn : Bool) : ((!tn) && !eqD (.tup ((lup b t x false).map .int)) (.tup ((lup b t x tn).map .int))) = false := by
  cases tn
  · rw [ne_disk]; rfl
  · rfl
section
local macro_rules | `(tactic| walk_at "tgt") => `(tactic| first | exact ⟨(by walk_at "len"), rfl⟩ | (refine pairF ?_ ?_; walk_at "len"; walk_at "len") | (refine ⟨[_, _, _, _], rfl, rfl, consF_name ?_ (consF_name ?_ (consF_name ?_ (consF_name ?_ nilF_mk)))⟩; walk_at "len"; walk_at "len"; walk_at "len"; walk_at "len"))
local macro_rules | `(tactic| walk_at "ix") => `(tactic| first | exact ixd_tup (ds := [.str "u", .str "t"]) (d := .str (ltr tn)) (by cases tn <;> rfl) | exact ixd_tup hyy | exact ixd_tup (ds := [_, _, _]) rfl | (refine ixd_tup (atI_map ?_); omega) | (refine ixd_lst (atI_map ?_); omega))
local macro_rules | `(tactic| walk_at "call_str") => `(tactic| exact cd_str (small_n (by omega)).1)
local macro_rules | `(tactic| walk_at "opMult") => `(tactic| first | (refine opd_repT1 ⟨⟨?_, ?_⟩, (by decide : 1 ≤ 1000)⟩ (by simp) <;> omega) | (refine opd_mulR ?_; constructor <;> omega) | exact opd_mul (by omega) (by omega))
local macro_rules | `(tactic| walk_at "plain") => `(tactic| first | with_reducible exact plain_disk 19 _ | with_reducible exact pl_cs hg | with_reducible exact pl_dl hg | with_reducible exact pl_ld hg | with_reducible exact pl_csM hg | with_reducible exact pl_dlM hg | rfl)
local macro_rules | `(tactic| walk_at "S") => `(tactic| first | exact ⟨b, v, rfl, ⟨(by omega), (by omega)⟩, rfl⟩ | exact ⟨b, v, rfl, hg, rfl⟩ | exact ⟨b, v, rfl, h0, rfl⟩ | exact ⟨b, v, t, xD, tn, rfl, ⟨h0, hP.r.len⟩, rfl⟩ | exact ⟨b, v, t, xD, tn, rfl, ⟨h0, hP.r.len, (by omega)⟩, rfl⟩ | exact ⟨b, v, t, xD, false, rfl, ⟨h0, hP.r.len, (by omega)⟩, rfl⟩ | exact ⟨b, v, t, yy, rfl, ⟨h0, hP.r.len, (by omega)⟩, rfl⟩ | exact ⟨rtM b v, t, _, rfl, rt_can hg hkx, rfl⟩ | exact ⟨rtM b v, t, _, rfl, rt_can hg hfi2, rfl⟩ | exact ⟨rtM b v, _, rfl, nm_len hP hxr (by omega) tn, rfl⟩ | exact ⟨_, b, _, false, rfl, ⟨hQ.r.len, hQ.r.p2, hQ.r.p3⟩, rfl⟩ | exact ⟨_, b, _, true, rfl, ⟨hQ.r.len, hQ.r.p2, hQ.r.p3⟩, rfl⟩ | exact ⟨b, lup b t xD tn, _, rfl, ⟨hQ.r.len, hQ.r.p2, hQ.r.p3⟩, rfl⟩ | exact ⟨t, rfl, (by have := hP.r.len; omega), rfl⟩ | (refine ⟨_, _, rfl, ?_, rfl⟩; walk_at "side"))
local macro_rules | `(tactic| walk_at "side") => `(tactic| first | walk_at "side0" | (simp only [List.length_append, List.length_map, List.length_cons, List.length_nil, rng_len]; omega) | (simp only [Str.length_append]; omega) | (rw [List.length_flatten]; simp; omega) | (have := dl_few hg; show (rtDl b v).length < _; omega) | (rw [rng_len]; have := dl_few hg; show (rtDl b v).length < _; omega) | (rw [rng_len]; have := dl_few hg; show (rtDl b v).length ≤ _; omega) | (have := dl_few hg; show (rtDl b v).length ≤ _; omega) | (have := dl_few hg; simp only [List.length_map]; show (rtDl b v).length < _; omega) | (have := dl_few hg; simp only [List.length_map]; show (rtDl b v).length ≤ _; omega) | omega)

abbrev s_law : Stmt := topS 68
theorem sc_law : FnScope ["script", "form", "blocks", "values", "good", "made", "e", "machine", "cells", "first", "disk", "k", "step", "value", "torn", "following", "letter", "name", "deeds", "able", "j"] ["script"] (defScope s_law) := ⟨rfl, rfl, rfl, by decide +kernel, rfl, by decide +kernel, by decide +kernel⟩
theorem fn_law {f : Addr} {fd : FuncData} (F : Fun K "law" "law" s_law f fd) (T : Txt mg) (F_law_cell : FD P w K mg base 1 "_law_cell" 2 S_law_cell) (F_law_deeds : FD P w K mg base 2 "_law_deeds" 1 S_law_deeds) (F_law_newer : FD P w K mg base 1 "_law_newer" 1 S_law_newer) (F_law_refused : FD P w K mg base 4 "_law_refused" 3 (S_law_refused cA_RootForm cA_InvalidFile)) (F_law_update : FD P w K mg base 2 "_law_update" 4 S_law_update) (F_law_value : FD P w K mg base 2 "_law_value" 2 S_law_value) (F_after : FD P w K mg base 3 "after" 3 (S_after cA_Machine cA_InvalidDisk cA_NoSuchDeed cA_CannotDo)) (F_can_do : FD P w K mg base 2 "can_do" 3 (S_can_do cA_Machine cA_InvalidDisk cA_NoSuchDeed)) (F_root_machine : FD P w K mg base 6 "root_machine" 1 (S_root_machine cA_RootForm cA_Machine cA_InvalidMachine)) (FI_RootForm : FI P w K mg base 2 "RootForm" cA_RootForm 2 (S_RootForm_init cA_RootForm cA_InvalidForm)) (G_InvalidForm : mg "InvalidForm" = some (.ref cA_InvalidForm)) (G_WreckError : mg "WreckError" = some (.ref cA_WreckError)) (cl_Machine : Cls K cA_Machine) (cl_RootForm : Cls K cA_RootForm) (k0_root_update : FK P w K mg base 3 "root_update" 3 [] [.bl false] [.bl false] (S_root_update cA_RootForm cA_InvalidFile)) (k0_root_value : FK P w K mg base 2 "root_value" 2 [] [.bl false] [.bl false] S_root_value) (k1_root_update : FK P w K mg base 3 "root_update" 3 ["torn"] [] [] (S_root_update cA_RootForm cA_InvalidFile)) (k1_root_value : FK P w K mg base 2 "root_value" 2 ["former"] [] [] S_root_value) (ki_InvalidForm_InvalidForm : PySem.W.kitOne K (.ref cA_InvalidForm) (.ref cA_InvalidForm) = some true) (me_Machine_deed : FM P w K mg base 1 cA_Machine "deed" 2 (S_Machine_deed cA_Machine cA_NoSuchDeed)) (na_Machine_cells : NoAttr K cA_Machine "cells") (na_Machine_deeds : NoAttr K cA_Machine "deeds") (na_Machine_first : NoAttr K cA_Machine "first") (na_RootForm_alphabet : NoAttr K cA_RootForm "alphabet") (na_RootForm_blocks : NoAttr K cA_RootForm "blocks") (xc_InvalidForm : XC K cA_InvalidForm cA_WreckError) : FnOk P w K mg base (L2.CX P w) 7 f fd ["script"] (spP K 1 S_law) := by
  refine fn_of (N := ["script", "form", "blocks", "values", "good", "made", "e", "machine", "cells", "first", "disk", "k", "step", "value", "torn", "following", "letter", "name", "deeds", "able", "j"]) F sc_law (by decide) ?_
  intro cdv A outer s0_ H E ds r hr hl hS
  obtain ⟨ns, rfl, rfl⟩ := hS
  show SDs _ _ [.val (.scr ns), .no, .no, .no, .no, .no, .no, .no, .no, .no, .no, .no, .no, .no, .no, .no, .no, .no, .no, .no, .no] _ _
  refine sds_set 1 (ed_tup (ea_cons ed_int (ea_cons (ed_bin ed_int (ed_bin (ed_call F_law_cell (hr.mono (by decide)) rfl (ea_cons (ed_var 0 rfl rfl (by walk_at "vis")) (ea_cons ed_int ea_nil)) (by walk_at "S")) ed_int (by walk_at "opMod")) (by walk_at "opAdd")) ea_nil)) (by walk_at "len")) sc_law.nd rfl (by walk_at "loc") ?_ (by walk_at "len")
  refine sds_join (R1 := fun ρ1 => ∃ b v : Int, ((0 ≤ b ∧ b < 7) ∧ (0 ≤ v ∧ v < 6)) ∧ ρ1 = [.val (.scr ns), .val (.tup [.int b, .int v]), .no, .no, .no, .no, .no, .no, .no, .no, .no, .no, .no, .no, .no, .no, .no, .no, .no, .no, .no]) ?_ ?_
  ·
    refine sds_if (et_cmp (ed_bin (ed_call F_law_cell (hr.mono (by decide)) rfl (ea_cons (ed_var 0 rfl rfl (by walk_at "vis")) (ea_cons ed_int ea_nil)) (by walk_at "S")) ed_int (by walk_at "opMod")) ed_int (by walk_at "cmpEq")) (fun hc1 => ?_) (fun hc1 => ?_)
    · have hc1d := hc1
      try simp only [Bool.and_eq_true, Bool.or_eq_true, decide_eq_true_eq, decide_eq_false_iff_not, Bool.not_eq_true', Bool.not_eq_false', Bool.and_eq_false_iff, Bool.or_eq_false_iff] at hc1d
      refine sds_set 1 (ed_tup (ea_cons (ed_bin (ed_call F_law_cell (hr.mono (by decide)) rfl (ea_cons (ed_var 0 rfl rfl (by walk_at "vis")) (ea_cons ed_int ea_nil)) (by walk_at "S")) ed_int (by walk_at "opMod")) (ea_cons (ed_bin (ed_bin (ed_call F_law_cell (hr.mono (by decide)) rfl (ea_cons (ed_var 0 rfl rfl (by walk_at "vis")) (ea_cons ed_int ea_nil)) (by walk_at "S")) ed_int (by walk_at "opFloorDiv")) ed_int (by walk_at "opMod")) ea_nil)) (by walk_at "len")) sc_law.nd rfl (by walk_at "loc") ?_ (by walk_at "len")
      refine sds_go ?_
      refine sds_nil (by first | exact ⟨cell ns 0 % 7, cell ns 0 / 7 % 6, (fun (_ : cell ns 1 % 2 = 1) => (by omega)) hc1d, rfl⟩ | exact ⟨3, 1 + cell ns 0 % 2, (by omega), rfl⟩) (by repeat first | exact Wk.nil | refine Wk.no ?_ | refine Wk.eq ?_ | refine Wk.frz ?_ | (refine Wk.eq' ?hh ?_; (case hh => first | (simp only [List.map_append, List.map_cons, List.map_nil, if_true, if_false, and_self, and_true, true_and, and_false, false_and, not_true_eq_false, not_false_eq_true, reduceIte]; done) | (simp []; done))) | (refine Wk.frzE ?hh ?_; (case hh => first | (simp only [List.map_append, List.map_cons, List.map_nil, if_true, if_false, and_self, and_true, true_and, and_false, false_and, not_true_eq_false, not_false_eq_true, reduceIte]; done) | (simp []; done))))
    · have hc1d := hc1
      try simp only [Bool.and_eq_true, Bool.or_eq_true, decide_eq_true_eq, decide_eq_false_iff_not, Bool.not_eq_true', Bool.not_eq_false', Bool.and_eq_false_iff, Bool.or_eq_false_iff] at hc1d
      refine sds_go ?_
      refine sds_nil (by first | exact ⟨cell ns 0 % 7, cell ns 0 / 7 % 6, (fun (_ : cell ns 1 % 2 = 1) => (by omega)) hc1d, rfl⟩ | exact ⟨3, 1 + cell ns 0 % 2, (by omega), rfl⟩) (by repeat first | exact Wk.nil | refine Wk.no ?_ | refine Wk.eq ?_ | refine Wk.frz ?_ | (refine Wk.eq' ?hh ?_; (case hh => first | (simp only [List.map_append, List.map_cons, List.map_nil, if_true, if_false, and_self, and_true, true_and, and_false, false_and, not_true_eq_false, not_false_eq_true, reduceIte]; done) | (simp []; done))) | (refine Wk.frzE ?hh ?_; (case hh => first | (simp only [List.map_append, List.map_cons, List.map_nil, if_true, if_false, and_self, and_true, true_and, and_false, false_and, not_true_eq_false, not_false_eq_true, reduceIte]; done) | (simp []; done))))
  ·
    rintro _ ⟨b, v, ⟨hb0, hv0⟩, rfl⟩
    refine sds_tgt (ed_var 1 rfl rfl (by walk_at "vis")) (td_pair 2 3 rfl sc_law.nd rfl (by walk_at "loc") rfl (by walk_at "loc")) (pairF (by walk_at "len") (by walk_at "len")) ?_
    refine sds_set 4 (ed_and (ed_chain ed_int (ed_var 2 rfl rfl (by walk_at "vis")) ed_int (by walk_at "cmpLtE") (by walk_at "cmpLtE")) (fun hb => (ed_and (ed_chain ed_int (ed_var 3 rfl rfl (by walk_at "vis")) ed_int (by walk_at "cmpLtE") (by walk_at "cmpLtE")) (fun hb => (ed_one (ed_cmp (ed_bin (ed_bin (ed_bin ed_int (ed_var 2 rfl rfl (by walk_at "vis")) (by walk_at "opMult")) (ed_bin (ed_var 2 rfl rfl (by walk_at "vis")) ed_int (by walk_at "opSub")) (by walk_at "opMult")) (ed_var 3 rfl rfl (by walk_at "vis")) (by walk_at "opMult")) ed_int (by walk_at "cmpLtE"))))))) sc_law.nd rfl (by walk_at "loc") ?_ (by walk_at "len")
    show SDs _ _ [.val (.scr ns), .val (.tup [.int b, .int v]), .val (.int b), .val (.int v), .val (.bl (goodR b v)), .no, .no, .no, .no, .no, .no, .no, .no, .no, .no, .no, .no, .no, .no, .no, .no] _ _
    refine sds_tryAs (i := 6) rfl rfl sc_law.nd rfl rfl ⟨rfl, by decide, .inl G_WreckError⟩ (takes_of rfl rfl rfl rfl) (Ex1 := fun ρ' c fs => ρ' = [.val (.scr ns), .val (.tup [.int b, .int v]), .val (.int b), .val (.int v), .val (.bl (goodR b v)), .no, .no, .no, .no, .no, .no, .no, .no, .no, .no, .no, .no, .no, .no, .no, .no] ∧ newRt cA_InvalidForm cA_RootForm b v = .er c fs) (fun W1 pn1 xe1 tk1 po1 => ?_) (fun ρ1 c1 fs1 hE => ?_)
    ·
      refine sds_setR 5 (er_make tk1 FI_RootForm (hr.mono (by decide)) rfl (ea_cons (ed_var 2 rfl rfl (by walk_at "vis")) (ea_cons (ed_var 3 rfl rfl (by walk_at "vis")) ea_nil)) (by walk_at "S") (fun d hd => newRt_obj hd)) sc_law.nd rfl (by walk_at "loc") (fun d hc2 => ?_) (fun c fs hc2 => ?_) (by walk_at "len")
      ·
        obtain ⟨b, v, rfl, rfl, hg, rfl, hgd⟩ := rtf_ok hb0 hv0 hc2
        have h0 := hg.ok
        rw [hgd]
        refine sds_nil ?_ (Wk.refl _)
        refine sds_if (et_w (ew_or (et_not (by first | exact et_val (ed_var 4 rfl rfl (by walk_at "vis")) | exact et_tru (ed_var 4 rfl rfl (by walk_at "vis")) (by walk_at "truv"))) (fun hb => (ew_or1 (et_cmp (ed_tup (ea_cons (ed_fld (ed_var 5 rfl rfl (by walk_at "vis")) cl_RootForm na_RootForm_blocks rfl) (ea_cons (ed_fld (ed_var 5 rfl rfl (by walk_at "vis")) cl_RootForm na_RootForm_alphabet rfl) ea_nil)) (by walk_at "len")) (ed_var 1 rfl rfl (by walk_at "vis")) (by walk_at "cmpNotEq")))))) (fun hc3 => ?_) (fun hc3 => ?_)
        · have hc3d := hc3
          try simp only [Bool.and_eq_true, Bool.or_eq_true, decide_eq_true_eq, decide_eq_false_iff_not, Bool.not_eq_true', Bool.not_eq_false', Bool.and_eq_false_iff, Bool.or_eq_false_iff] at hc3d
          exact Bool.noConfusion (hc3.symm.trans (form_dead _ _))
        · have hc3d := hc3
          try simp only [Bool.and_eq_true, Bool.or_eq_true, decide_eq_true_eq, decide_eq_false_iff_not, Bool.not_eq_true', Bool.not_eq_false', Bool.and_eq_false_iff, Bool.or_eq_false_iff] at hc3d
          refine sds_go ?_
          refine sds_set 7 (ed_of_er (er_call (takes_of rfl rfl rfl rfl) F_root_machine (hr.mono (by decide)) rfl (ea_cons (ed_var 5 rfl rfl (by walk_at "vis")) ea_nil) (by walk_at "S")) (by exact rt_mach hg _ _)) sc_law.nd rfl (by walk_at "loc") ?_ (by walk_at "len")
          refine sds_set 8 (ed_bin (eo_ed (eo_lst (ea_cons (ed_tup (ea_cons ed_str (ea_cons ed_int ea_nil)) (by walk_at "len")) (ea_cons (ed_tup (ea_cons ed_str (ea_cons ed_int ea_nil)) (by walk_at "len")) (ea_cons (ed_tup (ea_cons ed_str (ea_cons (ed_var 2 rfl rfl (by walk_at "vis")) ea_nil)) (by walk_at "len")) (ea_cons (ed_tup (ea_cons ed_str (ea_cons (ed_var 2 rfl rfl (by walk_at "vis")) ea_nil)) (by walk_at "len")) ea_nil)))) (by walk_at "len"))) (eo_ed (eo_lc1 (y := "k") 11 rfl sc_law.nd (by first | exact wd_range1N (ed_var 2 rfl rfl (by walk_at "vis")) (by walk_at "side") rfl T.m_range | exact wd_range1 (ed_var 2 rfl rfl (by walk_at "vis")) (by walk_at "side") (by walk_at "side") rfl T.m_range) (blkOk_by (N := ["script", "form", "blocks", "values", "good", "made", "e", "machine", "cells", "first", "disk", "k", "step", "value", "torn", "following", "letter", "name", "deeds", "able", "j"]) (sc := defScope s_law) (by decide +kernel)) (fun sb Hb Cb clb fpb => (td_name 11 sc_law.nd rfl (by walk_at "loc"))) (by walk_at "len") (fun d z => by cases d <;> cases z) (fun sb Hb Cb clb fpb x hx => pts_no) (fun sb Hb Cb clb fpb x hx ht => by have hkx := mem_rng hx; have s2 := small_n (k := x) (by omega); have e1 : ("c" : Str).length = 1 := (by decide); exact (ed_tup (ea_cons (ed_bin ed_str (ed_callTy rfl T.m_str boot_str (ea_cons (ed_var 11 rfl rfl (by walk_at "vis")) ea_nil) (by walk_at "call_str")) (by walk_at "opAdd")) (ea_cons (ed_var 3 rfl rfl (by walk_at "vis")) ea_nil)) (by walk_at "len"))) (by walk_at "side") (by exact lcr_enc (enc := encCell) (F := fun k => (("c" : Str) ++ (toString k : Str), (v : Int))) fun _ _ => rfl))) (by walk_at "opAdd")) sc_law.nd rfl (by walk_at "loc") ?_ (by walk_at "len")
          rw [lc_is hg]
          refine sds_set 9 (ed_bin (ed_tup (ea_cons ed_int (ea_cons ed_int (ea_cons ed_int (ea_cons ed_int ea_nil)))) (by walk_at "len")) (ed_bin (ed_tup (ea_cons ed_int ea_nil) (by walk_at "len")) (ed_var 2 rfl rfl (by walk_at "vis")) (by walk_at "opMult")) (by walk_at "opAdd")) sc_law.nd rfl (by walk_at "loc") ?_ (by walk_at "len")
          rw [rtFi_is b]
          refine sds_if (et_w (ew_or (et_cmp (ed_fld (ed_var 7 rfl rfl (by walk_at "vis")) cl_Machine na_Machine_cells rfl) (ed_callTy rfl T.m_tuple boot_tuple (ea_cons (ed_var 8 rfl rfl (by walk_at "vis")) ea_nil) (by walk_at "call_tuple")) (by walk_at "cmpNotEq")) (fun hb => (ew_or (et_cmp (ed_fld (ed_var 7 rfl rfl (by walk_at "vis")) cl_Machine na_Machine_first rfl) (ed_var 9 rfl rfl (by walk_at "vis")) (by walk_at "cmpNotEq")) (fun hb => (ew_or1 (et_cmp (eo_ed (eo_callTy rfl T.m_list boot_list (ea_cons (ed_fld (ed_var 7 rfl rfl (by walk_at "vis")) cl_Machine na_Machine_deeds rfl) ea_nil) (by walk_at "callo"))) (ed_call F_law_deeds (hr.mono (by decide)) rfl (ea_cons (ed_var 1 rfl rfl (by walk_at "vis")) ea_nil) (by walk_at "S")) (by walk_at "cmpNotEq")))))))) (fun hc4 => ?_) (fun hc4 => ?_)
          · have hc4d := hc4
            try simp only [Bool.and_eq_true, Bool.or_eq_true, decide_eq_true_eq, decide_eq_false_iff_not, Bool.not_eq_true', Bool.not_eq_false', Bool.and_eq_false_iff, Bool.or_eq_false_iff] at hc4d
            exact Bool.noConfusion (hc4.symm.trans (mach_dead hg))
          · have hc4d := hc4
            try simp only [Bool.and_eq_true, Bool.or_eq_true, decide_eq_true_eq, decide_eq_false_iff_not, Bool.not_eq_true', Bool.not_eq_false', Bool.and_eq_false_iff, Bool.or_eq_false_iff] at hc4d
            refine sds_go ?_
            refine sds_set 10 (ed_bin (ed_tup (ea_cons ed_int (ea_cons ed_int (ea_cons ed_int (ea_cons ed_int ea_nil)))) (by walk_at "len")) (ed_bin (ed_tup (ea_cons ed_int ea_nil) (by walk_at "len")) (ed_var 2 rfl rfl (by walk_at "vis")) (by walk_at "opMult")) (by walk_at "opAdd")) sc_law.nd rfl (by walk_at "loc") ?_ (by walk_at "len")
            rw [zero_is b]
            refine sds_fold (fun t => [.val (.scr ns), .val (.tup [.int (b : Int), .int (v : Int)]), .val (.int (b : Int)), .val (.int (v : Int)), .val (.bl true), .val (.obj cA_RootForm (rtF b v)), .no, .val (.obj cA_Machine (machF (rtM b v))), .val (.lst ((rtCs b v).map encCell)), .val (.tup ((rtFi b).map .int)), .val (.tup (t.map .int)), .no, .no, .no, .no, .no, .no, .no, .no, .no, .no]) (nxtR ns b v) (fun _ t => VD b v t) ([1, 0, 0, 1] ++ List.replicate b 0) (by walk_at "pass") rfl (by first | exact wd_range1N (ed_bin (ed_call F_law_cell (hr.mono (by decide)) rfl (ea_cons (ed_var 0 rfl rfl (by walk_at "vis")) (ea_cons ed_int ea_nil)) (by walk_at "S")) ed_int (by walk_at "opMod")) (by walk_at "side") rfl T.m_range | exact wd_range1 (ed_bin (ed_call F_law_cell (hr.mono (by decide)) rfl (ea_cons (ed_var 0 rfl rfl (by walk_at "vis")) (ea_cons ed_int ea_nil)) (by walk_at "S")) ed_int (by walk_at "opMod")) (by walk_at "side") (by walk_at "side") rfl T.m_range) (td_name 11 sc_law.nd rfl (by walk_at "loc")) (by repeat first | exact Wk.nil | refine Wk.no ?_ | refine Wk.eq ?_ | refine Wk.frz ?_ | (refine Wk.eq' ?hh ?_; (case hh => first | (simp only [List.map_append, List.map_cons, List.map_nil, if_true, if_false, and_self, and_true, true_and, and_false, false_and, not_true_eq_false, not_false_eq_true, reduceIte]; done) | (simp []; done))) | (refine Wk.frzE ?hh ?_; (case hh => first | (simp only [List.map_append, List.map_cons, List.map_nil, if_true, if_false, and_self, and_true, true_and, and_false, false_and, not_true_eq_false, not_false_eq_true, reduceIte]; done) | (simp []; done)))) (by exact vd_first h0.1.1 h0.2.1) ?_ ?_
            · intro i k t hx hP
              have hP : VD b v t := hP
              have hk := get_rng hx
              have hlt := hP.r.len; have hg0 := hP.r.g0; have hp2 := hP.r.p2; have hp3 := hP.r.p3; have h01 := lnw_01 t
              refine ⟨_, (by walk_at "tgt"), ?_⟩
              refine sds_set 12 (ed_bin (ed_call F_law_cell (hr.mono (by decide)) rfl (ea_cons (ed_var 0 rfl rfl (by walk_at "vis")) (ea_cons (ed_bin ed_int (ed_bin (ed_var 11 rfl rfl (by walk_at "vis")) ed_int (by walk_at "opMod")) (by walk_at "opAdd")) ea_nil)) (by walk_at "S")) (ed_bin (ed_var 11 rfl rfl (by walk_at "vis")) ed_int (by walk_at "opFloorDiv")) (by walk_at "opAdd")) sc_law.nd rfl (by walk_at "loc") ?_ (by walk_at "len")
              obtain ⟨sp, hsp⟩ : ∃ sp, sp = stpR ns k := ⟨_, rfl⟩
              rw [show cell ns (3 + k % 50) + k / 50 = sp from hsp.symm]
              refine sds_set 13 (ed_bin (ed_var 12 rfl rfl (by walk_at "vis")) (ed_var 3 rfl rfl (by walk_at "vis")) (by walk_at "opMod")) sc_law.nd rfl (by walk_at "loc") ?_ (by walk_at "len")
              obtain ⟨xD, hxD⟩ : ∃ xD, xD = sp % (v : Int) := ⟨_, rfl⟩
              rw [← hxD]
              have hxr : 0 ≤ xD ∧ xD < (v : Int) := by rw [hxD]; exact ⟨Int.emod_nonneg _ (by omega), Int.emod_lt_of_pos _ (by omega)⟩
              refine sds_set 14 (ed_cmp (ed_bin (ed_bin (ed_var 12 rfl rfl (by walk_at "vis")) ed_int (by walk_at "opFloorDiv")) ed_int (by walk_at "opMod")) ed_int (by walk_at "cmpEq")) sc_law.nd rfl (by walk_at "loc") ?_ (by walk_at "len")
              obtain ⟨tn, htn⟩ : ∃ tn, tn = decide (sp / 4 % 3 = 1) := ⟨_, rfl⟩
              rw [← htn]
              obtain ⟨yy, hyy, hy⟩ := y2 v sp
              have hQ := lup_vd hP h0.1.1 hxr tn
              obtain ⟨fi, hfi1, hfi2, hfi3⟩ := find_at hg hP hxr tn cA_NoSuchDeed
              refine sds_set 15 (ed_call F_law_update (hr.mono (by decide)) rfl (ea_cons (ed_var 1 rfl rfl (by walk_at "vis")) (ea_cons (ed_var 10 rfl rfl (by walk_at "vis")) (ea_cons (ed_var 13 rfl rfl (by walk_at "vis")) (ea_cons (ed_var 14 rfl rfl (by walk_at "vis")) ea_nil)))) (by walk_at "S")) sc_law.nd rfl (by walk_at "loc") ?_ (by walk_at "len")
              refine sds_if (et_w (ew_or (et_cmp (ed_of_er (er_kw (takes_of rfl rfl rfl rfl) k1_root_update (hr.mono (by decide)) rfl (ea_cons (ed_var 5 rfl rfl (by walk_at "vis")) (ea_cons (ed_var 10 rfl rfl (by walk_at "vis")) (ea_cons (ed_var 13 rfl rfl (by walk_at "vis")) ea_nil))) (ek_cons (ed_var 14 rfl rfl (by walk_at "vis")) ek_nil) (by walk_at "S")) (by exact ru_ok hg hP hxr tn)) (ed_var 15 rfl rfl (by walk_at "vis")) (by walk_at "cmpNotEq")) (fun hb => (ew_or1 (et_not (et_val (ed_call F_law_refused (hr.mono (by decide)) rfl (ea_cons (ed_var 5 rfl rfl (by walk_at "vis")) (ea_cons (ed_var 10 rfl rfl (by walk_at "vis")) (ea_cons (ed_ix (ed_tup (ea_cons (ed_un ed_int (by walk_at "unUSub")) (ea_cons (ed_var 3 rfl rfl (by walk_at "vis")) ea_nil)) (by walk_at "len")) (ed_bin (ed_bin (ed_var 12 rfl rfl (by walk_at "vis")) ed_int (by walk_at "opFloorDiv")) ed_int (by walk_at "opMod")) (by walk_at "ix")) ea_nil))) (by walk_at "S")))))))) (fun hc5 => ?_) (fun hc5 => ?_)
              · have hc5d := hc5
                try simp only [Bool.and_eq_true, Bool.or_eq_true, decide_eq_true_eq, decide_eq_false_iff_not, Bool.not_eq_true', Bool.not_eq_false', Bool.and_eq_false_iff, Bool.or_eq_false_iff] at hc5d
                exact Bool.noConfusion (hc5.symm.trans (upd_dead hy))
              · have hc5d := hc5
                try simp only [Bool.and_eq_true, Bool.or_eq_true, decide_eq_true_eq, decide_eq_false_iff_not, Bool.not_eq_true', Bool.not_eq_false', Bool.and_eq_false_iff, Bool.or_eq_false_iff] at hc5d
                refine sds_go ?_
                refine sds_if (et_w (ew_and (et_not (by first | exact et_val (ed_var 14 rfl rfl (by walk_at "vis")) | exact et_tru (ed_var 14 rfl rfl (by walk_at "vis")) (by walk_at "truv"))) (fun hb => (ew_and1 (et_cmp (ed_of_er (er_kw (takes_of rfl rfl rfl rfl) k0_root_update (hr.mono (by decide)) rfl (ea_cons (ed_var 5 rfl rfl (by walk_at "vis")) (ea_cons (ed_var 10 rfl rfl (by walk_at "vis")) (ea_cons (ed_var 13 rfl rfl (by walk_at "vis")) ea_nil))) ek_nil (by walk_at "S")) (by exact ru_ok hg hP hxr false)) (ed_var 15 rfl rfl (by walk_at "vis")) (by walk_at "cmpNotEq")))))) (fun hc6 => ?_) (fun hc6 => ?_)
                · have hc6d := hc6
                  try simp only [Bool.and_eq_true, Bool.or_eq_true, decide_eq_true_eq, decide_eq_false_iff_not, Bool.not_eq_true', Bool.not_eq_false', Bool.and_eq_false_iff, Bool.or_eq_false_iff] at hc6d
                  exact Bool.noConfusion (hc6.symm.trans (no_torn tn))
                · have hc6d := hc6
                  try simp only [Bool.and_eq_true, Bool.or_eq_true, decide_eq_true_eq, decide_eq_false_iff_not, Bool.not_eq_true', Bool.not_eq_false', Bool.and_eq_false_iff, Bool.or_eq_false_iff] at hc6d
                  refine sds_go ?_
                  refine sds_set 16 (ed_ix (ed_tup (ea_cons ed_str (ea_cons ed_str ea_nil)) (by walk_at "len")) (ed_callTy rfl T.m_int boot_int (ea_cons (ed_var 14 rfl rfl (by walk_at "vis")) ea_nil) (by walk_at "call_int")) (by walk_at "ix")) sc_law.nd rfl (by walk_at "loc") ?_ (by walk_at "len")
                  have e0 : (ltr tn).length = 1 := by cases tn <;> decide
                  have e1 := dig_small (v := lnw t) (by omega)
                  have e2 := dig_small (v := t.getD (0 : Int).toNat default) (by omega)
                  have e3 := dig_small (v := t.getD (2 : Int).toNat default) (by omega)
                  have e4 := dig_small (v := t.getD (3 : Int).toNat default) (by omega)
                  have e5 := dig_small (v := xD) (by omega)
                  refine sds_set 17 (ed_bin (ed_bin (ed_bin (ed_bin (ed_bin (ed_var 16 rfl rfl (by walk_at "vis")) (ed_callTy rfl T.m_str boot_str (ea_cons (ed_call F_law_newer (hr.mono (by decide)) rfl (ea_cons (ed_var 10 rfl rfl (by walk_at "vis")) ea_nil) (by walk_at "S")) ea_nil) (by walk_at "call_str")) (by walk_at "opAdd")) (ed_callTy rfl T.m_str boot_str (ea_cons (ed_ix (ed_var 10 rfl rfl (by walk_at "vis")) ed_int (by walk_at "ix")) ea_nil) (by walk_at "call_str")) (by walk_at "opAdd")) (ed_callTy rfl T.m_str boot_str (ea_cons (ed_ix (ed_var 10 rfl rfl (by walk_at "vis")) ed_int (by walk_at "ix")) ea_nil) (by walk_at "call_str")) (by walk_at "opAdd")) (ed_callTy rfl T.m_str boot_str (ea_cons (ed_ix (ed_var 10 rfl rfl (by walk_at "vis")) ed_int (by walk_at "ix")) ea_nil) (by walk_at "call_str")) (by walk_at "opAdd")) (ed_callTy rfl T.m_str boot_str (ea_cons (ed_var 13 rfl rfl (by walk_at "vis")) ea_nil) (by walk_at "call_str")) (by walk_at "opAdd")) sc_law.nd rfl (by walk_at "loc") ?_ (by walk_at "len")
                  refine sds_set 18 (ed_fld (ed_var 7 rfl rfl (by walk_at "vis")) cl_Machine na_Machine_deeds rfl) sc_law.nd rfl (by walk_at "loc") ?_ (by walk_at "len")
                  refine sds_setLc1 (t := fun j : Int => Txt.startswith ((rtDl b v).getD j.toNat default).name (ltr tn) && allowsB ((rtDl b v).getD j.toNat default) t) (y := "j") 19 20 rfl sc_law.nd rfl rfl (sw_true rfl rfl rfl (by decide +kernel)) (by first | exact wd_range1N (ed_callB rfl T.m_len PySem.boot_len (ea_cons (ed_var 18 rfl rfl (by walk_at "vis")) ea_nil) (by walk_at "call_len")) (by walk_at "side") rfl T.m_range | exact wd_range1 (ed_callB rfl T.m_len PySem.boot_len (ea_cons (ed_var 18 rfl rfl (by walk_at "vis")) ea_nil) (by walk_at "call_len")) (by walk_at "side") (by walk_at "side") rfl T.m_range) (blkOk_by (N := ["script", "form", "blocks", "values", "good", "made", "e", "machine", "cells", "first", "disk", "k", "step", "value", "torn", "following", "letter", "name", "deeds", "able", "j"]) (sc := defScope s_law) (by decide +kernel)) (fun sb Hb Cb clb fpb => (td_name 20 sc_law.nd rfl (by walk_at "loc"))) (by walk_at "len") (fun d z => by cases d <;> cases z) (fun sb Hb Cb clb fpb x hx => pts_if (by have hkx : 0 ≤ x ∧ x < ((rtDl b v).length : Int) := (by have z := mem_rng hx; have e : (rtM b v).deeds.length = (rtDl b v).length := rfl; omega); exact (et_w (ew_and (by first | exact et_val (ed_starts (ed_ix (ed_ix (ed_var 18 rfl rfl (by walk_at "vis")) (ed_var 20 rfl rfl (by walk_at "vis")) (by walk_at "ix")) ed_int (by walk_at "ix")) (ed_var 16 rfl rfl (by walk_at "vis"))) | exact et_tru (ed_starts (ed_ix (ed_ix (ed_var 18 rfl rfl (by walk_at "vis")) (ed_var 20 rfl rfl (by walk_at "vis")) (by walk_at "ix")) ed_int (by walk_at "ix")) (ed_var 16 rfl rfl (by walk_at "vis"))) (by walk_at "truv")) (fun hb => (ew_and1 (et_val (ed_of_er (er_call takes_no F_can_do (hr.mono (by decide)) rfl (ea_cons (ed_var 7 rfl rfl (by walk_at "vis")) (ea_cons (ed_var 10 rfl rfl (by walk_at "vis")) (ea_cons (ed_var 20 rfl rfl (by walk_at "vis")) ea_nil))) (by walk_at "S")) (by exact can_r hg hP hkx))))))))) (fun sb Hb Cb clb fpb x hx ht => by have hkx : 0 ≤ x ∧ x < ((rtDl b v).length : Int) := (by have z := mem_rng hx; have e : (rtM b v).deeds.length = (rtDl b v).length := rfl; omega); exact (ed_ix (ed_ix (ed_var 18 rfl rfl (by walk_at "vis")) (ed_var 20 rfl rfl (by walk_at "vis")) (by walk_at "ix")) ed_int (by walk_at "ix"))) (by walk_at "side") (by (show _ = (ablL b v t tn).map D.str; exact lcr_strT (F := fun j : Int => ((rtDl b v).getD j.toNat default).name))) (by walk_at "len") ?_
                  refine sds_frz 19 ?_
                  refine sds_if (et_w (ew_or (et_cmp (ed_callB rfl T.m_len PySem.boot_len (ea_cons (ed_var 19 rfl rfl (by walk_at "vis")) ea_nil) (by walk_at "call_len")) (ed_var 3 rfl rfl (by walk_at "vis")) (by walk_at "cmpNotEq")) (fun hb => (ew_or (et_cmp (ed_var 17 rfl rfl (by walk_at "vis")) (ed_var 19 rfl rfl (by walk_at "vis")) (by walk_at "cmpNotIn")) (fun hb => (ew_or1 (et_cmp (ed_of_er (er_call (takes_of rfl rfl rfl rfl) F_after (hr.mono (by decide)) rfl (ea_cons (ed_var 7 rfl rfl (by walk_at "vis")) (ea_cons (ed_var 10 rfl rfl (by walk_at "vis")) (ea_cons (ed_of_er (er_meth (takes_of rfl rfl rfl rfl) (ed_var 7 rfl rfl (by walk_at "vis")) cl_Machine me_Machine_deed (hr.mono (by decide)) rfl (ea_cons (ed_var 17 rfl rfl (by walk_at "vis")) ea_nil) (by walk_at "S")) (by exact hfi1)) ea_nil))) (by walk_at "S")) (by exact aft_r hg hP hxr hfi2 hfi3)) (ed_var 15 rfl rfl (by walk_at "vis")) (by walk_at "cmpNotEq")))))))) (fun hc7 => ?_) (fun hc7 => ?_)
                  · have hc7d := hc7
                    try simp only [Bool.and_eq_true, Bool.or_eq_true, decide_eq_true_eq, decide_eq_false_iff_not, Bool.not_eq_true', Bool.not_eq_false', Bool.and_eq_false_iff, Bool.or_eq_false_iff] at hc7d
                    exact Bool.noConfusion (hc7.symm.trans (abl_dead hg hP hxr tn))
                  · have hc7d := hc7
                    try simp only [Bool.and_eq_true, Bool.or_eq_true, decide_eq_true_eq, decide_eq_false_iff_not, Bool.not_eq_true', Bool.not_eq_false', Bool.and_eq_false_iff, Bool.or_eq_false_iff] at hc7d
                    refine sds_go ?_
                    refine sds_set 10 (ed_var 15 rfl rfl (by walk_at "vis")) sc_law.nd rfl (by walk_at "loc") ?_ (by walk_at "len")
                    refine sds_if (et_w (ew_or (et_cmp (ed_of_er (er_kw (takes_of rfl rfl rfl rfl) k0_root_value (hr.mono (by decide)) rfl (ea_cons (ed_var 5 rfl rfl (by walk_at "vis")) (ea_cons (ed_var 10 rfl rfl (by walk_at "vis")) ea_nil)) ek_nil (by walk_at "S")) rfl) (ed_call F_law_value (hr.mono (by decide)) rfl (ea_cons (ed_var 10 rfl rfl (by walk_at "vis")) (ea_cons ed_bl ea_nil)) (by walk_at "S")) (by walk_at "cmpNotEq")) (fun hb => (ew_or1 (et_cmp (ed_of_er (er_kw (takes_of rfl rfl rfl rfl) k1_root_value (hr.mono (by decide)) rfl (ea_cons (ed_var 5 rfl rfl (by walk_at "vis")) (ea_cons (ed_var 10 rfl rfl (by walk_at "vis")) ea_nil)) (ek_cons ed_bl ek_nil) (by walk_at "S")) rfl) (ed_call F_law_value (hr.mono (by decide)) rfl (ea_cons (ed_var 10 rfl rfl (by walk_at "vis")) (ea_cons ed_bl ea_nil)) (by walk_at "S")) (by walk_at "cmpNotEq")))))) (fun hc8 => ?_) (fun hc8 => ?_)
                    · have hc8d := hc8
                      try simp only [Bool.and_eq_true, Bool.or_eq_true, decide_eq_true_eq, decide_eq_false_iff_not, Bool.not_eq_true', Bool.not_eq_false', Bool.and_eq_false_iff, Bool.or_eq_false_iff] at hc8d
                      exact Bool.noConfusion (hc8.symm.trans (val_dead hQ))
                    · have hc8d := hc8
                      try simp only [Bool.and_eq_true, Bool.or_eq_true, decide_eq_true_eq, decide_eq_false_iff_not, Bool.not_eq_true', Bool.not_eq_false', Bool.and_eq_false_iff, Bool.or_eq_false_iff] at hc8d
                      refine sds_go ?_
                      refine sds_nil ⟨?_, rfl⟩ ?_
                      · unfold nxtR; rw [← hsp, ← hxD, ← htn]; exact hQ
                      · (try unfold nxtR; rw [← hsp, ← hxD, ← htn]); repeat first | exact Wk.nil | refine Wk.no ?_ | refine Wk.eq ?_ | refine Wk.frz ?_ | (refine Wk.eq' ?hh ?_; (case hh => first | (simp only [nxtR, hc5d, hc5, hc6d, hc6, hc7d, hc7, hc8d, hc8, List.map_append, List.map_cons, List.map_nil, if_true, if_false, and_self, and_true, true_and, and_false, false_and, not_true_eq_false, not_false_eq_true, reduceIte]; done) | (simp [nxtR, hc5d, hc5, hc6d, hc6, hc7d, hc7, hc8d, hc8]; done) | ((try simp only [nxtR]); (repeat' split) <;> first | rfl | (simp only [List.map_append, List.map_cons, List.map_nil, nxtR]; done) | (exfalso; omega) | (simp_all; done)))) | (refine Wk.frzE ?hh ?_; (case hh => first | (simp only [nxtR, hc5d, hc5, hc6d, hc6, hc7d, hc7, hc8d, hc8, List.map_append, List.map_cons, List.map_nil, if_true, if_false, and_self, and_true, true_and, and_false, false_and, not_true_eq_false, not_false_eq_true, reduceIte]; done) | (simp [nxtR, hc5d, hc5, hc6d, hc6, hc7d, hc7, hc8d, hc8]; done) | ((try simp only [nxtR]); (repeat' split) <;> first | rfl | (simp only [List.map_append, List.map_cons, List.map_nil, nxtR]; done) | (exfalso; omega) | (simp_all; done))))
            · intro hT
              refine sds_ret ed_bl ?_
              first | rfl | (show Res.ok _ = Res.ok _; rw [hF]; rfl)
      · exact ⟨rfl, hc2⟩
    · obtain ⟨rfl, hE⟩ := hE
      obtain ⟨rfl, rfl, hF⟩ := rtf_er hb0 hv0 hE
      · refine ⟨rfl, .inl ⟨xc_InvalidForm.m, (by walk_at "len"), fun a1 oe1 pn1 hz1 hv1 => ?_⟩⟩
        show SDs _ _ [.val (.scr ns), .val (.tup [.int b, .int v]), .val (.int b), .val (.int v), .val (.bl (goodR b v)), .no, .val (.adr a1), .no, .no, .no, .no, .no, .no, .no, .no, .no, .no, .no, .no, .no, .no] _ _
        refine sds_ret (ed_and (ed_callB rfl T.m_isinstance boot_isinstance (ea_cons (ed_var 6 rfl rfl (by walk_at "vis")) (ea_cons (ed_glob (v := .ref cA_InvalidForm) (d := .adr cA_InvalidForm) rfl G_InvalidForm rfl (fun _ _ => rfl)) ea_nil)) (cd_isE xc_InvalidForm.c hz1 hv1 ki_InvalidForm_InvalidForm)) (fun hb => (ed_one (ed_not (ed_var 4 rfl rfl (by walk_at "vis")))))) ?_
        first | rfl | (show Res.ok _ = Res.ok _; rw [hF]; rfl)
end

end
end RW

end
set_option maxHeartbeats 0
namespace RW
open PySem PySem.Spec PyProof.Rows L2
theorem all_mk {w : World} {K : PySem.W.Frag} {h : Heap} {mg : Str → Option Value} {fa : Addr} (X : K.In h) (G : h.Ns mainGlobals mg) (hfa : mg "law" = some (.ref fa)) {cA_CannotDo : Addr} {cA_InvalidDisk : Addr} {cA_InvalidFile : Addr} {cA_InvalidForm : Addr} {cA_InvalidMachine : Addr} {cA_Machine : Addr} {cA_NoSuchDeed : Addr} {cA_RootForm : Addr} {cA_WreckError : Addr}
    (g_CannotDo : PySem.W.nsIn K mainGlobals "CannotDo" = some (some (.ref cA_CannotDo)))
    (g_InvalidDisk : PySem.W.nsIn K mainGlobals "InvalidDisk" = some (some (.ref cA_InvalidDisk)))
    (g_InvalidFile : PySem.W.nsIn K mainGlobals "InvalidFile" = some (some (.ref cA_InvalidFile)))
    (g_InvalidForm : PySem.W.nsIn K mainGlobals "InvalidForm" = some (some (.ref cA_InvalidForm)))
    (g_InvalidMachine : PySem.W.nsIn K mainGlobals "InvalidMachine" = some (some (.ref cA_InvalidMachine)))
    (g_Machine : PySem.W.nsIn K mainGlobals "Machine" = some (some (.ref cA_Machine)))
    (g_NoSuchDeed : PySem.W.nsIn K mainGlobals "NoSuchDeed" = some (some (.ref cA_NoSuchDeed)))
    (g_RootForm : PySem.W.nsIn K mainGlobals "RootForm" = some (some (.ref cA_RootForm)))
    (g_WreckError : PySem.W.nsIn K mainGlobals "WreckError" = some (some (.ref cA_WreckError)))
    (xq_InvalidDisk : PySem.W.excIn K cA_InvalidDisk [.type "ValueError", .type "Exception", .type "BaseException", .type "object"] "ValueError.__new__" = true)
    (xk_InvalidDisk : PySem.W.keepIn K (.ref cA_InvalidDisk) = true)
    (xb_InvalidDisk : PySem.W.subIn K (.ref cA_InvalidDisk) (.type "BaseException") = some true)
    (xt_InvalidDisk : PySem.W.typeIn K (.ref cA_InvalidDisk) = some (.type "type"))
    (xq_InvalidFile : PySem.W.excIn K cA_InvalidFile [.type "ValueError", .type "Exception", .type "BaseException", .type "object"] "ValueError.__new__" = true)
    (xk_InvalidFile : PySem.W.keepIn K (.ref cA_InvalidFile) = true)
    (xb_InvalidFile : PySem.W.subIn K (.ref cA_InvalidFile) (.type "BaseException") = some true)
    (xt_InvalidFile : PySem.W.typeIn K (.ref cA_InvalidFile) = some (.type "type"))
    (eg_InvalidFile : PySem.W.findIn K (.ref cA_InvalidFile) "__getattribute__" = some (some (.builtin "BaseException.__getattribute__")))
    (ek_InvalidFile : PySem.W.findIn K (.ref cA_InvalidFile) "__getattr__" = some none)
    (es_InvalidFile : PySem.W.subIn K (.ref cA_InvalidFile) (.type "BaseException") = some true)
    (ed_InvalidFile : PySem.W.hasDictIn K cA_InvalidFile = true)
    (ea_InvalidFile : PySem.W.findIn K (.ref cA_InvalidFile) "__class__" = some (some (.builtin "object.__class__")))
    (en_InvalidFile : PySem.W.specialIn K (.builtin "object.__class__") "__get__" = some (some (.builtin "getset_descriptor.__get__")))
    (et_InvalidFile : PySem.W.takesIn K (.builtin "object.__class__") = some true)
    (em_InvalidFile : PySem.W.mroIn K cA_InvalidFile (.type "object") = some true)
    (ew_InvalidFile : PySem.W.subIn K (.ref cA_InvalidFile) (.ref cA_WreckError) = some true)
    (sb_WreckError : PySem.W.subIn K (.ref cA_WreckError) (.type "BaseException") = some true)
    (hd_WreckError : PySem.W.hasDictIn K cA_WreckError = true)
    (ty_WreckError : PySem.W.typeIn K (.ref cA_WreckError) = some (.type "type"))
    (xq_InvalidForm : PySem.W.excIn K cA_InvalidForm [.type "ValueError", .type "Exception", .type "BaseException", .type "object"] "ValueError.__new__" = true)
    (xk_InvalidForm : PySem.W.keepIn K (.ref cA_InvalidForm) = true)
    (xb_InvalidForm : PySem.W.subIn K (.ref cA_InvalidForm) (.type "BaseException") = some true)
    (xt_InvalidForm : PySem.W.typeIn K (.ref cA_InvalidForm) = some (.type "type"))
    (eg_InvalidForm : PySem.W.findIn K (.ref cA_InvalidForm) "__getattribute__" = some (some (.builtin "BaseException.__getattribute__")))
    (ek_InvalidForm : PySem.W.findIn K (.ref cA_InvalidForm) "__getattr__" = some none)
    (es_InvalidForm : PySem.W.subIn K (.ref cA_InvalidForm) (.type "BaseException") = some true)
    (ed_InvalidForm : PySem.W.hasDictIn K cA_InvalidForm = true)
    (ea_InvalidForm : PySem.W.findIn K (.ref cA_InvalidForm) "__class__" = some (some (.builtin "object.__class__")))
    (en_InvalidForm : PySem.W.specialIn K (.builtin "object.__class__") "__get__" = some (some (.builtin "getset_descriptor.__get__")))
    (et_InvalidForm : PySem.W.takesIn K (.builtin "object.__class__") = some true)
    (em_InvalidForm : PySem.W.mroIn K cA_InvalidForm (.type "object") = some true)
    (ew_InvalidForm : PySem.W.subIn K (.ref cA_InvalidForm) (.ref cA_WreckError) = some true)
    (xq_InvalidMachine : PySem.W.excIn K cA_InvalidMachine [.type "ValueError", .type "Exception", .type "BaseException", .type "object"] "ValueError.__new__" = true)
    (xk_InvalidMachine : PySem.W.keepIn K (.ref cA_InvalidMachine) = true)
    (xb_InvalidMachine : PySem.W.subIn K (.ref cA_InvalidMachine) (.type "BaseException") = some true)
    (xt_InvalidMachine : PySem.W.typeIn K (.ref cA_InvalidMachine) = some (.type "type"))
    (clp_Machine : PySem.W.plainGet K cA_Machine Str.empty = true)
    (clh_Machine : PySem.W.hasDictIn K cA_Machine = true)
    (clo_Machine : PySem.W.plainOver K cA_Machine = true)
    (cls_Machine : PySem.W.findIn K (.ref cA_Machine) "__setattr__" = some (some (.builtin "object.__setattr__")))
    (xq_NoSuchDeed : PySem.W.excIn K cA_NoSuchDeed [.type "ValueError", .type "Exception", .type "BaseException", .type "object"] "ValueError.__new__" = true)
    (xk_NoSuchDeed : PySem.W.keepIn K (.ref cA_NoSuchDeed) = true)
    (xb_NoSuchDeed : PySem.W.subIn K (.ref cA_NoSuchDeed) (.type "BaseException") = some true)
    (xt_NoSuchDeed : PySem.W.typeIn K (.ref cA_NoSuchDeed) = some (.type "type"))
    (clp_RootForm : PySem.W.plainGet K cA_RootForm Str.empty = true)
    (clh_RootForm : PySem.W.hasDictIn K cA_RootForm = true)
    (clo_RootForm : PySem.W.plainOver K cA_RootForm = true)
    (cls_RootForm : PySem.W.findIn K (.ref cA_RootForm) "__setattr__" = some (some (.builtin "object.__setattr__")))
    (na_Machine__full : PySem.W.findIn K (.ref cA_Machine) "_full" = some none)
    (na_Machine_cells : PySem.W.findIn K (.ref cA_Machine) "cells" = some none)
    (na_Machine_deeds : PySem.W.findIn K (.ref cA_Machine) "deeds" = some none)
    (na_Machine_first : PySem.W.findIn K (.ref cA_Machine) "first" = some none)
    (na_RootForm_alphabet : PySem.W.findIn K (.ref cA_RootForm) "alphabet" = some none)
    (na_RootForm_blocks : PySem.W.findIn K (.ref cA_RootForm) "blocks" = some none)
    {f0 : Addr} {oc0 kV0 dc0 pm0 cd0 ct0 : Value} {od0 an0 : Option Addr} {sl0 : Array (Option Value)} (a0 : PySem.W.nsIn K mainGlobals "_law_cell" = some (some (.ref f0))) (l0 : K.lookup f0 = some ⟨oc0, od0, .func (PySem.W.fnOf "_law_cell" "_law_cell" (defArgs s_law_cell) (defBody s_law_cell) (defScope s_law_cell) .none kV0 dc0 pm0 an0 cd0 ct0), sl0⟩) (c0 : PySem.W.codeIn K cd0 "_law_cell" = true) (k0 : PySem.W.keepIn K (.ref f0) = true)
    {f1 : Addr} {oc1 kV1 dc1 pm1 cd1 ct1 : Value} {od1 an1 : Option Addr} {sl1 : Array (Option Value)} (a1 : PySem.W.nsIn K mainGlobals "check_number" = some (some (.ref f1))) (l1 : K.lookup f1 = some ⟨oc1, od1, .func (PySem.W.fnOf "check_number" "check_number" (defArgs s_check_number) (defBody s_check_number) (defScope s_check_number) .none kV1 dc1 pm1 an1 cd1 ct1), sl1⟩) (c1 : PySem.W.codeIn K cd1 "check_number" = true) (k1 : PySem.W.keepIn K (.ref f1) = true)
    {f2 : Addr} {oc2 kV2 dc2 pm2 cd2 ct2 : Value} {od2 an2 : Option Addr} {sl2 : Array (Option Value)} (a2 : PySem.W.nsIn K mainGlobals "check_many_deeds" = some (some (.ref f2))) (l2 : K.lookup f2 = some ⟨oc2, od2, .func (PySem.W.fnOf "check_many_deeds" "check_many_deeds" (defArgs s_check_many_deeds) (defBody s_check_many_deeds) (defScope s_check_many_deeds) .none kV2 dc2 pm2 an2 cd2 ct2), sl2⟩) (c2 : PySem.W.codeIn K cd2 "check_many_deeds" = true) (k2 : PySem.W.keepIn K (.ref f2) = true)
    {f3 : Addr} {oc3 kV3 dc3 pm3 cd3 ct3 : Value} {od3 an3 : Option Addr} {sl3 : Array (Option Value)} (a3 : PySem.W.nsIn K mainGlobals "check_value" = some (some (.ref f3))) (l3 : K.lookup f3 = some ⟨oc3, od3, .func (PySem.W.fnOf "check_value" "check_value" (defArgs s_check_value) (defBody s_check_value) (defScope s_check_value) .none kV3 dc3 pm3 an3 cd3 ct3), sl3⟩) (c3 : PySem.W.codeIn K cd3 "check_value" = true) (k3 : PySem.W.keepIn K (.ref f3) = true)
    {f4 : Addr} {oc4 kV4 dc4 pm4 cd4 ct4 : Value} {od4 an4 : Option Addr} {sl4 : Array (Option Value)} (i4 : PySem.W.findIn K (.ref cA_RootForm) "__init__" = some (some (.ref f4))) (n4 : PySem.W.isFn K (.ref f4) = true) (mk4 : PySem.W.makesIn K cA_RootForm = true) (kc4 : PySem.W.keepIn K (.ref cA_RootForm) = true) (l4 : K.lookup f4 = some ⟨oc4, od4, .func (PySem.W.fnOf "__init__" "RootForm.__init__" (defArgs s_RootForm_init) (defBody s_RootForm_init) (defScope s_RootForm_init) .none kV4 dc4 pm4 an4 cd4 ct4), sl4⟩) (c4 : PySem.W.codeIn K cd4 "RootForm.__init__" = true) (k4 : PySem.W.keepIn K (.ref f4) = true)
    {f5 : Addr} {oc5 kV5 dc5 pm5 cd5 ct5 : Value} {od5 an5 : Option Addr} {sl5 : Array (Option Value)} (a5 : PySem.W.nsIn K mainGlobals "cells_of" = some (some (.ref f5))) (l5 : K.lookup f5 = some ⟨oc5, od5, .func (PySem.W.fnOf "cells_of" "cells_of" (defArgs s_cells_of) (defBody s_cells_of) (defScope s_cells_of) .none kV5 dc5 pm5 an5 cd5 ct5), sl5⟩) (c5 : PySem.W.codeIn K cd5 "cells_of" = true) (k5 : PySem.W.keepIn K (.ref f5) = true)
    {f6 : Addr} {oc6 kV6 dc6 pm6 cd6 ct6 : Value} {od6 an6 : Option Addr} {sl6 : Array (Option Value)} (a6 : PySem.W.nsIn K mainGlobals "digits_of" = some (some (.ref f6))) (l6 : K.lookup f6 = some ⟨oc6, od6, .func (PySem.W.fnOf "digits_of" "digits_of" (defArgs s_digits_of) (defBody s_digits_of) (defScope s_digits_of) .none kV6 dc6 pm6 an6 cd6 ct6), sl6⟩) (c6 : PySem.W.codeIn K cd6 "digits_of" = true) (k6 : PySem.W.keepIn K (.ref f6) = true)
    {f7 : Addr} {oc7 kV7 dc7 pm7 cd7 ct7 : Value} {od7 an7 : Option Addr} {sl7 : Array (Option Value)} (a7 : PySem.W.nsIn K mainGlobals "guard_of" = some (some (.ref f7))) (l7 : K.lookup f7 = some ⟨oc7, od7, .func (PySem.W.fnOf "guard_of" "guard_of" (defArgs s_guard_of) (defBody s_guard_of) (defScope s_guard_of) .none kV7 dc7 pm7 an7 cd7 ct7), sl7⟩) (c7 : PySem.W.codeIn K cd7 "guard_of" = true) (k7 : PySem.W.keepIn K (.ref f7) = true)
    {f8 : Addr} {oc8 kV8 dc8 pm8 cd8 ct8 : Value} {od8 an8 : Option Addr} {sl8 : Array (Option Value)} (a8 : PySem.W.nsIn K mainGlobals "changes_of" = some (some (.ref f8))) (l8 : K.lookup f8 = some ⟨oc8, od8, .func (PySem.W.fnOf "changes_of" "changes_of" (defArgs s_changes_of) (defBody s_changes_of) (defScope s_changes_of) .none kV8 dc8 pm8 an8 cd8 ct8), sl8⟩) (c8 : PySem.W.codeIn K cd8 "changes_of" = true) (k8 : PySem.W.keepIn K (.ref f8) = true)
    {f9 : Addr} {oc9 kV9 dc9 pm9 cd9 ct9 : Value} {od9 an9 : Option Addr} {sl9 : Array (Option Value)} (a9 : PySem.W.nsIn K mainGlobals "disk_with" = some (some (.ref f9))) (l9 : K.lookup f9 = some ⟨oc9, od9, .func (PySem.W.fnOf "disk_with" "disk_with" (defArgs s_disk_with) (defBody s_disk_with) (defScope s_disk_with) .none kV9 dc9 pm9 an9 cd9 ct9), sl9⟩) (c9 : PySem.W.codeIn K cd9 "disk_with" = true) (k9 : PySem.W.keepIn K (.ref f9) = true)
    {f10 : Addr} {oc10 kV10 dc10 pm10 cd10 ct10 : Value} {od10 an10 : Option Addr} {sl10 : Array (Option Value)} (a10 : PySem.W.nsIn K mainGlobals "root_cells" = some (some (.ref f10))) (l10 : K.lookup f10 = some ⟨oc10, od10, .func (PySem.W.fnOf "root_cells" "root_cells" (defArgs s_root_cells) (defBody s_root_cells) (defScope s_root_cells) .none kV10 dc10 pm10 an10 cd10 ct10), sl10⟩) (c10 : PySem.W.codeIn K cd10 "root_cells" = true) (k10 : PySem.W.keepIn K (.ref f10) = true)
    {f11 : Addr} {oc11 kV11 dc11 pm11 cd11 ct11 : Value} {od11 an11 : Option Addr} {sl11 : Array (Option Value)} (a11 : PySem.W.nsIn K mainGlobals "generations_of" = some (some (.ref f11))) (l11 : K.lookup f11 = some ⟨oc11, od11, .func (PySem.W.fnOf "generations_of" "generations_of" (defArgs s_generations_of) (defBody s_generations_of) (defScope s_generations_of) .none kV11 dc11 pm11 an11 cd11 ct11), sl11⟩) (c11 : PySem.W.codeIn K cd11 "generations_of" = true) (k11 : PySem.W.keepIn K (.ref f11) = true)
    {f12 : Addr} {oc12 kV12 dc12 pm12 cd12 ct12 : Value} {od12 an12 : Option Addr} {sl12 : Array (Option Value)} (a12 : PySem.W.nsIn K mainGlobals "pairs_of_roots" = some (some (.ref f12))) (l12 : K.lookup f12 = some ⟨oc12, od12, .func (PySem.W.fnOf "pairs_of_roots" "pairs_of_roots" (defArgs s_pairs_of_roots) (defBody s_pairs_of_roots) (defScope s_pairs_of_roots) .none kV12 dc12 pm12 an12 cd12 ct12), sl12⟩) (c12 : PySem.W.codeIn K cd12 "pairs_of_roots" = true) (k12 : PySem.W.keepIn K (.ref f12) = true)
    {f13 : Addr} {oc13 kV13 dc13 pm13 cd13 ct13 : Value} {od13 an13 : Option Addr} {sl13 : Array (Option Value)} (a13 : PySem.W.nsIn K mainGlobals "newer_root" = some (some (.ref f13))) (l13 : K.lookup f13 = some ⟨oc13, od13, .func (PySem.W.fnOf "newer_root" "newer_root" (defArgs s_newer_root) (defBody s_newer_root) (defScope s_newer_root) .none kV13 dc13 pm13 an13 cd13 ct13), sl13⟩) (c13 : PySem.W.codeIn K cd13 "newer_root" = true) (k13 : PySem.W.keepIn K (.ref f13) = true)
    {f14 : Addr} {oc14 kV14 dc14 pm14 cd14 ct14 : Value} {od14 an14 : Option Addr} {sl14 : Array (Option Value)} (a14 : PySem.W.nsIn K mainGlobals "deed_name" = some (some (.ref f14))) (l14 : K.lookup f14 = some ⟨oc14, od14, .func (PySem.W.fnOf "deed_name" "deed_name" (defArgs s_deed_name) (defBody s_deed_name) (defScope s_deed_name) .none kV14 dc14 pm14 an14 cd14 ct14), sl14⟩) (c14 : PySem.W.codeIn K cd14 "deed_name" = true) (k14 : PySem.W.keepIn K (.ref f14) = true)
    {f15 : Addr} {oc15 kV15 dc15 pm15 cd15 ct15 : Value} {od15 an15 : Option Addr} {sl15 : Array (Option Value)} (a15 : PySem.W.nsIn K mainGlobals "free_block" = some (some (.ref f15))) (l15 : K.lookup f15 = some ⟨oc15, od15, .func (PySem.W.fnOf "free_block" "free_block" (defArgs s_free_block) (defBody s_free_block) (defScope s_free_block) .none kV15 dc15 pm15 an15 cd15 ct15), sl15⟩) (c15 : PySem.W.codeIn K cd15 "free_block" = true) (k15 : PySem.W.keepIn K (.ref f15) = true)
    {f16 : Addr} {oc16 kV16 dc16 pm16 cd16 ct16 : Value} {od16 an16 : Option Addr} {sl16 : Array (Option Value)} (a16 : PySem.W.nsIn K mainGlobals "torn_pairs" = some (some (.ref f16))) (l16 : K.lookup f16 = some ⟨oc16, od16, .func (PySem.W.fnOf "torn_pairs" "torn_pairs" (defArgs s_torn_pairs) (defBody s_torn_pairs) (defScope s_torn_pairs) .none kV16 dc16 pm16 an16 cd16 ct16), sl16⟩) (c16 : PySem.W.codeIn K cd16 "torn_pairs" = true) (k16 : PySem.W.keepIn K (.ref f16) = true)
    {f17 : Addr} {oc17 kV17 dc17 pm17 cd17 ct17 : Value} {od17 an17 : Option Addr} {sl17 : Array (Option Value)} (a17 : PySem.W.nsIn K mainGlobals "updated_pairs" = some (some (.ref f17))) (l17 : K.lookup f17 = some ⟨oc17, od17, .func (PySem.W.fnOf "updated_pairs" "updated_pairs" (defArgs s_updated_pairs) (defBody s_updated_pairs) (defScope s_updated_pairs) .none kV17 dc17 pm17 an17 cd17 ct17), sl17⟩) (c17 : PySem.W.codeIn K cd17 "updated_pairs" = true) (k17 : PySem.W.keepIn K (.ref f17) = true)
    {f18 : Addr} {oc18 kV18 dc18 pm18 cd18 ct18 : Value} {od18 an18 : Option Addr} {sl18 : Array (Option Value)} (a18 : PySem.W.nsIn K mainGlobals "update_deed" = some (some (.ref f18))) (l18 : K.lookup f18 = some ⟨oc18, od18, .func (PySem.W.fnOf "update_deed" "update_deed" (defArgs s_update_deed) (defBody s_update_deed) (defScope s_update_deed) .none kV18 dc18 pm18 an18 cd18 ct18), sl18⟩) (c18 : PySem.W.codeIn K cd18 "update_deed" = true) (k18 : PySem.W.keepIn K (.ref f18) = true)
    {f19 : Addr} {oc19 kV19 dc19 pm19 cd19 ct19 : Value} {od19 an19 : Option Addr} {sl19 : Array (Option Value)} (a19 : PySem.W.nsIn K mainGlobals "torn_deed" = some (some (.ref f19))) (l19 : K.lookup f19 = some ⟨oc19, od19, .func (PySem.W.fnOf "torn_deed" "torn_deed" (defArgs s_torn_deed) (defBody s_torn_deed) (defScope s_torn_deed) .none kV19 dc19 pm19 an19 cd19 ct19), sl19⟩) (c19 : PySem.W.codeIn K cd19 "torn_deed" = true) (k19 : PySem.W.keepIn K (.ref f19) = true)
    {f20 : Addr} {oc20 kV20 dc20 pm20 cd20 ct20 : Value} {od20 an20 : Option Addr} {sl20 : Array (Option Value)} (a20 : PySem.W.nsIn K mainGlobals "is_name" = some (some (.ref f20))) (l20 : K.lookup f20 = some ⟨oc20, od20, .func (PySem.W.fnOf "is_name" "is_name" (defArgs s_is_name) (defBody s_is_name) (defScope s_is_name) .none kV20 dc20 pm20 an20 cd20 ct20), sl20⟩) (c20 : PySem.W.codeIn K cd20 "is_name" = true) (k20 : PySem.W.keepIn K (.ref f20) = true)
    {f21 : Addr} {oc21 kV21 dc21 pm21 cd21 ct21 : Value} {od21 an21 : Option Addr} {sl21 : Array (Option Value)} (a21 : PySem.W.nsIn K mainGlobals "ascend" = some (some (.ref f21))) (l21 : K.lookup f21 = some ⟨oc21, od21, .func (PySem.W.fnOf "ascend" "ascend" (defArgs s_ascend) (defBody s_ascend) (defScope s_ascend) .none kV21 dc21 pm21 an21 cd21 ct21), sl21⟩) (c21 : PySem.W.codeIn K cd21 "ascend" = true) (k21 : PySem.W.keepIn K (.ref f21) = true)
    {f22 : Addr} {oc22 kV22 dc22 pm22 cd22 ct22 : Value} {od22 an22 : Option Addr} {sl22 : Array (Option Value)} (a22 : PySem.W.nsIn K mainGlobals "is_source" = some (some (.ref f22))) (l22 : K.lookup f22 = some ⟨oc22, od22, .func (PySem.W.fnOf "is_source" "is_source" (defArgs s_is_source) (defBody s_is_source) (defScope s_is_source) .none kV22 dc22 pm22 an22 cd22 ct22), sl22⟩) (c22 : PySem.W.codeIn K cd22 "is_source" = true) (k22 : PySem.W.keepIn K (.ref f22) = true)
    {f23 : Addr} {oc23 kV23 dc23 pm23 cd23 ct23 : Value} {od23 an23 : Option Addr} {sl23 : Array (Option Value)} (a23 : PySem.W.nsIn K mainGlobals "fits" = some (some (.ref f23))) (l23 : K.lookup f23 = some ⟨oc23, od23, .func (PySem.W.fnOf "fits" "fits" (defArgs s_fits) (defBody s_fits) (defScope s_fits) .none kV23 dc23 pm23 an23 cd23 ct23), sl23⟩) (c23 : PySem.W.codeIn K cd23 "fits" = true) (k23 : PySem.W.keepIn K (.ref f23) = true)
    {f24 : Addr} {oc24 kV24 dc24 pm24 cd24 ct24 : Value} {od24 an24 : Option Addr} {sl24 : Array (Option Value)} (a24 : PySem.W.nsIn K mainGlobals "is_guard" = some (some (.ref f24))) (l24 : K.lookup f24 = some ⟨oc24, od24, .func (PySem.W.fnOf "is_guard" "is_guard" (defArgs s_is_guard) (defBody s_is_guard) (defScope s_is_guard) .none kV24 dc24 pm24 an24 cd24 ct24), sl24⟩) (c24 : PySem.W.codeIn K cd24 "is_guard" = true) (k24 : PySem.W.keepIn K (.ref f24) = true)
    {f25 : Addr} {oc25 kV25 dc25 pm25 cd25 ct25 : Value} {od25 an25 : Option Addr} {sl25 : Array (Option Value)} (a25 : PySem.W.nsIn K mainGlobals "are_changes" = some (some (.ref f25))) (l25 : K.lookup f25 = some ⟨oc25, od25, .func (PySem.W.fnOf "are_changes" "are_changes" (defArgs s_are_changes) (defBody s_are_changes) (defScope s_are_changes) .none kV25 dc25 pm25 an25 cd25 ct25), sl25⟩) (c25 : PySem.W.codeIn K cd25 "are_changes" = true) (k25 : PySem.W.keepIn K (.ref f25) = true)
    {f26 : Addr} {oc26 kV26 dc26 pm26 cd26 ct26 : Value} {od26 an26 : Option Addr} {sl26 : Array (Option Value)} (a26 : PySem.W.nsIn K mainGlobals "check_cells" = some (some (.ref f26))) (l26 : K.lookup f26 = some ⟨oc26, od26, .func (PySem.W.fnOf "check_cells" "check_cells" (defArgs s_check_cells) (defBody s_check_cells) (defScope s_check_cells) .none kV26 dc26 pm26 an26 cd26 ct26), sl26⟩) (c26 : PySem.W.codeIn K cd26 "check_cells" = true) (k26 : PySem.W.keepIn K (.ref f26) = true)
    {f27 : Addr} {oc27 kV27 dc27 pm27 cd27 ct27 : Value} {od27 an27 : Option Addr} {sl27 : Array (Option Value)} (a27 : PySem.W.nsIn K mainGlobals "check_deeds" = some (some (.ref f27))) (l27 : K.lookup f27 = some ⟨oc27, od27, .func (PySem.W.fnOf "check_deeds" "check_deeds" (defArgs s_check_deeds) (defBody s_check_deeds) (defScope s_check_deeds) .none kV27 dc27 pm27 an27 cd27 ct27), sl27⟩) (c27 : PySem.W.codeIn K cd27 "check_deeds" = true) (k27 : PySem.W.keepIn K (.ref f27) = true)
    {f28 : Addr} {oc28 kV28 dc28 pm28 cd28 ct28 : Value} {od28 an28 : Option Addr} {sl28 : Array (Option Value)} (i28 : PySem.W.findIn K (.ref cA_Machine) "__init__" = some (some (.ref f28))) (n28 : PySem.W.isFn K (.ref f28) = true) (mk28 : PySem.W.makesIn K cA_Machine = true) (kc28 : PySem.W.keepIn K (.ref cA_Machine) = true) (l28 : K.lookup f28 = some ⟨oc28, od28, .func (PySem.W.fnOf "__init__" "Machine.__init__" (defArgs s_Machine_init) (defBody s_Machine_init) (defScope s_Machine_init) .none kV28 dc28 pm28 an28 cd28 ct28), sl28⟩) (c28 : PySem.W.codeIn K cd28 "Machine.__init__" = true) (k28 : PySem.W.keepIn K (.ref f28) = true)
    {f29 : Addr} {oc29 kV29 dc29 pm29 cd29 ct29 : Value} {od29 an29 : Option Addr} {sl29 : Array (Option Value)} (a29 : PySem.W.nsIn K mainGlobals "root_machine" = some (some (.ref f29))) (l29 : K.lookup f29 = some ⟨oc29, od29, .func (PySem.W.fnOf "root_machine" "root_machine" (defArgs s_root_machine) (defBody s_root_machine) (defScope s_root_machine) .none kV29 dc29 pm29 an29 cd29 ct29), sl29⟩) (c29 : PySem.W.codeIn K cd29 "root_machine" = true) (k29 : PySem.W.keepIn K (.ref f29) = true)
    {f30 kd30 : Addr} {oc30 dc30 pm30 cd30 ct30 : Value} {od30 an30 : Option Addr} {sl30 : Array (Option Value)} (a30 : PySem.W.nsIn K mainGlobals "root_value" = some (some (.ref f30))) (l30 : K.lookup f30 = some ⟨oc30, od30, .func (PySem.W.fnOf "root_value" "root_value" (defArgs s_root_value) (defBody s_root_value) (defScope s_root_value) .none (.ref kd30) dc30 pm30 an30 cd30 ct30), sl30⟩) (c30 : PySem.W.codeIn K cd30 "root_value" = true) (k30 : PySem.W.keepIn K (.ref f30) = true) (w30 : PySem.W.nsIn K kd30 "former" = some (some (.bool false)))
    {f31 kd31 : Addr} {oc31 dc31 pm31 cd31 ct31 : Value} {od31 an31 : Option Addr} {sl31 : Array (Option Value)} (a31 : PySem.W.nsIn K mainGlobals "root_update" = some (some (.ref f31))) (l31 : K.lookup f31 = some ⟨oc31, od31, .func (PySem.W.fnOf "root_update" "root_update" (defArgs s_root_update) (defBody s_root_update) (defScope s_root_update) .none (.ref kd31) dc31 pm31 an31 cd31 ct31), sl31⟩) (c31 : PySem.W.codeIn K cd31 "root_update" = true) (k31 : PySem.W.keepIn K (.ref f31) = true) (w31 : PySem.W.nsIn K kd31 "torn" = some (some (.bool false)))
    {f32 : Addr} {oc32 kV32 dc32 pm32 cd32 ct32 : Value} {od32 an32 : Option Addr} {sl32 : Array (Option Value)} (a32 : PySem.W.nsIn K mainGlobals "_law_newer" = some (some (.ref f32))) (l32 : K.lookup f32 = some ⟨oc32, od32, .func (PySem.W.fnOf "_law_newer" "_law_newer" (defArgs s_law_newer) (defBody s_law_newer) (defScope s_law_newer) .none kV32 dc32 pm32 an32 cd32 ct32), sl32⟩) (c32 : PySem.W.codeIn K cd32 "_law_newer" = true) (k32 : PySem.W.keepIn K (.ref f32) = true)
    {f33 : Addr} {oc33 kV33 dc33 pm33 cd33 ct33 : Value} {od33 an33 : Option Addr} {sl33 : Array (Option Value)} (a33 : PySem.W.nsIn K mainGlobals "_law_update" = some (some (.ref f33))) (l33 : K.lookup f33 = some ⟨oc33, od33, .func (PySem.W.fnOf "_law_update" "_law_update" (defArgs s_law_update) (defBody s_law_update) (defScope s_law_update) .none kV33 dc33 pm33 an33 cd33 ct33), sl33⟩) (c33 : PySem.W.codeIn K cd33 "_law_update" = true) (k33 : PySem.W.keepIn K (.ref f33) = true)
    {f34 : Addr} {oc34 kV34 dc34 pm34 cd34 ct34 : Value} {od34 an34 : Option Addr} {sl34 : Array (Option Value)} (a34 : PySem.W.nsIn K mainGlobals "_law_value" = some (some (.ref f34))) (l34 : K.lookup f34 = some ⟨oc34, od34, .func (PySem.W.fnOf "_law_value" "_law_value" (defArgs s_law_value) (defBody s_law_value) (defScope s_law_value) .none kV34 dc34 pm34 an34 cd34 ct34), sl34⟩) (c34 : PySem.W.codeIn K cd34 "_law_value" = true) (k34 : PySem.W.keepIn K (.ref f34) = true)
    {f35 : Addr} {oc35 kV35 dc35 pm35 cd35 ct35 : Value} {od35 an35 : Option Addr} {sl35 : Array (Option Value)} (a35 : PySem.W.nsIn K mainGlobals "_law_two" = some (some (.ref f35))) (l35 : K.lookup f35 = some ⟨oc35, od35, .func (PySem.W.fnOf "_law_two" "_law_two" (defArgs s_law_two) (defBody s_law_two) (defScope s_law_two) .none kV35 dc35 pm35 an35 cd35 ct35), sl35⟩) (c35 : PySem.W.codeIn K cd35 "_law_two" = true) (k35 : PySem.W.keepIn K (.ref f35) = true)
    {f36 : Addr} {oc36 kV36 dc36 pm36 cd36 ct36 : Value} {od36 an36 : Option Addr} {sl36 : Array (Option Value)} (a36 : PySem.W.nsIn K mainGlobals "_law_deeds" = some (some (.ref f36))) (l36 : K.lookup f36 = some ⟨oc36, od36, .func (PySem.W.fnOf "_law_deeds" "_law_deeds" (defArgs s_law_deeds) (defBody s_law_deeds) (defScope s_law_deeds) .none kV36 dc36 pm36 an36 cd36 ct36), sl36⟩) (c36 : PySem.W.codeIn K cd36 "_law_deeds" = true) (k36 : PySem.W.keepIn K (.ref f36) = true)
    {f37 : Addr} {oc37 kV37 dc37 pm37 cd37 ct37 : Value} {od37 an37 : Option Addr} {sl37 : Array (Option Value)} (a37 : PySem.W.nsIn K mainGlobals "_law_refused" = some (some (.ref f37))) (l37 : K.lookup f37 = some ⟨oc37, od37, .func (PySem.W.fnOf "_law_refused" "_law_refused" (defArgs s_law_refused) (defBody s_law_refused) (defScope s_law_refused) .none kV37 dc37 pm37 an37 cd37 ct37), sl37⟩) (c37 : PySem.W.codeIn K cd37 "_law_refused" = true) (k37 : PySem.W.keepIn K (.ref f37) = true)
    {f38 : Addr} {oc38 kV38 dc38 pm38 cd38 ct38 : Value} {od38 an38 : Option Addr} {sl38 : Array (Option Value)} (a38 : PySem.W.nsIn K mainGlobals "allows" = some (some (.ref f38))) (l38 : K.lookup f38 = some ⟨oc38, od38, .func (PySem.W.fnOf "allows" "allows" (defArgs s_allows) (defBody s_allows) (defScope s_allows) .none kV38 dc38 pm38 an38 cd38 ct38), sl38⟩) (c38 : PySem.W.codeIn K cd38 "allows" = true) (k38 : PySem.W.keepIn K (.ref f38) = true)
    {f39 : Addr} {oc39 kV39 dc39 pm39 cd39 ct39 : Value} {od39 an39 : Option Addr} {sl39 : Array (Option Value)} (a39 : PySem.W.nsIn K mainGlobals "changed" = some (some (.ref f39))) (l39 : K.lookup f39 = some ⟨oc39, od39, .func (PySem.W.fnOf "changed" "changed" (defArgs s_changed) (defBody s_changed) (defScope s_changed) .none kV39 dc39 pm39 an39 cd39 ct39), sl39⟩) (c39 : PySem.W.codeIn K cd39 "changed" = true) (k39 : PySem.W.keepIn K (.ref f39) = true)
    {f40 : Addr} {oc40 kV40 dc40 pm40 cd40 ct40 : Value} {od40 an40 : Option Addr} {sl40 : Array (Option Value)} (a40 : PySem.W.nsIn K mainGlobals "check_deed" = some (some (.ref f40))) (l40 : K.lookup f40 = some ⟨oc40, od40, .func (PySem.W.fnOf "check_deed" "check_deed" (defArgs s_check_deed) (defBody s_check_deed) (defScope s_check_deed) .none kV40 dc40 pm40 an40 cd40 ct40), sl40⟩) (c40 : PySem.W.codeIn K cd40 "check_deed" = true) (k40 : PySem.W.keepIn K (.ref f40) = true)
    {f41 : Addr} {oc41 kV41 dc41 pm41 cd41 ct41 : Value} {od41 an41 : Option Addr} {sl41 : Array (Option Value)} (a41 : PySem.W.nsIn K mainGlobals "check_disk" = some (some (.ref f41))) (l41 : K.lookup f41 = some ⟨oc41, od41, .func (PySem.W.fnOf "check_disk" "check_disk" (defArgs s_check_disk) (defBody s_check_disk) (defScope s_check_disk) .none kV41 dc41 pm41 an41 cd41 ct41), sl41⟩) (c41 : PySem.W.codeIn K cd41 "check_disk" = true) (k41 : PySem.W.keepIn K (.ref f41) = true)
    {f42 : Addr} {oc42 kV42 dc42 pm42 cd42 ct42 : Value} {od42 an42 : Option Addr} {sl42 : Array (Option Value)} (a42 : PySem.W.nsIn K mainGlobals "can_do" = some (some (.ref f42))) (l42 : K.lookup f42 = some ⟨oc42, od42, .func (PySem.W.fnOf "can_do" "can_do" (defArgs s_can_do) (defBody s_can_do) (defScope s_can_do) .none kV42 dc42 pm42 an42 cd42 ct42), sl42⟩) (c42 : PySem.W.codeIn K cd42 "can_do" = true) (k42 : PySem.W.keepIn K (.ref f42) = true)
    {f43 cc43 cda43 : Addr} {oc43 kV43 dc43 pm43 ct43 ccl43 ccv43 : Value} {od43 an43 cdd43 cld43 : Option Addr} {sl43 ccs43 csl43 : Array (Option Value)} {vs43 : Array Value} {fi43 : Str} {tf43 : Tok} {xn43 xq43 : Str} {xN43 : Addr} {xbs43 xbm43 : List Value} {xsn43 : List Str} {xsu43 : List Value} {xab43 : Bool} {xco43 : Option Bool} {xdd43 : Option Addr} {xk043 xk143 xk243 xk343 xk543 : Option Value} (i43 : PySem.W.findIn K (.ref cA_CannotDo) "__init__" = some (some (.ref f43))) (l43 : K.lookup f43 = some ⟨oc43, od43, .func (PySem.W.ksFn "__init__" "CannotDo.__init__" (defArgs s_CannotDo_init) (defBody s_CannotDo_init) (defScope s_CannotDo_init) .none kV43 dc43 pm43 an43 (.ref cda43) ct43 cc43), sl43⟩) (c43 : PySem.W.codeIn K (.ref cda43) "CannotDo.__init__" = true) (t43 : PySem.W.typeIn K (.ref f43) = some (.type "function")) (e43 : K.lookup cda43 = some ⟨ccl43, cdd43, .fields vs43, ccs43⟩) (v43 : vs43[2]? = some (.str fi43 tf43)) (w43 : ((PySem.Challenge.pw_raisedwreck_k29_roots.main.file : Str) == fi43) = true) (y43 : K.lookup cc43 = some ⟨ccv43, cld43, .cell (some (.ref cA_CannotDo)), csl43⟩) (s43 : PySem.W.mroIn K cA_CannotDo (.ref cA_CannotDo) = some true) (sv43 : PySem.W.subIn K (.ref cA_CannotDo) (.type "ValueError") = some true) (su43 : PySem.W.ks_superIn K cA_CannotDo cA_CannotDo "__init__" = some (some (.builtin "ValueError.__init__"))) (op43 : PySem.W.nsIn K cStatics "thirdparty.any" = some none) (tp43 : (PySem.Challenge.pw_raisedwreck_k29_roots.main.scope.names.lookup ("super" : Str)).isSome = false) (ox43 : K.lookup cA_CannotDo = some (excClassObj xn43 xq43 cA_CannotDo xN43 xbs43 xbm43 true xsn43 xsu43 xab43 xco43 xdd43 xk043 xk143 xk243 xk343 xk543 "ValueError.__new__")) (or43 : PySem.HandSPX.refsVE xbm43 = true) (sa43 : PySem.W.findIn K (.ref cA_CannotDo) "__setattr__" = some (some (.builtin "object.__setattr__"))) (eb43 : PySem.W.subIn K (.ref cA_CannotDo) (.type "BaseException") = some true) (et43 : PySem.W.typeIn K (.ref cA_CannotDo) = some (.type "type")) (ek43 : PySem.W.keepIn K (.ref cA_CannotDo) = true) (fx43 : PySem.W.findIn K (.ref cA_CannotDo) "position" = some none) (zs43 : PySem.W.nsIn K mainGlobals "super" = some none)
    {f44 : Addr} {oc44 kV44 dc44 pm44 cd44 ct44 : Value} {od44 an44 : Option Addr} {sl44 : Array (Option Value)} (a44 : PySem.W.nsIn K mainGlobals "after" = some (some (.ref f44))) (l44 : K.lookup f44 = some ⟨oc44, od44, .func (PySem.W.fnOf "after" "after" (defArgs s_after) (defBody s_after) (defScope s_after) .none kV44 dc44 pm44 an44 cd44 ct44), sl44⟩) (c44 : PySem.W.codeIn K cd44 "after" = true) (k44 : PySem.W.keepIn K (.ref f44) = true)
    {f45 : Addr} {oc45 kV45 dc45 pm45 cd45 ct45 : Value} {od45 an45 : Option Addr} {sl45 : Array (Option Value)} (i45 : PySem.W.findIn K (.ref cA_Machine) "deed" = some (some (.ref f45))) (n45 : PySem.W.isFn K (.ref f45) = true) (l45 : K.lookup f45 = some ⟨oc45, od45, .func (PySem.W.fnOf "deed" "Machine.deed" (defArgs s_Machine_deed) (defBody s_Machine_deed) (defScope s_Machine_deed) .none kV45 dc45 pm45 an45 cd45 ct45), sl45⟩) (c45 : PySem.W.codeIn K cd45 "Machine.deed" = true) (k45 : PySem.W.keepIn K (.ref f45) = true)
    {f46 : Addr} {oc46 kV46 dc46 pm46 cd46 ct46 : Value} {od46 an46 : Option Addr} {sl46 : Array (Option Value)} (a46 : PySem.W.nsIn K mainGlobals "law" = some (some (.ref f46))) (l46 : K.lookup f46 = some ⟨oc46, od46, .func (PySem.W.fnOf "law" "law" (defArgs s_law) (defBody s_law) (defScope s_law) .none kV46 dc46 pm46 an46 cd46 ct46), sl46⟩) (c46 : PySem.W.codeIn K cd46 "law" = true) (k46 : PySem.W.keepIn K (.ref f46) = true)
    (z_ValueError : PySem.W.nsIn K mainGlobals "ValueError" = some none)
    (z_all : PySem.W.nsIn K mainGlobals "all" = some none)
    (z_bool : PySem.W.nsIn K mainGlobals "bool" = some none)
    (z_enumerate : PySem.W.nsIn K mainGlobals "enumerate" = some none)
    (z_int : PySem.W.nsIn K mainGlobals "int" = some none)
    (z_isinstance : PySem.W.nsIn K mainGlobals "isinstance" = some none)
    (z_len : PySem.W.nsIn K mainGlobals "len" = some none)
    (z_list : PySem.W.nsIn K mainGlobals "list" = some none)
    (z_min : PySem.W.nsIn K mainGlobals "min" = some none)
    (z_range : PySem.W.nsIn K mainGlobals "range" = some none)
    (z_str : PySem.W.nsIn K mainGlobals "str" = some none)
    (z_tuple : PySem.W.nsIn K mainGlobals "tuple" = some none)
    (z_zip : PySem.W.nsIn K mainGlobals "zip" = some none)
    {t_BLOCK : _} (x_BLOCK : PySem.W.nsIn K mainGlobals "BLOCK" = some (some (.int 2 t_BLOCK)))
    {t_CONTENTS : _} (x_CONTENTS : PySem.W.nsIn K mainGlobals "CONTENTS" = some (some (.int 4 t_CONTENTS)))
    {t_GENERATIONS : _} (x_GENERATIONS : PySem.W.nsIn K mainGlobals "GENERATIONS" = some (some (.int 3 t_GENERATIONS)))
    {t_LETTERS : _} (x_LETTERS : PySem.W.nsIn K mainGlobals "LETTERS" = some (some (.str "abcdefghijklmnopqrstuvwxyz" t_LETTERS)))
    {t_LETTERS_AND_DIGITS : _} (x_LETTERS_AND_DIGITS : PySem.W.nsIn K mainGlobals "LETTERS_AND_DIGITS" = some (some (.str "abcdefghijklmnopqrstuvwxyz0123456789" t_LETTERS_AND_DIGITS)))
    {t_LONGEST_NAME : _} (x_LONGEST_NAME : PySem.W.nsIn K mainGlobals "LONGEST_NAME" = some (some (.int 12 t_LONGEST_NAME)))
    {t_MOST_CELLS : _} (x_MOST_CELLS : PySem.W.nsIn K mainGlobals "MOST_CELLS" = some (some (.int 24 t_MOST_CELLS)))
    {t_MOST_DEEDS : _} (x_MOST_DEEDS : PySem.W.nsIn K mainGlobals "MOST_DEEDS" = some (some (.int 400 t_MOST_DEEDS)))
    {t_MOST_VALUES : _} (x_MOST_VALUES : PySem.W.nsIn K mainGlobals "MOST_VALUES" = some (some (.int 16 t_MOST_VALUES)))
    {t_ROOTS : _} (x_ROOTS : PySem.W.nsIn K mainGlobals "ROOTS" = some (some (.int 2 t_ROOTS)))
    : ∃ fd : FuncData, (∀ (s : Shared) (v : Value), BindsTo s fd ⟨[v], []⟩ [("script", v)]) ∧ ∀ base : Heap, K.In base → base.Ns mainGlobals mg → FnOk PySem.Challenge.pw_raisedwreck_k29_roots w K mg base (L2.CX PySem.Challenge.pw_raisedwreck_k29_roots w) 7 fa fd ["script"] (spP K 1 S_law) := by
  have e := hfa.symm.trans (PySem.W.mg_of X G a46)
  cases e
  have T : Txt mg := ⟨PySem.W.mg_none_of X G z_ValueError, PySem.W.mg_none_of X G z_all, PySem.W.mg_none_of X G z_bool, PySem.W.mg_none_of X G z_enumerate, PySem.W.mg_none_of X G z_int, PySem.W.mg_none_of X G z_isinstance, PySem.W.mg_none_of X G z_len, PySem.W.mg_none_of X G z_list, PySem.W.mg_none_of X G z_min, PySem.W.mg_none_of X G z_range, PySem.W.mg_none_of X G z_str, PySem.W.mg_none_of X G z_tuple, PySem.W.mg_none_of X G z_zip, ⟨_, PySem.W.mg_of X G x_BLOCK⟩, ⟨_, PySem.W.mg_of X G x_CONTENTS⟩, ⟨_, PySem.W.mg_of X G x_GENERATIONS⟩, ⟨_, PySem.W.mg_of X G x_LETTERS⟩, ⟨_, PySem.W.mg_of X G x_LETTERS_AND_DIGITS⟩, ⟨_, PySem.W.mg_of X G x_LONGEST_NAME⟩, ⟨_, PySem.W.mg_of X G x_MOST_CELLS⟩, ⟨_, PySem.W.mg_of X G x_MOST_DEEDS⟩, ⟨_, PySem.W.mg_of X G x_MOST_VALUES⟩, ⟨_, PySem.W.mg_of X G x_ROOTS⟩⟩
  have X_InvalidDisk : XF K mg "InvalidDisk" cA_InvalidDisk := ⟨PySem.W.mg_of X G g_InvalidDisk, xq_InvalidDisk, xk_InvalidDisk, xb_InvalidDisk, xt_InvalidDisk⟩
  have X_InvalidFile : XF K mg "InvalidFile" cA_InvalidFile := ⟨PySem.W.mg_of X G g_InvalidFile, xq_InvalidFile, xk_InvalidFile, xb_InvalidFile, xt_InvalidFile⟩
  have G_InvalidFile : mg "InvalidFile" = some (.ref cA_InvalidFile) := PySem.W.mg_of X G g_InvalidFile
  have xc_InvalidFile : XC K cA_InvalidFile cA_WreckError := ⟨⟨eg_InvalidFile, ek_InvalidFile, es_InvalidFile, ed_InvalidFile, ea_InvalidFile, en_InvalidFile, et_InvalidFile, em_InvalidFile⟩, PySem.W.exm_ref sb_WreckError hd_WreckError ty_WreckError ew_InvalidFile⟩
  have X_InvalidForm : XF K mg "InvalidForm" cA_InvalidForm := ⟨PySem.W.mg_of X G g_InvalidForm, xq_InvalidForm, xk_InvalidForm, xb_InvalidForm, xt_InvalidForm⟩
  have G_InvalidForm : mg "InvalidForm" = some (.ref cA_InvalidForm) := PySem.W.mg_of X G g_InvalidForm
  have xc_InvalidForm : XC K cA_InvalidForm cA_WreckError := ⟨⟨eg_InvalidForm, ek_InvalidForm, es_InvalidForm, ed_InvalidForm, ea_InvalidForm, en_InvalidForm, et_InvalidForm, em_InvalidForm⟩, PySem.W.exm_ref sb_WreckError hd_WreckError ty_WreckError ew_InvalidForm⟩
  have X_InvalidMachine : XF K mg "InvalidMachine" cA_InvalidMachine := ⟨PySem.W.mg_of X G g_InvalidMachine, xq_InvalidMachine, xk_InvalidMachine, xb_InvalidMachine, xt_InvalidMachine⟩
  have cl_Machine : Cls K cA_Machine := ⟨clp_Machine, clh_Machine, clo_Machine, cls_Machine⟩
  have X_NoSuchDeed : XF K mg "NoSuchDeed" cA_NoSuchDeed := ⟨PySem.W.mg_of X G g_NoSuchDeed, xq_NoSuchDeed, xk_NoSuchDeed, xb_NoSuchDeed, xt_NoSuchDeed⟩
  have cl_RootForm : Cls K cA_RootForm := ⟨clp_RootForm, clh_RootForm, clo_RootForm, cls_RootForm⟩
  have G_WreckError : mg "WreckError" = some (.ref cA_WreckError) := PySem.W.mg_of X G g_WreckError
  have ki_InvalidFile_InvalidFile : PySem.W.kitOne K (.ref cA_InvalidFile) (.ref cA_InvalidFile) = some true := kit_self
  have ki_InvalidForm_InvalidForm : PySem.W.kitOne K (.ref cA_InvalidForm) (.ref cA_InvalidForm) = some true := kit_self
  have F0 := fun_mk (st := s_law_cell) l0 c0 k0
  have b0 := F0.binds (ps := ["script", "k"]) fun _ _ _ _ _ _ us hl => match us, hl with | [_, _], _ => rfl
  have F1 := fun_mk (st := s_check_number) l1 c1 k1
  have b1 := F1.binds (ps := ["number", "least", "most"]) fun _ _ _ _ _ _ us hl => match us, hl with | [_, _, _], _ => rfl
  have F2 := fun_mk (st := s_check_many_deeds) l2 c2 k2
  have b2 := F2.binds (ps := ["many"]) fun _ _ _ _ _ _ us hl => match us, hl with | [_], _ => rfl
  have F3 := fun_mk (st := s_check_value) l3 c3 k3
  have b3 := F3.binds (ps := ["alphabet", "value"]) fun _ _ _ _ _ _ us hl => match us, hl with | [_, _], _ => rfl
  have F4 := fun_mk (st := s_RootForm_init) l4 c4 k4
  have b4 := F4.binds (ps := ["self", "blocks", "alphabet"]) fun _ _ _ _ _ _ us hl => match us, hl with | [_, _, _], _ => rfl
  have F5 := fun_mk (st := s_cells_of) l5 c5 k5
  have b5 := F5.binds (ps := ["letter", "many", "size"]) fun _ _ _ _ _ _ us hl => match us, hl with | [_, _, _], _ => rfl
  have F6 := fun_mk (st := s_digits_of) l6 c6 k6
  have b6 := F6.binds (ps := ["values"]) fun _ _ _ _ _ _ us hl => match us, hl with | [_], _ => rfl
  have F7 := fun_mk (st := s_guard_of) l7 c7 k7
  have b7 := F7.binds (ps := ["pairs"]) fun _ _ _ _ _ _ us hl => match us, hl with | [_], _ => rfl
  have F8 := fun_mk (st := s_changes_of) l8 c8 k8
  have b8 := F8.binds (ps := ["pairs"]) fun _ _ _ _ _ _ us hl => match us, hl with | [_], _ => rfl
  have F9 := fun_mk (st := s_disk_with) l9 c9 k9
  have b9 := F9.binds (ps := ["disk", "pairs"]) fun _ _ _ _ _ _ us hl => match us, hl with | [_, _], _ => rfl
  have F10 := fun_mk (st := s_root_cells) l10 c10 k10
  have b10 := F10.binds (ps := ["form"]) fun _ _ _ _ _ _ us hl => match us, hl with | [_], _ => rfl
  have F11 := fun_mk (st := s_generations_of) l11 c11 k11
  have b11 := F11.binds (ps := ["newer", "generation"]) fun _ _ _ _ _ _ us hl => match us, hl with | [_, _], _ => rfl
  have F12 := fun_mk (st := s_pairs_of_roots) l12 c12 k12
  have b12 := F12.binds (ps := ["form", "newer", "generation"]) fun _ _ _ _ _ _ us hl => match us, hl with | [_, _, _], _ => rfl
  have F13 := fun_mk (st := s_newer_root) l13 c13 k13
  have b13 := F13.binds (ps := ["roots"]) fun _ _ _ _ _ _ us hl => match us, hl with | [_], _ => rfl
  have F14 := fun_mk (st := s_deed_name) l14 c14 k14
  have b14 := F14.binds (ps := ["letter", "newer", "roots", "value"]) fun _ _ _ _ _ _ us hl => match us, hl with | [_, _, _, _], _ => rfl
  have F15 := fun_mk (st := s_free_block) l15 c15 k15
  have b15 := F15.binds (ps := ["form", "roots"]) fun _ _ _ _ _ _ us hl => match us, hl with | [_, _], _ => rfl
  have F16 := fun_mk (st := s_torn_pairs) l16 c16 k16
  have b16 := F16.binds (ps := ["form", "roots", "value"]) fun _ _ _ _ _ _ us hl => match us, hl with | [_, _, _], _ => rfl
  have F17 := fun_mk (st := s_updated_pairs) l17 c17 k17
  have b17 := F17.binds (ps := ["form", "newer", "roots"]) fun _ _ _ _ _ _ us hl => match us, hl with | [_, _, _], _ => rfl
  have F18 := fun_mk (st := s_update_deed) l18 c18 k18
  have b18 := F18.binds (ps := ["form", "newer", "roots", "value"]) fun _ _ _ _ _ _ us hl => match us, hl with | [_, _, _, _], _ => rfl
  have F19 := fun_mk (st := s_torn_deed) l19 c19 k19
  have b19 := F19.binds (ps := ["form", "newer", "roots", "value"]) fun _ _ _ _ _ _ us hl => match us, hl with | [_, _, _, _], _ => rfl
  have F20 := fun_mk (st := s_is_name) l20 c20 k20
  have b20 := F20.binds (ps := ["word"]) fun _ _ _ _ _ _ us hl => match us, hl with | [_], _ => rfl
  have F21 := fun_mk (st := s_ascend) l21 c21 k21
  have b21 := F21.binds (ps := ["full", "cells"]) fun _ _ _ _ _ _ us hl => match us, hl with | [_, _], _ => rfl
  have F22 := fun_mk (st := s_is_source) l22 c22 k22
  have b22 := F22.binds (ps := ["full", "cell", "source"]) fun _ _ _ _ _ _ us hl => match us, hl with | [_, _, _], _ => rfl
  have F23 := fun_mk (st := s_fits) l23 c23 k23
  have b23 := F23.binds (ps := ["full", "sketch"]) fun _ _ _ _ _ _ us hl => match us, hl with | [_, _], _ => rfl
  have F24 := fun_mk (st := s_is_guard) l24 c24 k24
  have b24 := F24.binds (ps := ["full", "guard"]) fun _ _ _ _ _ _ us hl => match us, hl with | [_, _], _ => rfl
  have F25 := fun_mk (st := s_are_changes) l25 c25 k25
  have b25 := F25.binds (ps := ["full", "changes"]) fun _ _ _ _ _ _ us hl => match us, hl with | [_, _], _ => rfl
  have F26 := fun_mk (st := s_check_cells) l26 c26 k26
  have b26 := F26.binds (ps := ["cells"]) fun _ _ _ _ _ _ us hl => match us, hl with | [_], _ => rfl
  have F27 := fun_mk (st := s_check_deeds) l27 c27 k27
  have b27 := F27.binds (ps := ["full", "deeds"]) fun _ _ _ _ _ _ us hl => match us, hl with | [_, _], _ => rfl
  have F28 := fun_mk (st := s_Machine_init) l28 c28 k28
  have b28 := F28.binds (ps := ["self", "cells", "deeds", "first"]) fun _ _ _ _ _ _ us hl => match us, hl with | [_, _, _, _], _ => rfl
  have F29 := fun_mk (st := s_root_machine) l29 c29 k29
  have b29 := F29.binds (ps := ["form"]) fun _ _ _ _ _ _ us hl => match us, hl with | [_], _ => rfl
  have F30 : L2.FunD K "root_value" "root_value" (defArgs s_root_value) (defBody s_root_value) (defScope s_root_value) [] [("former", .bl false)] f30 _ := ⟨⟨_, _, _, _, _, _, _, _, _, _, rfl, l30, c30, .inl ⟨rfl, rfl⟩, .inr ⟨kd30, rfl, fun q hq => by rw [List.mem_singleton.mp hq]; exact ⟨_, w30, rfl⟩⟩⟩, k30⟩
  have F31 : L2.FunD K "root_update" "root_update" (defArgs s_root_update) (defBody s_root_update) (defScope s_root_update) [] [("torn", .bl false)] f31 _ := ⟨⟨_, _, _, _, _, _, _, _, _, _, rfl, l31, c31, .inl ⟨rfl, rfl⟩, .inr ⟨kd31, rfl, fun q hq => by rw [List.mem_singleton.mp hq]; exact ⟨_, w31, rfl⟩⟩⟩, k31⟩
  have F32 := fun_mk (st := s_law_newer) l32 c32 k32
  have b32 := F32.binds (ps := ["disk"]) fun _ _ _ _ _ _ us hl => match us, hl with | [_], _ => rfl
  have F33 := fun_mk (st := s_law_update) l33 c33 k33
  have b33 := F33.binds (ps := ["form", "disk", "value", "torn"]) fun _ _ _ _ _ _ us hl => match us, hl with | [_, _, _, _], _ => rfl
  have F34 := fun_mk (st := s_law_value) l34 c34 k34
  have b34 := F34.binds (ps := ["disk", "former"]) fun _ _ _ _ _ _ us hl => match us, hl with | [_, _], _ => rfl
  have F35 := fun_mk (st := s_law_two) l35 c35 k35
  have b35 := F35.binds (ps := ["form", "newer", "first", "left", "right"]) fun _ _ _ _ _ _ us hl => match us, hl with | [_, _, _, _, _], _ => rfl
  have F36 := fun_mk (st := s_law_deeds) l36 c36 k36
  have b36 := F36.binds (ps := ["form"]) fun _ _ _ _ _ _ us hl => match us, hl with | [_], _ => rfl
  have F37 := fun_mk (st := s_law_refused) l37 c37 k37
  have b37 := F37.binds (ps := ["made", "disk", "value"]) fun _ _ _ _ _ _ us hl => match us, hl with | [_, _, _], _ => rfl
  have F38 := fun_mk (st := s_allows) l38 c38 k38
  have b38 := F38.binds (ps := ["deed", "disk"]) fun _ _ _ _ _ _ us hl => match us, hl with | [_, _], _ => rfl
  have F39 := fun_mk (st := s_changed) l39 c39 k39
  have b39 := F39.binds (ps := ["deed", "disk"]) fun _ _ _ _ _ _ us hl => match us, hl with | [_, _], _ => rfl
  have F40 := fun_mk (st := s_check_deed) l40 c40 k40
  have b40 := F40.binds (ps := ["machine", "deed"]) fun _ _ _ _ _ _ us hl => match us, hl with | [_, _], _ => rfl
  have F41 := fun_mk (st := s_check_disk) l41 c41 k41
  have b41 := F41.binds (ps := ["machine", "disk"]) fun _ _ _ _ _ _ us hl => match us, hl with | [_, _], _ => rfl
  have F42 := fun_mk (st := s_can_do) l42 c42 k42
  have b42 := F42.binds (ps := ["machine", "disk", "deed"]) fun _ _ _ _ _ _ us hl => match us, hl with | [_, _, _], _ => rfl
  have F43 : FunS K "__init__" "CannotDo.__init__" s_CannotDo_init f43 cc43 cda43 _ := ⟨_, _, _, _, _, _, _, _, rfl, l43, c43⟩
  have b43 := Binds.all (K := K) (fd := PySem.W.ksFn "__init__" "CannotDo.__init__" (defArgs s_CannotDo_init) (defBody s_CannotDo_init) (defScope s_CannotDo_init) .none kV43 dc43 pm43 an43 (.ref cda43) ct43 cc43) (ps := ["self", "position"]) fun us hl => match us, hl with | [_, _], _ => rfl
  have S43 : SupC K PySem.Challenge.pw_raisedwreck_k29_roots cA_CannotDo f43 cc43 cda43 "self" := ⟨⟨⟨_, _, _, _, _, _, _, _, _, _, _, _, _, _, _, ox43, or43⟩, sa43, eb43, et43, ek43⟩, ⟨_, _, _, _, _, l43, rfl, rfl⟩, ⟨_, _, _, _, _, _, e43, v43, w43⟩, ⟨_, _, _, y43⟩, s43, sv43, su43, op43, tp43⟩
  have F44 := fun_mk (st := s_after) l44 c44 k44
  have b44 := F44.binds (ps := ["machine", "disk", "deed"]) fun _ _ _ _ _ _ us hl => match us, hl with | [_, _, _], _ => rfl
  have F45 := fun_mk (st := s_Machine_deed) l45 c45 k45
  have b45 := F45.binds (ps := ["self", "name"]) fun _ _ _ _ _ _ us hl => match us, hl with | [_, _], _ => rfl
  have F46 := fun_mk (st := s_law) l46 c46 k46
  refine ⟨PySem.W.fnOf "law" "law" (defArgs s_law) (defBody s_law) (defScope s_law) .none kV46 dc46 pm46 an46 cd46 ct46, fun s v => .of_eq rfl, fun base _ _ => ?_⟩
  have G0 := fd_law_cell (P := PySem.Challenge.pw_raisedwreck_k29_roots) (w := w) (base := base) F0 (PySem.W.mg_of X G a0) b0 T  
  have G1 := fd_check_number (P := PySem.Challenge.pw_raisedwreck_k29_roots) (w := w) (base := base) (cA_InvalidForm := cA_InvalidForm) F1 (PySem.W.mg_of X G a1) b1 T  X_InvalidForm
  have G2 := fd_check_many_deeds (P := PySem.Challenge.pw_raisedwreck_k29_roots) (w := w) (base := base) (cA_InvalidForm := cA_InvalidForm) F2 (PySem.W.mg_of X G a2) b2 T  X_InvalidForm
  have G3 := fd_check_value (P := PySem.Challenge.pw_raisedwreck_k29_roots) (w := w) (base := base) (cA_InvalidFile := cA_InvalidFile) F3 (PySem.W.mg_of X G a3) b3 T  X_InvalidFile
  have G4 := fi_RootForm_init (P := PySem.Challenge.pw_raisedwreck_k29_roots) (w := w) (base := base) (cA_RootForm := cA_RootForm) (cA_InvalidForm := cA_InvalidForm) (PySem.W.mg_of X G g_RootForm) ⟨mk4, i4, n4, kc4⟩ F4 b4 T G2 G1 cl_RootForm na_RootForm_alphabet na_RootForm_blocks
  have G5 := fd_cells_of (P := PySem.Challenge.pw_raisedwreck_k29_roots) (w := w) (base := base) F5 (PySem.W.mg_of X G a5) b5 T  
  have G6 := fd_digits_of (P := PySem.Challenge.pw_raisedwreck_k29_roots) (w := w) (base := base) F6 (PySem.W.mg_of X G a6) b6 T  
  have G7 := fd_guard_of (P := PySem.Challenge.pw_raisedwreck_k29_roots) (w := w) (base := base) F7 (PySem.W.mg_of X G a7) b7 T  
  have G8 := fd_changes_of (P := PySem.Challenge.pw_raisedwreck_k29_roots) (w := w) (base := base) F8 (PySem.W.mg_of X G a8) b8 T  
  have G9 := fd_disk_with (P := PySem.Challenge.pw_raisedwreck_k29_roots) (w := w) (base := base) F9 (PySem.W.mg_of X G a9) b9 T  
  have G10 := fd_root_cells (P := PySem.Challenge.pw_raisedwreck_k29_roots) (w := w) (base := base) (cA_RootForm := cA_RootForm) F10 (PySem.W.mg_of X G a10) b10 T G5 cl_RootForm na_RootForm_alphabet na_RootForm_blocks
  have G11 := fd_generations_of (P := PySem.Challenge.pw_raisedwreck_k29_roots) (w := w) (base := base) F11 (PySem.W.mg_of X G a11) b11 T  
  have G12 := fd_pairs_of_roots (P := PySem.Challenge.pw_raisedwreck_k29_roots) (w := w) (base := base) (cA_RootForm := cA_RootForm) F12 (PySem.W.mg_of X G a12) b12 T G11 cl_RootForm na_RootForm_blocks
  have G13 := fd_newer_root (P := PySem.Challenge.pw_raisedwreck_k29_roots) (w := w) (base := base) F13 (PySem.W.mg_of X G a13) b13 T  
  have G14 := fd_deed_name (P := PySem.Challenge.pw_raisedwreck_k29_roots) (w := w) (base := base) F14 (PySem.W.mg_of X G a14) b14 T G6 
  have G15 := fd_free_block (P := PySem.Challenge.pw_raisedwreck_k29_roots) (w := w) (base := base) (cA_RootForm := cA_RootForm) F15 (PySem.W.mg_of X G a15) b15 T  cl_RootForm na_RootForm_blocks
  have G16 := fd_torn_pairs (P := PySem.Challenge.pw_raisedwreck_k29_roots) (w := w) (base := base) (cA_RootForm := cA_RootForm) F16 (PySem.W.mg_of X G a16) b16 T G15 
  have G17 := fd_updated_pairs (P := PySem.Challenge.pw_raisedwreck_k29_roots) (w := w) (base := base) (cA_RootForm := cA_RootForm) F17 (PySem.W.mg_of X G a17) b17 T G15 
  have G18 := fd_update_deed (P := PySem.Challenge.pw_raisedwreck_k29_roots) (w := w) (base := base) (cA_RootForm := cA_RootForm) F18 (PySem.W.mg_of X G a18) b18 T G8 G14 G7 G16 G17 
  have G19 := fd_torn_deed (P := PySem.Challenge.pw_raisedwreck_k29_roots) (w := w) (base := base) (cA_RootForm := cA_RootForm) F19 (PySem.W.mg_of X G a19) b19 T G8 G14 G7 G16 
  have G20 := fd_is_name (P := PySem.Challenge.pw_raisedwreck_k29_roots) (w := w) (base := base) F20 (PySem.W.mg_of X G a20) b20 T  
  have G21 := fd_ascend (P := PySem.Challenge.pw_raisedwreck_k29_roots) (w := w) (base := base) F21 (PySem.W.mg_of X G a21) b21 T  
  have G22 := fd_is_source (P := PySem.Challenge.pw_raisedwreck_k29_roots) (w := w) (base := base) F22 (PySem.W.mg_of X G a22) b22 T  
  have G23 := fd_fits (P := PySem.Challenge.pw_raisedwreck_k29_roots) (w := w) (base := base) F23 (PySem.W.mg_of X G a23) b23 T  
  have G24 := fd_is_guard (P := PySem.Challenge.pw_raisedwreck_k29_roots) (w := w) (base := base) F24 (PySem.W.mg_of X G a24) b24 T G21 
  have G25 := fd_are_changes (P := PySem.Challenge.pw_raisedwreck_k29_roots) (w := w) (base := base) F25 (PySem.W.mg_of X G a25) b25 T G21 G22 
  have G26 := fd_check_cells (P := PySem.Challenge.pw_raisedwreck_k29_roots) (w := w) (base := base) (cA_InvalidMachine := cA_InvalidMachine) F26 (PySem.W.mg_of X G a26) b26 T G20 X_InvalidMachine
  have G27 := fd_check_deeds (P := PySem.Challenge.pw_raisedwreck_k29_roots) (w := w) (base := base) (cA_InvalidMachine := cA_InvalidMachine) F27 (PySem.W.mg_of X G a27) b27 T G25 G24 G20 X_InvalidMachine
  have G28 := fi_Machine_init (P := PySem.Challenge.pw_raisedwreck_k29_roots) (w := w) (base := base) (cA_Machine := cA_Machine) (cA_InvalidMachine := cA_InvalidMachine) (PySem.W.mg_of X G g_Machine) ⟨mk28, i28, n28, kc28⟩ F28 b28 T G26 G27 G23 X_InvalidMachine cl_Machine na_Machine__full na_Machine_cells na_Machine_deeds na_Machine_first
  have G29 := fd_root_machine (P := PySem.Challenge.pw_raisedwreck_k29_roots) (w := w) (base := base) (cA_RootForm := cA_RootForm) (cA_Machine := cA_Machine) (cA_InvalidMachine := cA_InvalidMachine) F29 (PySem.W.mg_of X G a29) b29 T G12 G10 G19 G18 G28 cl_RootForm na_RootForm_alphabet na_RootForm_blocks
  have G30 := fk_root_value (P := PySem.Challenge.pw_raisedwreck_k29_roots) (w := w) (base := base) F30 (PySem.W.mg_of X G a30) T G13 
  have G31 := fk_root_update (P := PySem.Challenge.pw_raisedwreck_k29_roots) (w := w) (base := base) (cA_RootForm := cA_RootForm) (cA_InvalidFile := cA_InvalidFile) F31 (PySem.W.mg_of X G a31) T G3 G9 G13 G16 G17 cl_RootForm na_RootForm_alphabet
  have G32 := fd_law_newer (P := PySem.Challenge.pw_raisedwreck_k29_roots) (w := w) (base := base) F32 (PySem.W.mg_of X G a32) b32 T  
  have G33 := fd_law_update (P := PySem.Challenge.pw_raisedwreck_k29_roots) (w := w) (base := base) F33 (PySem.W.mg_of X G a33) b33 T G32 
  have G34 := fd_law_value (P := PySem.Challenge.pw_raisedwreck_k29_roots) (w := w) (base := base) F34 (PySem.W.mg_of X G a34) b34 T G32 
  have G35 := fd_law_two (P := PySem.Challenge.pw_raisedwreck_k29_roots) (w := w) (base := base) F35 (PySem.W.mg_of X G a35) b35 T  
  have G36 := fd_law_deeds (P := PySem.Challenge.pw_raisedwreck_k29_roots) (w := w) (base := base) F36 (PySem.W.mg_of X G a36) b36 T G35 
  have G37 := fd_law_refused (P := PySem.Challenge.pw_raisedwreck_k29_roots) (w := w) (base := base) (cA_RootForm := cA_RootForm) (cA_InvalidFile := cA_InvalidFile) F37 (PySem.W.mg_of X G a37) b37 T  G_InvalidFile G_WreckError G31.1 ki_InvalidFile_InvalidFile xc_InvalidFile
  have G38 := fd_allows (P := PySem.Challenge.pw_raisedwreck_k29_roots) (w := w) (base := base) F38 (PySem.W.mg_of X G a38) b38 T  
  have G39 := fd_changed (P := PySem.Challenge.pw_raisedwreck_k29_roots) (w := w) (base := base) F39 (PySem.W.mg_of X G a39) b39 T  
  have G40 := fd_check_deed (P := PySem.Challenge.pw_raisedwreck_k29_roots) (w := w) (base := base) (cA_Machine := cA_Machine) (cA_NoSuchDeed := cA_NoSuchDeed) F40 (PySem.W.mg_of X G a40) b40 T  X_NoSuchDeed cl_Machine na_Machine_deeds
  have G41 := fd_check_disk (P := PySem.Challenge.pw_raisedwreck_k29_roots) (w := w) (base := base) (cA_Machine := cA_Machine) (cA_InvalidDisk := cA_InvalidDisk) F41 (PySem.W.mg_of X G a41) b41 T  X_InvalidDisk cl_Machine na_Machine_cells
  have G42 := fd_can_do (P := PySem.Challenge.pw_raisedwreck_k29_roots) (w := w) (base := base) (cA_Machine := cA_Machine) (cA_InvalidDisk := cA_InvalidDisk) (cA_NoSuchDeed := cA_NoSuchDeed) F42 (PySem.W.mg_of X G a42) b42 T G38 G40 G41 cl_Machine na_Machine_deeds
  have G43 := xp_CannotDo_init (P := PySem.Challenge.pw_raisedwreck_k29_roots) (w := w) (base := base) (PySem.W.mg_of X G g_CannotDo) F43 S43 i43 t43 b43 (PySem.W.mg_none_of X G zs43) fx43
  have G44 := fd_after (P := PySem.Challenge.pw_raisedwreck_k29_roots) (w := w) (base := base) (cA_Machine := cA_Machine) (cA_InvalidDisk := cA_InvalidDisk) (cA_NoSuchDeed := cA_NoSuchDeed) (cA_CannotDo := cA_CannotDo) F44 (PySem.W.mg_of X G a44) b44 T G42 G39 G43 cl_Machine na_Machine_deeds
  have G45 := fm_Machine_deed (P := PySem.Challenge.pw_raisedwreck_k29_roots) (w := w) (base := base) (cA_Machine := cA_Machine) (cA_NoSuchDeed := cA_NoSuchDeed) ⟨i45, n45, k45⟩ F45 b45 T  X_NoSuchDeed cl_Machine na_Machine_deeds
  exact fn_law F46 T G0 G36 G32 G37 G33 G34 G44 G42 G29 G4 G_InvalidForm G_WreckError cl_Machine cl_RootForm G31.1 G30.1 G31.2 G30.2 ki_InvalidForm_InvalidForm G45 na_Machine_cells na_Machine_deeds na_Machine_first na_RootForm_alphabet na_RootForm_blocks xc_InvalidForm
end RW
open PySem PySem.W PyProof.Rows
set_option maxHeartbeats 0 in
theorem PySem.Challenge.cw_raisedwreck_k29_roots_holds : PySem.Challenge.rw_raisedwreck_k29_roots.Holds := by
  w_on; o_law; k_head; (case hw => w_witness2)
  k_fill
  refine L2.walk_of (l := PySem.Challenge.rw_raisedwreck_k29_roots) (n := 63) (k := 7) (x := "script") (CX := fun w => L2.CX PySem.Challenge.pw_raisedwreck_k29_roots w) (sp := fun w => RW.spP _ 1 RW.S_law) rfl (by decide) rfl ⟨rfl, by decide, by decide⟩ (fun w h Y => PySem.W.kIn_of Y) ?F (fun _ _ a ns hl hO hS => RW.law_sp hO hS) (fun w _ _ _ _ h => RW.cx_none h)
  case F =>
    intro w mg fa h KX G hmg
    refine' RW.all_mk KX G hmg ?g_CannotDo ?g_InvalidDisk ?g_InvalidFile ?g_InvalidForm ?g_InvalidMachine ?g_Machine ?g_NoSuchDeed ?g_RootForm ?g_WreckError ?xq_InvalidDisk ?xk_InvalidDisk ?xb_InvalidDisk ?xt_InvalidDisk ?xq_InvalidFile ?xk_InvalidFile ?xb_InvalidFile ?xt_InvalidFile ?eg_InvalidFile ?ek_InvalidFile ?es_InvalidFile ?ed_InvalidFile ?ea_InvalidFile ?en_InvalidFile ?et_InvalidFile ?em_InvalidFile ?ew_InvalidFile ?sb_WreckError ?hd_WreckError ?ty_WreckError ?xq_InvalidForm ?xk_InvalidForm ?xb_InvalidForm ?xt_InvalidForm ?eg_InvalidForm ?ek_InvalidForm ?es_InvalidForm ?ed_InvalidForm ?ea_InvalidForm ?en_InvalidForm ?et_InvalidForm ?em_InvalidForm ?ew_InvalidForm ?xq_InvalidMachine ?xk_InvalidMachine ?xb_InvalidMachine ?xt_InvalidMachine ?clp_Machine ?clh_Machine ?clo_Machine ?cls_Machine ?xq_NoSuchDeed ?xk_NoSuchDeed ?xb_NoSuchDeed ?xt_NoSuchDeed ?clp_RootForm ?clh_RootForm ?clo_RootForm ?cls_RootForm ?na_Machine__full ?na_Machine_cells ?na_Machine_deeds ?na_Machine_first ?na_RootForm_alphabet ?na_RootForm_blocks ?a0 ?l0 ?c0 ?k0 ?a1 ?l1 ?c1 ?k1 ?a2 ?l2 ?c2 ?k2 ?a3 ?l3 ?c3 ?k3 ?i4 ?n4 ?mk4 ?kc4 ?l4 ?c4 ?k4 ?a5 ?l5 ?c5 ?k5 ?a6 ?l6 ?c6 ?k6 ?a7 ?l7 ?c7 ?k7 ?a8 ?l8 ?c8 ?k8 ?a9 ?l9 ?c9 ?k9 ?a10 ?l10 ?c10 ?k10 ?a11 ?l11 ?c11 ?k11 ?a12 ?l12 ?c12 ?k12 ?a13 ?l13 ?c13 ?k13 ?a14 ?l14 ?c14 ?k14 ?a15 ?l15 ?c15 ?k15 ?a16 ?l16 ?c16 ?k16 ?a17 ?l17 ?c17 ?k17 ?a18 ?l18 ?c18 ?k18 ?a19 ?l19 ?c19 ?k19 ?a20 ?l20 ?c20 ?k20 ?a21 ?l21 ?c21 ?k21 ?a22 ?l22 ?c22 ?k22 ?a23 ?l23 ?c23 ?k23 ?a24 ?l24 ?c24 ?k24 ?a25 ?l25 ?c25 ?k25 ?a26 ?l26 ?c26 ?k26 ?a27 ?l27 ?c27 ?k27 ?i28 ?n28 ?mk28 ?kc28 ?l28 ?c28 ?k28 ?a29 ?l29 ?c29 ?k29 ?a30 ?l30 ?c30 ?k30 ?w30 ?a31 ?l31 ?c31 ?k31 ?w31 ?a32 ?l32 ?c32 ?k32 ?a33 ?l33 ?c33 ?k33 ?a34 ?l34 ?c34 ?k34 ?a35 ?l35 ?c35 ?k35 ?a36 ?l36 ?c36 ?k36 ?a37 ?l37 ?c37 ?k37 ?a38 ?l38 ?c38 ?k38 ?a39 ?l39 ?c39 ?k39 ?a40 ?l40 ?c40 ?k40 ?a41 ?l41 ?c41 ?k41 ?a42 ?l42 ?c42 ?k42 ?i43 ?l43 ?c43 ?t43 ?e43 ?v43 ?w43 ?y43 ?s43 ?sv43 ?su43 ?op43 ?tp43 ?ox43 ?or43 ?sa43 ?eb43 ?et43 ?ek43 ?fx43 ?zs43 ?a44 ?l44 ?c44 ?k44 ?i45 ?n45 ?l45 ?c45 ?k45 ?a46 ?l46 ?c46 ?k46 ?z_ValueError ?z_all ?z_bool ?z_enumerate ?z_int ?z_isinstance ?z_len ?z_list ?z_min ?z_range ?z_str ?z_tuple ?z_zip ?x_BLOCK ?x_CONTENTS ?x_GENERATIONS ?x_LETTERS ?x_LETTERS_AND_DIGITS ?x_LONGEST_NAME ?x_MOST_CELLS ?x_MOST_DEEDS ?x_MOST_VALUES ?x_ROOTS
    (case g_CannotDo => k_is)
    (case g_InvalidDisk => k_is)
    (case g_InvalidFile => k_is)
    (case g_InvalidForm => k_is)
    (case g_InvalidMachine => k_is)
    (case g_Machine => k_is)
    (case g_NoSuchDeed => k_is)
    (case g_RootForm => k_is)
    (case g_WreckError => k_is)
    (case xq_InvalidDisk => k_exc)
    (case xk_InvalidDisk => k_is)
    (case xb_InvalidDisk => k_is)
    (case xt_InvalidDisk => k_is)
    (case xq_InvalidFile => k_exc)
    (case xk_InvalidFile => k_is)
    (case xb_InvalidFile => k_is)
    (case xt_InvalidFile => k_is)
    (case eg_InvalidFile => k_is)
    (case ek_InvalidFile => k_is)
    (case es_InvalidFile => k_is)
    (case ed_InvalidFile => k_is)
    (case ea_InvalidFile => k_is)
    (case en_InvalidFile => k_is)
    (case et_InvalidFile => k_is)
    (case em_InvalidFile => k_is)
    (case ew_InvalidFile => k_is)
    (case sb_WreckError => k_is)
    (case hd_WreckError => k_is)
    (case ty_WreckError => k_is)
    (case xq_InvalidForm => k_exc)
    (case xk_InvalidForm => k_is)
    (case xb_InvalidForm => k_is)
    (case xt_InvalidForm => k_is)
    (case eg_InvalidForm => k_is)
    (case ek_InvalidForm => k_is)
    (case es_InvalidForm => k_is)
    (case ed_InvalidForm => k_is)
    (case ea_InvalidForm => k_is)
    (case en_InvalidForm => k_is)
    (case et_InvalidForm => k_is)
    (case em_InvalidForm => k_is)
    (case ew_InvalidForm => k_is)
    (case xq_InvalidMachine => k_exc)
    (case xk_InvalidMachine => k_is)
    (case xb_InvalidMachine => k_is)
    (case xt_InvalidMachine => k_is)
    (case clp_Machine => k_is)
    (case clh_Machine => k_is)
    (case clo_Machine => k_is)
    (case cls_Machine => k_is)
    (case xq_NoSuchDeed => k_exc)
    (case xk_NoSuchDeed => k_is)
    (case xb_NoSuchDeed => k_is)
    (case xt_NoSuchDeed => k_is)
    (case clp_RootForm => k_is)
    (case clh_RootForm => k_is)
    (case clo_RootForm => k_is)
    (case cls_RootForm => k_is)
    (case na_Machine__full => k_is)
    (case na_Machine_cells => k_is)
    (case na_Machine_deeds => k_is)
    (case na_Machine_first => k_is)
    (case na_RootForm_alphabet => k_is)
    (case na_RootForm_blocks => k_is)
    (case a0 => k_is)
    (case l0 => k_is)
    (case c0 => k_is)
    (case k0 => k_is)
    (case a1 => k_is)
    (case l1 => k_is)
    (case c1 => k_is)
    (case k1 => k_is)
    (case a2 => k_is)
    (case l2 => k_is)
    (case c2 => k_is)
    (case k2 => k_is)
    (case a3 => k_is)
    (case l3 => k_is)
    (case c3 => k_is)
    (case k3 => k_is)
    (case i4 => k_is)
    (case n4 => k_is)
    (case mk4 => k_is)
    (case kc4 => k_is)
    (case l4 => k_is)
    (case c4 => k_is)
    (case k4 => k_is)
    (case a5 => k_is)
    (case l5 => k_is)
    (case c5 => k_is)
    (case k5 => k_is)
    (case a6 => k_is)
    (case l6 => k_is)
    (case c6 => k_is)
    (case k6 => k_is)
    (case a7 => k_is)
    (case l7 => k_is)
    (case c7 => k_is)
    (case k7 => k_is)
    (case a8 => k_is)
    (case l8 => k_is)
    (case c8 => k_is)
    (case k8 => k_is)
    (case a9 => k_is)
    (case l9 => k_is)
    (case c9 => k_is)
    (case k9 => k_is)
    (case a10 => k_is)
    (case l10 => k_is)
    (case c10 => k_is)
    (case k10 => k_is)
    (case a11 => k_is)
    (case l11 => k_is)
    (case c11 => k_is)
    (case k11 => k_is)
    (case a12 => k_is)
    (case l12 => k_is)
    (case c12 => k_is)
    (case k12 => k_is)
    (case a13 => k_is)
    (case l13 => k_is)
    (case c13 => k_is)
    (case k13 => k_is)
    (case a14 => k_is)
    (case l14 => k_is)
    (case c14 => k_is)
    (case k14 => k_is)
    (case a15 => k_is)
    (case l15 => k_is)
    (case c15 => k_is)
    (case k15 => k_is)
    (case a16 => k_is)
    (case l16 => k_is)
    (case c16 => k_is)
    (case k16 => k_is)
    (case a17 => k_is)
    (case l17 => k_is)
    (case c17 => k_is)
    (case k17 => k_is)
    (case a18 => k_is)
    (case l18 => k_is)
    (case c18 => k_is)
    (case k18 => k_is)
    (case a19 => k_is)
    (case l19 => k_is)
    (case c19 => k_is)
    (case k19 => k_is)
    (case a20 => k_is)
    (case l20 => k_is)
    (case c20 => k_is)
    (case k20 => k_is)
    (case a21 => k_is)
    (case l21 => k_is)
    (case c21 => k_is)
    (case k21 => k_is)
    (case a22 => k_is)
    (case l22 => k_is)
    (case c22 => k_is)
    (case k22 => k_is)
    (case a23 => k_is)
    (case l23 => k_is)
    (case c23 => k_is)
    (case k23 => k_is)
    (case a24 => k_is)
    (case l24 => k_is)
    (case c24 => k_is)
    (case k24 => k_is)
    (case a25 => k_is)
    (case l25 => k_is)
    (case c25 => k_is)
    (case k25 => k_is)
    (case a26 => k_is)
    (case l26 => k_is)
    (case c26 => k_is)
    (case k26 => k_is)
    (case a27 => k_is)
    (case l27 => k_is)
    (case c27 => k_is)
    (case k27 => k_is)
    (case i28 => k_is)
    (case n28 => k_is)
    (case mk28 => k_is)
    (case kc28 => k_is)
    (case l28 => k_is)
    (case c28 => k_is)
    (case k28 => k_is)
    (case a29 => k_is)
    (case l29 => k_is)
    (case c29 => k_is)
    (case k29 => k_is)
    (case a30 => k_is)
    (case l30 => k_is)
    (case c30 => k_is)
    (case k30 => k_is)
    (case w30 => k_is)
    (case a31 => k_is)
    (case l31 => k_is)
    (case c31 => k_is)
    (case k31 => k_is)
    (case w31 => k_is)
    (case a32 => k_is)
    (case l32 => k_is)
    (case c32 => k_is)
    (case k32 => k_is)
    (case a33 => k_is)
    (case l33 => k_is)
    (case c33 => k_is)
    (case k33 => k_is)
    (case a34 => k_is)
    (case l34 => k_is)
    (case c34 => k_is)
    (case k34 => k_is)
    (case a35 => k_is)
    (case l35 => k_is)
    (case c35 => k_is)
    (case k35 => k_is)
    (case a36 => k_is)
    (case l36 => k_is)
    (case c36 => k_is)
    (case k36 => k_is)
    (case a37 => k_is)
    (case l37 => k_is)
    (case c37 => k_is)
    (case k37 => k_is)
    (case a38 => k_is)
    (case l38 => k_is)
    (case c38 => k_is)
    (case k38 => k_is)
    (case a39 => k_is)
    (case l39 => k_is)
    (case c39 => k_is)
    (case k39 => k_is)
    (case a40 => k_is)
    (case l40 => k_is)
    (case c40 => k_is)
    (case k40 => k_is)
    (case a41 => k_is)
    (case l41 => k_is)
    (case c41 => k_is)
    (case k41 => k_is)
    (case a42 => k_is)
    (case l42 => k_is)
    (case c42 => k_is)
    (case k42 => k_is)
    (case i43 => k_is)
    (case l43 => k_is)
    (case c43 => k_is)
    (case t43 => k_is)
    (case e43 => k_is)
    (case v43 => first | rfl | kernel_rfl)
    (case w43 => first | rfl | decide +kernel)
    (case y43 => k_is)
    (case s43 => k_is)
    (case sv43 => k_is)
    (case su43 => kernel_rfl)
    (case op43 => k_is)
    (case tp43 => first | rfl | decide +kernel)
    (case ox43 => k_is)
    (case or43 => first | rfl | decide +kernel)
    (case sa43 => k_is)
    (case eb43 => k_is)
    (case et43 => k_is)
    (case ek43 => k_is)
    (case fx43 => k_is)
    (case zs43 => k_is)
    (case a44 => k_is)
    (case l44 => k_is)
    (case c44 => k_is)
    (case k44 => k_is)
    (case i45 => k_is)
    (case n45 => k_is)
    (case l45 => k_is)
    (case c45 => k_is)
    (case k45 => k_is)
    (case a46 => k_is)
    (case l46 => k_is)
    (case c46 => k_is)
    (case k46 => k_is)
    (case z_ValueError => k_is)
    (case z_all => k_is)
    (case z_bool => k_is)
    (case z_enumerate => k_is)
    (case z_int => k_is)
    (case z_isinstance => k_is)
    (case z_len => k_is)
    (case z_list => k_is)
    (case z_min => k_is)
    (case z_range => k_is)
    (case z_str => k_is)
    (case z_tuple => k_is)
    (case z_zip => k_is)
    (case x_BLOCK => k_is)
    (case x_CONTENTS => k_is)
    (case x_GENERATIONS => k_is)
    (case x_LETTERS => k_is)
    (case x_LETTERS_AND_DIGITS => k_is)
    (case x_LONGEST_NAME => k_is)
    (case x_MOST_CELLS => k_is)
    (case x_MOST_DEEDS => k_is)
    (case x_MOST_VALUES => k_is)
    (case x_ROOTS => k_is)

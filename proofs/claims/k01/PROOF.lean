import PyProof.Rows.All
import Wide.All
import OpenK.AllK
import Wide.FinOn
import HandS.ForMost
import HandS.ForExc
import HandS.Walk
import HandS.ExcInit
import HandS.ExcField
import HandS.FStr
import HandS.IsInst
import HandS.StrMore
import HandS.TupAny
import HandS.WideBits
import HandS.Wide
import HandS.Style
import HandS.TryOnly
import PyProof.ReprReads
import KE.GoesMore
import KE.GoesEnum
import PyProof.Rows.NestShow
import HandS.RaiseMore
import HandS.ListItems
import KE.SortData
import HandS.Ends
import HandS.EndBits
import HandS.Set
import HandS.Strs
import HandS.SetFor
import HandS.Zip
import HandS.OwnEq
import PyProof.AutoSeq1
import PySem.Challenge.RW_onlygiven_k01_kinds_told
set_option Elab.async false
set_option linter.all false
set_option maxRecDepth 100000
set_option maxHeartbeats 1000000
namespace Og
open PySem L2

/-! the plain values that the programs of this package and the laws hand about -/
inductive D where
  | non
  | bl (b : Bool)
  | int (i : Int)
  | str (z : Str)
  | tup (ds : List D)
  | lst (ds : List D)
  | fd

/-- what a feed of draws holds -/
structure Fd where
  cells : List Int
  next : Int
  left : Int
  count : Int
/-- the four keys of a feed -/
structure FK where
  c : Str
  n : Str
  l : Str
  t : Str

mutual
inductive Dd (K : PySem.W.Frag) (fa : Addr) (B : Hp) : V → D → Prop
  | non : Dd K fa B .non .non
  | bl (b : Bool) : Dd K fa B (.bl b) (.bl b)
  | int (i : Int) : Dd K fa B (.int i) (.int i)
  | str (z : Str) : Dd K fa B (.str z) (.str z)
  | tup {a : Addr} {xs : List V} {ds : List D} (q : SqT K B a xs) (r : DdA K fa B xs ds) : Dd K fa B (.ref a) (.tup ds)
  | lst {a : Addr} {xs : List V} {ds : List D} (q : B a = some (.lst xs)) (r : DdA K fa B xs ds) : Dd K fa B (.ref a) (.lst ds)
  | fd : Dd K fa B (.ref fa) .fd
inductive DdA (K : PySem.W.Frag) (fa : Addr) (B : Hp) : List V → List D → Prop
  | nil : DdA K fa B [] []
  | cons {v : V} {vs : List V} {d : D} {ds : List D} (h : Dd K fa B v d) (t : DdA K fa B vs ds) : DdA K fa B (v :: vs) (d :: ds)
end

theorem sqt_mono {K : PySem.W.Frag} {B B' : Hp} {a : Addr} {xs : List V} (e : Same B B') (h : SqT K B a xs) : SqT K B' a xs := by
  rcases h with (h | ⟨o, h⟩) | h
  · exact Or.inl (Or.inl (e _ _ h))
  · exact Or.inl (Or.inr ⟨o, e _ _ h⟩)
  · exact Or.inr h

section
variable {K : PySem.W.Frag} {fa : Addr} {B B' : Hp}
mutual
theorem Dd.mono (e : Same B B') : ∀ {v : V} {d : D}, Dd K fa B v d → Dd K fa B' v d
  | _, _, .non => .non
  | _, _, .bl b => .bl b
  | _, _, .int i => .int i
  | _, _, .str z => .str z
  | _, _, .tup q r => .tup (sqt_mono e q) (DdA.mono e r)
  | _, _, .lst q r => .lst (e _ _ q) (DdA.mono e r)
  | _, _, .fd => .fd
theorem DdA.mono (e : Same B B') : ∀ {vs : List V} {ds : List D}, DdA K fa B vs ds → DdA K fa B' vs ds
  | _, _, .nil => .nil
  | _, _, .cons h t => .cons (Dd.mono e h) (DdA.mono e t)
end
theorem DdA.len : ∀ {vs : List V} {ds : List D}, DdA K fa B vs ds → vs.length = ds.length
  | _, _, .nil => rfl
  | _, _, .cons _ t => by rw [List.length_cons, List.length_cons, DdA.len t]
theorem DdA.get : ∀ {vs : List V} {ds : List D} {i : Nat} {d : D}, DdA K fa B vs ds → ds[i]? = some d → ∃ v, vs[i]? = some v ∧ Dd K fa B v d
  | _, _, i, d, .nil, h => by simp at h
  | _, _, 0, d, .cons h _, e => by
    simp at e
    subst e
    exact ⟨_, rfl, h⟩
  | _, _, i + 1, d, .cons _ t, e => by
    simp at e
    obtain ⟨v, h1, h2⟩ := DdA.get t e
    exact ⟨v, by simpa using h1, h2⟩
theorem DdA.getV : ∀ {vs : List V} {ds : List D} {i : Nat} {v : V}, DdA K fa B vs ds → vs[i]? = some v → ∃ d, ds[i]? = some d ∧ Dd K fa B v d
  | _, _, i, d, .nil, h => by simp at h
  | _, _, 0, d, .cons h _, e => by
    simp at e
    subst e
    exact ⟨_, rfl, h⟩
  | _, _, i + 1, d, .cons _ t, e => by
    simp at e
    obtain ⟨v, h1, h2⟩ := DdA.getV t e
    exact ⟨v, by simpa using h1, h2⟩
theorem DdA.app : ∀ {vs ws : List V} {ds es : List D}, DdA K fa B vs ds → DdA K fa B ws es → DdA K fa B (vs ++ ws) (ds ++ es)
  | _, _, _, _, .nil, h => h
  | _, _, _, _, .cons h t, s => .cons h (DdA.app t s)
theorem DdA.take : ∀ {vs : List V} {ds : List D} (n : Nat), DdA K fa B vs ds → DdA K fa B (vs.take n) (ds.take n)
  | _, _, 0, _ => .nil
  | _, _, _ + 1, .nil => .nil
  | _, _, n + 1, .cons h t => .cons h (DdA.take n t)
theorem DdA.drop : ∀ {vs : List V} {ds : List D} (n : Nat), DdA K fa B vs ds → DdA K fa B (vs.drop n) (ds.drop n)
  | _, _, 0, h => h
  | _, _, _ + 1, .nil => .nil
  | _, _, n + 1, .cons _ t => DdA.drop n t
theorem DdA.rev : ∀ {vs : List V} {ds : List D}, DdA K fa B vs ds → DdA K fa B vs.reverse ds.reverse
  | _, _, .nil => .nil
  | _, _, .cons h t => by
    rw [List.reverse_cons, List.reverse_cons]
    exact (DdA.rev t).app (.cons h .nil)
end

/-! the resource, and where a def was entered -/
structure Zt (K : PySem.W.Frag) (ks : FK) where
  fa : Addr
  ca : Addr
  ne : fa ≠ ca
  H0 : Hp
  B0 : Hp
def Foot (fa ca b : Addr) : Prop := b = fa ∨ b = ca
def feedKv (ks : FK) (ca : Addr) (F : Fd) : List (Key × V) := [(.inr ks.c, .ref ca), (.inr ks.n, .int F.next), (.inr ks.l, .int F.left), (.inr ks.t, .int F.count)]
def FeedOk (ks : FK) (fa ca : Addr) (H : Hp) (F : Fd) : Prop := H fa = some (.dK (feedKv ks ca F)) ∧ H ca = some (.lst (F.cells.map V.int))
theorem FeedOk.fok {ks : FK} {fa ca b : Addr} {H : Hp} {F : Fd} (h : FeedOk ks fa ca H F) (f : Foot fa ca b) : H b ≠ none := by
  rcases f with rfl | rfl
  · rw [h.1]
    exact fun z => nomatch z
  · rw [h.2]
    exact fun z => nomatch z
theorem FeedOk.rst {ks : FK} {fa ca : Addr} {H H' : Hp} {F : Fd} (h : FeedOk ks fa ca H F) (e : ∀ b, Foot fa ca b → H' b = H b) : FeedOk ks fa ca H' F :=
  ⟨(e _ (Or.inl rfl)).trans h.1, (e _ (Or.inr rfl)).trans h.2⟩

/-! a frame's names -/
inductive SV where
  | un
  | val (d : D)
  | own (ds : List D)
  | dic (kvs : List (Str × D))
structure Sto where
  sl : List SV
  F : Fd
def Sto.at (s : Sto) (i : Nat) : SV := s.sl[i]?.getD .un
def Sto.put (s : Sto) (i : Nat) (x : SV) : Sto := { s with sl := s.sl.set i x }
theorem Sto.at_put_ne {s : Sto} {i j : Nat} {x : SV} (h : j ≠ i) : (s.put i x).at j = s.at j := by
  unfold Sto.put Sto.at
  rw [List.getElem?_set_ne (Ne.symm h)]
theorem Sto.at_put {s : Sto} {i : Nat} {x : SV} (h : i < s.sl.length) : (s.put i x).at i = x := by
  unfold Sto.put Sto.at
  rw [List.getElem?_set_self h]
  rfl
theorem Sto.at_put_out {s : Sto} {i : Nat} {x : SV} (h : ¬ i < s.sl.length) : (s.put i x).at i = .un := by
  unfold Sto.put Sto.at
  rw [List.getElem?_eq_none (by simpa using h)]
  rfl

section
variable {K : PySem.W.Frag} {ks : FK}
def SlOk (Z : Zt K ks) (ad : Nat → Addr) (σ : St) (H B : Hp) (i : Nat) : SV → Prop
  | .un => True
  | .val d => ∃ v, σ[i]? = some (some v) ∧ Dd K Z.fa B v d
  | .own ds => σ[i]? = some (some (.ref (ad i))) ∧ Z.H0 (ad i) = none ∧ B (ad i) = none ∧ ¬ Foot Z.fa Z.ca (ad i) ∧ ∃ xs, H (ad i) = some (.lst xs) ∧ DdA K Z.fa B xs ds
  | .dic kvs => σ[i]? = some (some (.ref (ad i))) ∧ Z.H0 (ad i) = none ∧ B (ad i) = none ∧ ¬ Foot Z.fa Z.ca (ad i) ∧ ∃ xs : List (Key × V), H (ad i) = some (.dK xs) ∧ xs.map (·.1) = kvs.map (fun p => Sum.inr p.1) ∧ DdA K Z.fa B (xs.map (·.2)) (kvs.map (·.2))

structure Rp (Z : Zt K ks) (ad : Nat → Addr) (σ : St) (H B : Hp) (s : Sto) : Prop where
  bh : Same B H
  nof : ∀ b, Foot Z.fa Z.ca b → B b = none
  res : FeedOk ks Z.fa Z.ca H s.F
  fr0 : ∀ b o, ¬ Foot Z.fa Z.ca b → Z.H0 b = some o → H b = some o
  nb0 : ∀ b o, B b = some o → Z.B0 b = some o ∨ Z.H0 b = none
  b0 : Same Z.B0 B
  len : σ.length = s.sl.length
  sl : ∀ i, SlOk Z ad σ H B i (s.at i)
  inj : ∀ i j ds es, s.at i = .own ds → s.at j = .own es → ad i = ad j → i = j

structure Stp (Z : Zt K ks) (ad : Nat → Addr) (s s' : Sto) (H B H' B' : Hp) : Prop where
  fr : ∀ b o, ¬ Foot Z.fa Z.ca b → H b = some o → H' b = some o
  bb : Same B B'
  nw : ∀ b o, B' b = some o → B b = some o ∨ H b = none ∨ ∃ i ds, s.at i = .own ds ∧ ad i = b
  hn : ∀ b, H' b = none → H b = none
  ow : ∀ i ds, s'.at i = .own ds → s.at i = .own ds

variable {Z : Zt K ks} {ad : Nat → Addr} {σ : St} {H B H' B' H'' B'' : Hp} {s s' s'' : Sto}
theorem Stp.refl : Stp Z ad s s H B H B := ⟨fun _ _ _ h => h, fun _ _ h => h, fun _ _ h => .inl h, fun _ h => h, fun _ _ h => h⟩
theorem Stp.trans (a : Stp Z ad s s' H B H' B') (b : Stp Z ad s' s'' H' B' H'' B'') : Stp Z ad s s'' H B H'' B'' where
  fr := fun c o n h => b.fr c o n (a.fr c o n h)
  bb := a.bb.trans b.bb
  nw := fun c o h => by
    rcases b.nw c o h with h | h | ⟨i, ds, h1, h2⟩
    · exact a.nw c o h
    · exact .inr (.inl (a.hn c h))
    · exact .inr (.inr ⟨i, ds, a.ow i ds h1, h2⟩)
  hn := fun c h => a.hn c (b.hn c h)
  ow := fun i ds h => a.ow i ds (b.ow i ds h)

theorem Rp.nofoot (r : Rp Z ad σ H B s) {p : Addr} (h : H p = none) : ¬ Foot Z.fa Z.ca p := fun f => r.res.fok f h
theorem Rp.h0 (r : Rp Z ad σ H B s) {p : Addr} (h : H p = none) : Z.H0 p = none := by
  cases q : Z.H0 p with
  | none => rfl
  | some o =>
    have z := r.fr0 p o (r.nofoot h) q
    rw [h] at z
    cases z
theorem Rp.bn (r : Rp Z ad σ H B s) {p : Addr} (h : H p = none) : B p = none := r.bh.free h
theorem Rp.own (r : Rp Z ad σ H B s) {i : Nat} {ds : List D} (e : s.at i = .own ds) :
    σ[i]? = some (some (.ref (ad i))) ∧ Z.H0 (ad i) = none ∧ B (ad i) = none ∧ ¬ Foot Z.fa Z.ca (ad i) ∧ ∃ xs, H (ad i) = some (.lst xs) ∧ DdA K Z.fa B xs ds := by
  have h := r.sl i
  rw [e] at h
  exact h
theorem Rp.val (r : Rp Z ad σ H B s) {i : Nat} {d : D} (e : s.at i = .val d) : ∃ v, σ[i]? = some (some v) ∧ Dd K Z.fa B v d := by
  have h := r.sl i
  rw [e] at h
  exact h
theorem Rp.adne (r : Rp Z ad σ H B s) {i : Nat} {ds : List D} {p : Addr} (e : s.at i = .own ds) (h : H p = none) : ad i ≠ p := fun z => by
  obtain ⟨_, _, _, _, xs, h1, _⟩ := r.own e
  rw [z, h] at h1
  cases h1

/-- the heap has grown, the frozen part too -/
theorem Rp.grow (r : Rp Z ad σ H B s) (fr : ∀ b o, H b = some o → H' b = some o) (bb : Same B B') (bh : Same B' H')
    (nw : ∀ b o, B' b = some o → B b = some o ∨ H b = none) : Rp Z ad σ H' B' s ∧ Stp Z ad s s H B H' B' := by
  have hfoot : ∀ b, Foot Z.fa Z.ca b → H' b = H b := fun b f => by
    cases q : H b with
    | none => exact absurd q (r.res.fok f)
    | some o => exact fr b o q
  refine ⟨⟨bh, fun b f => ?_, r.res.rst hfoot, fun b o n h => fr b o (r.fr0 b o n h), fun b o h => ?_, r.b0.trans bb, r.len, fun i => ?_, r.inj⟩, fun b o _ h => fr b o h, bb, fun b o h => ?_, fun b h => ?_, fun _ _ h => h⟩
  · cases q : B' b with
    | none => rfl
    | some o =>
      rcases nw b o q with h | h
      · rw [r.nof b f] at h
        cases h
      · exact absurd h (r.res.fok f)
  · rcases nw b o h with h | h
    · exact r.nb0 b o h
    · exact .inr (r.h0 h)
  · have h := r.sl i
    cases e : s.at i with
    | un => trivial
    | val d =>
      rw [e] at h
      obtain ⟨v, h1, h2⟩ := h
      exact ⟨v, h1, h2.mono bb⟩
    | own ds =>
      rw [e] at h
      obtain ⟨h1, h2, h3, h4, xs, h5, h6⟩ := h
      refine ⟨h1, h2, ?_, h4, xs, fr _ _ h5, h6.mono bb⟩
      cases q : B' (ad i) with
      | none => rfl
      | some o =>
        rcases nw _ o q with z | z
        · rw [h3] at z
          cases z
        · rw [h5] at z
          cases z
    | dic kvs =>
      rw [e] at h
      obtain ⟨h1, h2, h3, h4, xs, h5, h6, h7⟩ := h
      refine ⟨h1, h2, ?_, h4, xs, fr _ _ h5, h6, h7.mono bb⟩
      cases q : B' (ad i) with
      | none => rfl
      | some o =>
        rcases nw _ o q with z | z
        · rw [h3] at z
          cases z
        · rw [h5] at z
          cases z
  · rcases nw b o h with h | h
    · exact .inl h
    · exact .inr (.inl h)
  · cases q : H b with
    | none => rfl
    | some o =>
      rw [fr b o q] at h
      cases h

theorem upd_get {H : Hp} {p b : Addr} {o u : HO} (h : upd H p o b = some u) : (b = p ∧ u = o) ∨ (b ≠ p ∧ H b = some u) := by
  by_cases e : b = p
  · subst e
    rw [upd_same] at h
    cases h
    exact .inl ⟨rfl, rfl⟩
  · rw [upd_ne e] at h
    exact .inr ⟨e, h⟩
theorem upd_keep {H : Hp} {p b : Addr} {o u : HO} (n : H p = none) (h : H b = some u) : upd H p o b = some u := by
  rw [upd_ne (ne_of_none h n)]
  exact h

/-- a new frozen object -/
theorem Rp.laid (r : Rp Z ad σ H B s) {p : Addr} (o : HO) (n : H p = none) : Rp Z ad σ (upd H p o) (upd B p o) s ∧ Stp Z ad s s H B (upd H p o) (upd B p o) := by
  refine r.grow (fun b u h => upd_keep n h) (fun b u h => upd_keep (r.bn n) h) (fun b u h => ?_) fun b u h => ?_
  · rcases upd_get h with ⟨rfl, rfl⟩ | ⟨e, h⟩
    · exact upd_same
    · rw [upd_ne e]
      exact r.bh b u h
  · rcases upd_get h with ⟨rfl, rfl⟩ | ⟨e, h⟩
    · exact .inr n
    · exact .inl h
/-- a new object that is not frozen -/
theorem Rp.made (r : Rp Z ad σ H B s) {p : Addr} (o : HO) (n : H p = none) : Rp Z ad σ (upd H p o) B s ∧ Stp Z ad s s H B (upd H p o) B :=
  r.grow (fun b u h => upd_keep n h) (fun _ _ h => h) (fun b u h => upd_keep n (r.bh b u h)) fun b u h => .inl h
end
end Og

set_option Elab.async false
set_option linter.all false
set_option maxRecDepth 100000
set_option maxHeartbeats 1000000
namespace Og
open PySem L2

/-- an error: its class by name, its fields -/
structure Xc where
  cls : Str
  fs : List (Str × D)
inductive Out (α : Type) where
  | ok (a : α) (s : Sto)
  | exc (x : Xc) (s : Sto)
  | bad
abbrev M (α : Type) := Sto → Out α
def bindM {α γ : Type} (m : M α) (k : α → M γ) : M γ := fun s => match m s with
  | .ok a s1 => k a s1
  | .exc x s1 => .exc x s1
  | .bad => .bad
def retM {α : Type} (a : α) : M α := fun s => .ok a s
def optM {α : Type} (o : Option α) : M α := fun s => match o with
  | some a => .ok a s
  | none => .bad

section
variable {K : PySem.W.Frag} {ks : FK} {mg : Str → Option Value} {W : WX} {β α γ δ : Type}
def XcOk (mg : Str → Option Value) (K : PySem.W.Frag) (fa : Addr) (B H : Hp) (cls : Value) (dd : Option Addr) (x : Xc) : Prop :=
  mg x.cls = some cls ∧ ∃ d fs, dd = some d ∧ H d = some (.xd fs) ∧ fs.map (·.1) = x.fs.map (·.1) ∧ DdA K fa B (fs.map (·.2)) (x.fs.map (·.2))

/-- how a result of the machine stands for one of the mirror: at the end's heaps, and the heap of the beginning -/
abbrev Rl (K : PySem.W.Frag) (ks : FK) (β α : Type) := (Z : Zt K ks) → (Nat → Addr) → Sto → Hp → Hp → Hp → β → α → Prop
def Mono (ρ : Rl K ks β α) : Prop := ∀ Z ad s H B Hs Hs' v a, (∀ b, Hs' b = none → Hs b = none) → ρ Z ad s H B Hs' v a → ρ Z ad s H B Hs v a

def Post (mg : Str → Option Value) (ρ : Rl K ks β α) (Z : Zt K ks) (ad : Nat → Addr) (σ : L2.St) (s : Sto) (H B : Hp) (o : Out α) (Q : β → Hp → Prop) (W : WX) : Prop := match o with
  | .ok a s' => ∀ v H' B', Rp Z ad σ H' B' s' → Stp Z ad s s' H B H' B' → ρ Z ad s' H' B' H v a → Q v H'
  | .exc x s' => ∀ cls dd H' B', Rp Z ad σ H' B' s' → Stp Z ad s s' H B H' B' → XcOk mg K Z.fa B' H' cls dd x → W cls dd σ H'
  | .bad => False

/-- the reading t does what m says -/
def Im (mg : Str → Option Value) (W : WX) (ρ : Rl K ks β α) (t : L2.St → Hp → (β → Hp → Prop) → Prop) (m : M α) : Prop :=
  ∀ Z ad σ H B s Q, Rp Z ad σ H B s → Post mg ρ Z ad σ s H B (m s) Q W → t σ H Q

def rV : Rl K ks V D := fun Z _ _ _ B _ v d => Dd K Z.fa B v d
def rP : Rl K ks V D := fun Z _ _ H B _ v d => Dd K Z.fa B v d ∨ ∃ ds a xs, d = .lst ds ∧ v = .ref a ∧ ¬ Foot Z.fa Z.ca a ∧ H a = some (.lst xs) ∧ DdA K Z.fa B xs ds
def rL : Rl K ks V D := fun Z ad s H B Hs v d => ∃ ds a xs, d = .lst ds ∧ v = .ref a ∧ ¬ Foot Z.fa Z.ca a ∧ H a = some (.lst xs) ∧ DdA K Z.fa B xs ds ∧ B a = none ∧ Z.H0 a = none ∧ Hs a = none ∧ ∀ i es, s.at i = .own es → ad i ≠ a
def rB : Rl K ks Bool Bool := fun _ _ _ _ _ _ v a => v = a
def rA : Rl K ks (List V) (List D) := fun Z _ _ _ B _ v d => DdA K Z.fa B v d
inductive PkA (Z : Zt K ks) (H B : Hp) : List V → List D → Prop
  | nil : PkA Z H B [] []
  | cons {v vs d ds} (h : rP Z (fun _ => 0) ⟨[], ⟨[], 0, 0, 0⟩⟩ H B H v d) (t : PkA Z H B vs ds) : PkA Z H B (v :: vs) (d :: ds)
def rPA : Rl K ks (List V) (List D) := fun Z _ _ H B _ v d => PkA Z H B v d
abbrev IV (K : PySem.W.Frag) (ks : FK) (mg : Str → Option Value) (W : WX) (t : TE) (m : M D) : Prop := Im mg W (@rV K ks) t m
abbrev IP (K : PySem.W.Frag) (ks : FK) (mg : Str → Option Value) (W : WX) (t : TE) (m : M D) : Prop := Im mg W (@rP K ks) t m
abbrev IL (K : PySem.W.Frag) (ks : FK) (mg : Str → Option Value) (W : WX) (t : TE) (m : M D) : Prop := Im mg W (@rL K ks) t m
abbrev IA (K : PySem.W.Frag) (ks : FK) (mg : Str → Option Value) (W : WX) (t : TA) (m : M (List D)) : Prop := Im mg W (@rA K ks) t m
abbrev IPA (K : PySem.W.Frag) (ks : FK) (mg : Str → Option Value) (W : WX) (t : TA) (m : M (List D)) : Prop := Im mg W (@rPA K ks) t m
abbrev IB (K : PySem.W.Frag) (ks : FK) (mg : Str → Option Value) (W : WX) (t : TT) (m : M Bool) : Prop := Im mg W (@rB K ks) t m
theorem rV_mono : Mono (K := K) (ks := ks) rV := fun _ _ _ _ _ _ _ _ _ _ h => h
theorem rP_mono : Mono (K := K) (ks := ks) rP := fun _ _ _ _ _ _ _ _ _ _ h => h
theorem rB_mono : Mono (K := K) (ks := ks) rB := fun _ _ _ _ _ _ _ _ _ _ h => h
theorem rA_mono : Mono (K := K) (ks := ks) rA := fun _ _ _ _ _ _ _ _ _ _ h => h
theorem rPA_mono : Mono (K := K) (ks := ks) rPA := fun _ _ _ _ _ _ _ _ _ _ h => h
theorem rL_mono : Mono (K := K) (ks := ks) rL := fun _ _ _ _ _ _ _ _ _ e h => by
  obtain ⟨ds, a, xs, h1, h2, h3, h4, h5, h6, h7, h8, h9⟩ := h
  exact ⟨ds, a, xs, h1, h2, h3, h4, h5, h6, h7, e _ h8, h9⟩

variable {Z : Zt K ks} {ad : Nat → Addr} {σ : L2.St} {s s1 : Sto} {H B H1 B1 Hs : Hp}
theorem Post.shift {ρ : Rl K ks β α} (hm : Mono ρ) {o : Out α} {Q : β → Hp → Prop} (st : Stp Z ad s s1 H B H1 B1) (h : Post mg ρ Z ad σ s H B o Q W) : Post mg ρ Z ad σ s1 H1 B1 o Q W := by
  cases o with
  | ok a s' => exact fun v H' B' rp st2 r => h v H' B' rp (st.trans st2) (hm _ _ _ _ _ _ _ _ _ st.hn r)
  | exc x s' => exact fun cls dd H' B' rp st2 r => h cls dd H' B' rp (st.trans st2) r
  | bad => exact h

theorem im_bind {ρ1 : Rl K ks β α} {β2 : Type} {ρ : Rl K ks β2 γ} (hm : Mono ρ) {t1 : L2.St → Hp → (β → Hp → Prop) → Prop} {t2 : β → L2.St → Hp → (β2 → Hp → Prop) → Prop} {m : M α} {k : α → M γ}
    (h1 : Im mg W ρ1 t1 m) (h2 : ∀ a x Z ad σ s H B Hs Q, Rp Z ad σ H B s → ρ1 Z ad s H B Hs x a → Post mg ρ Z ad σ s H B (k a s) Q W → t2 x σ H Q) :
    Im mg W ρ (fun σ H Q => t1 σ H fun x H1 => t2 x σ H1 Q) (bindM m k) := by
  intro Z ad σ H B s Q rp h
  refine h1 Z ad σ H B s _ rp ?_
  unfold bindM at h
  cases e : m s with
  | ok a s1 =>
    rw [e] at h
    exact fun v H1 B1 rp1 st r => h2 a v Z ad σ s1 H1 B1 H Q rp1 r (Post.shift hm st h)
  | exc x s1 =>
    rw [e] at h
    exact h
  | bad =>
    rw [e] at h
    exact h

theorem Im.imp {ρ ρ' : Rl K ks β α} {t : L2.St → Hp → (β → Hp → Prop) → Prop} {m : M α} (h : Im mg W ρ t m) (f : ∀ Z ad s H B Hs v a, ρ Z ad s H B Hs v a → ρ' Z ad s H B Hs v a) : Im mg W ρ' t m := by
  intro Z ad σ H B s Q rp q
  refine h Z ad σ H B s Q rp ?_
  cases e : m s with
  | ok a s1 =>
    rw [e] at q
    exact fun v H1 B1 rp1 st r => q v H1 B1 rp1 st (f _ _ _ _ _ _ _ _ r)
  | exc x s1 =>
    rw [e] at q
    exact q
  | bad =>
    rw [e] at q
    exact q
theorem IV.p {t : TE} {m : M D} (h : IV K ks mg W t m) : IP K ks mg W t m := h.imp fun _ _ _ _ _ _ _ _ r => .inl r
theorem IL.p {t : TE} {m : M D} (h : IL K ks mg W t m) : IP K ks mg W t m := h.imp fun _ _ _ _ _ _ _ _ r => by
  obtain ⟨ds, a, xs, h1, h2, h3, h4, h5, _⟩ := r
  exact .inr ⟨ds, a, xs, h1, h2, h3, h4, h5⟩

/-- an object of ours is frozen -/
theorem Rp.freeze {a : Addr} {xs : List V} (r : Rp Z ad σ H B s) (hf : ¬ Foot Z.fa Z.ca a) (ha : H a = some (.lst xs)) (hb : B a = none) (h0 : Z.H0 a = none) (ho : ∀ i es, s.at i = .own es → ad i ≠ a) :
    Rp Z ad σ H (upd B a (.lst xs)) s := by
  have bb : Same B (upd B a (.lst xs)) := fun b u h => upd_keep hb h
  refine ⟨fun b u h => ?_, fun b f => ?_, r.res, r.fr0, fun b u h => ?_, r.b0.trans bb, r.len, fun i => ?_, r.inj⟩
  · rcases upd_get h with ⟨rfl, rfl⟩ | ⟨e, h⟩
    · exact ha
    · exact r.bh b u h
  · have e : b ≠ a := fun z => hf (z ▸ f)
    rw [upd_ne e]
    exact r.nof b f
  · rcases upd_get h with ⟨rfl, rfl⟩ | ⟨e, h⟩
    · exact .inr h0
    · exact r.nb0 b u h
  · have h := r.sl i
    cases e : s.at i with
    | un => trivial
    | val d =>
      rw [e] at h
      obtain ⟨v, h1, h2⟩ := h
      exact ⟨v, h1, h2.mono bb⟩
    | own ds =>
      rw [e] at h
      obtain ⟨h1, h2, h3, h4, ys, h5, h6⟩ := h
      exact ⟨h1, h2, by rw [upd_ne (ho i ds e)]; exact h3, h4, ys, h5, h6.mono bb⟩
    | dic kvs =>
      rw [e] at h
      obtain ⟨h1, h2, h3, h4, ys, h5, h6, h7⟩ := h
      have n : ad i ≠ a := fun z => by
        rw [z, ha] at h5
        cases h5
      exact ⟨h1, h2, by rw [upd_ne n]; exact h3, h4, ys, h5, h6, h7.mono bb⟩

theorem IL.v {t : TE} {m : M D} (h : IL K ks mg W t m) : IV K ks mg W t m := by
  intro Z ad σ H B s Q rp q
  refine h Z ad σ H B s Q rp ?_
  cases e : m s with
  | ok a s1 =>
    rw [e] at q
    intro v H1 B1 rp1 st r
    obtain ⟨ds, a, xs, rfl, rfl, h3, h4, h5, h6, h7, h8, h9⟩ := r
    have bb : Same B1 (upd B1 a (.lst xs)) := fun b u h => upd_keep h6 h
    refine q (.ref a) H1 (upd B1 a (.lst xs)) (rp1.freeze h3 h4 h6 h7 h9) ⟨st.fr, st.bb.trans bb, fun b u h => ?_, st.hn, st.ow⟩ (.lst upd_same (h5.mono bb))
    rcases upd_get h with ⟨rfl, rfl⟩ | ⟨_, h⟩
    · exact .inr (.inl h8)
    · exact st.nw b u h
  | exc x s1 =>
    rw [e] at q
    exact q
  | bad =>
    rw [e] at q
    exact q

/-! names, constants -/
def mVar (i : Nat) : M D := fun s => match s.at i with
  | .val d => .ok d s
  | .own ds => .ok (.lst ds) (s.put i (.val (.lst ds)))
  | .un => .bad
  | .dic _ => .bad
def mPk (i : Nat) : M D := fun s => match s.at i with
  | .val d => .ok d s
  | .own ds => .ok (.lst ds) s
  | .un => .bad
  | .dic _ => .bad
theorem Sto.lt_of_at {i : Nat} {x : SV} (h : s.at i = x) (hx : x ≠ .un) : i < s.sl.length := by
  unfold Sto.at at h
  by_cases q : i < s.sl.length
  · exact q
  · rw [List.getElem?_eq_none (by omega)] at h
    exact absurd h.symm hx
theorem Rp.frzSlot (r : Rp Z ad σ H B s) {i : Nat} {ds : List D} {xs : List V} (e : s.at i = .own ds) (hx : H (ad i) = some (.lst xs)) (hd : DdA K Z.fa B xs ds) :
    Rp Z ad σ H (upd B (ad i) (.lst xs)) (s.put i (.val (.lst ds))) ∧ Stp Z ad s (s.put i (.val (.lst ds))) H B H (upd B (ad i) (.lst xs)) := by
  obtain ⟨h1, h2, h3, h4, _⟩ := r.own e
  have il := Sto.lt_of_at e (fun z => nomatch z)
  have bb : Same B (upd B (ad i) (.lst xs)) := fun b u h => upd_keep h3 h
  have ow : ∀ j es, (s.put i (.val (.lst ds))).at j = .own es → j ≠ i ∧ s.at j = .own es := fun j es h => by
    by_cases q : j = i
    · subst q
      rw [Sto.at_put il] at h
      cases h
    · rw [Sto.at_put_ne q] at h
      exact ⟨q, h⟩
  refine ⟨⟨fun b u h => ?_, fun b f => ?_, r.res, r.fr0, fun b u h => ?_, r.b0.trans bb, ?_, fun j => ?_, fun j k es fs h h' q => r.inj j k es fs (ow j es h).2 (ow k fs h').2 q⟩, fun _ _ _ h => h, bb, fun b u h => ?_, fun _ h => h, fun j es h => (ow j es h).2⟩
  · rcases upd_get h with ⟨rfl, rfl⟩ | ⟨_, h⟩
    · exact hx
    · exact r.bh b u h
  · have e2 : b ≠ ad i := fun z => h4 (z ▸ f)
    rw [upd_ne e2]
    exact r.nof b f
  · rcases upd_get h with ⟨rfl, rfl⟩ | ⟨_, h⟩
    · exact .inr h2
    · exact r.nb0 b u h
  · rw [r.len]
    unfold Sto.put
    rw [List.length_set]
  · by_cases q : j = i
    · subst q
      rw [Sto.at_put il]
      exact ⟨_, h1, .lst upd_same (hd.mono bb)⟩
    · rw [Sto.at_put_ne q]
      have h := r.sl j
      cases z : s.at j with
      | un => trivial
      | val d =>
        rw [z] at h
        obtain ⟨v, h1, h2⟩ := h
        exact ⟨v, h1, h2.mono bb⟩
      | own es =>
        rw [z] at h
        obtain ⟨g1, g2, g3, g4, ys, g5, g6⟩ := h
        exact ⟨g1, g2, by rw [upd_ne (fun w => q (r.inj j i es ds z e w))]; exact g3, g4, ys, g5, g6.mono bb⟩
      | dic kvs =>
        rw [z] at h
        obtain ⟨g1, g2, g3, g4, ys, g5, g6, g7⟩ := h
        have n : ad j ≠ ad i := fun w => by
          rw [w, hx] at g5
          cases g5
        exact ⟨g1, g2, by rw [upd_ne n]; exact g3, g4, ys, g5, g6, g7.mono bb⟩
  · rcases upd_get h with ⟨rfl, rfl⟩ | ⟨_, h⟩
    · exact .inr (.inr ⟨i, ds, e, rfl⟩)
    · exact .inl h
theorem im_var (i : Nat) : IV K ks mg W (tVar i) (mVar i) := by
  intro Z ad σ H B s Q rp h
  unfold mVar at h
  cases e : s.at i with
  | un =>
    rw [e] at h
    exact h.elim
  | dic kvs =>
    rw [e] at h
    exact h.elim
  | val d =>
    rw [e] at h
    obtain ⟨v, h1, h2⟩ := rp.val e
    exact ⟨v, h1, h v H B rp Stp.refl h2⟩
  | own ds =>
    rw [e] at h
    obtain ⟨h1, _, h3, _, xs, h5, h6⟩ := rp.own e
    obtain ⟨r2, st⟩ := rp.frzSlot e h5 h6
    exact ⟨_, h1, h _ H _ r2 st (.lst upd_same (h6.mono st.bb))⟩
theorem im_pk (i : Nat) : IP K ks mg W (tVar i) (mPk i) := by
  intro Z ad σ H B s Q rp h
  unfold mPk at h
  cases e : s.at i with
  | un =>
    rw [e] at h
    exact h.elim
  | dic kvs =>
    rw [e] at h
    exact h.elim
  | val d =>
    rw [e] at h
    obtain ⟨v, h1, h2⟩ := rp.val e
    exact ⟨v, h1, h v H B rp Stp.refl (.inl h2)⟩
  | own ds =>
    rw [e] at h
    obtain ⟨h1, _, h3, h4, xs, h5, h6⟩ := rp.own e
    exact ⟨_, h1, h _ H B rp Stp.refl (.inr ⟨ds, _, xs, rfl, rfl, h4, h5, h6⟩)⟩
theorem im_c {v : V} {d : D} (h : ∀ (fa : Addr) (B : Hp), Dd K fa B v d) : IV K ks mg W (tC v) (retM d) := by
  intro Z ad σ H B s Q rp q
  exact q v H B rp Stp.refl (h _ _)

/-! two operands, by values -/
theorem rP_step {v : V} {d : D} {s' : Sto} {H' B' Hs Hs' : Hp} (st : Stp Z ad s s' H B H' B') (h : rP Z ad s H B Hs v d) : rP Z ad s' H' B' Hs' v d := by
  rcases h with h | ⟨ds, a, xs, h1, h2, h3, h4, h5⟩
  · exact .inl (h.mono st.bb)
  · exact .inr ⟨ds, a, xs, h1, h2, h3, st.fr _ _ h3 h4, h5.mono st.bb⟩
def Op2 (ρ : Rl K ks V D) (r : R2) (f : D → D → Option D) : Prop := ∀ Z ad σ H B s x y dx dy d Q, Rp Z ad σ H B s → rP Z ad s H B H x dx → rP Z ad s H B H y dy → f dx dy = some d →
  (∀ v H' B', Rp Z ad σ H' B' s → Stp Z ad s s H B H' B' → ρ Z ad s H' B' H v d → Q v H') → r x y H Q
def m2 (f : D → D → Option D) (ma mb : M D) : M D := bindM ma fun a => bindM mb fun b => optM (f a b)
theorem im_op {ρ : Rl K ks V D} {r : R2} {f : D → D → Option D} {ta tb : TE} {ma mb : M D} (hm : Mono ρ) (o : Op2 ρ r f) (ha : IP K ks mg W ta ma) (hb : IP K ks mg W tb mb) : Im mg W ρ (tOp r ta tb) (m2 f ma mb) := by
  refine im_bind (t2 := fun x σ H Q => tb σ H fun y H2 => r x y H2 Q) hm ha fun a x Z ad σ s H B Hs Q rp hx h => ?_
  refine hb Z ad σ H B s _ rp ?_
  unfold bindM at h
  cases e : mb s with
  | ok b s1 =>
    rw [e] at h
    intro y H1 B1 rp1 st hy
    have h := Post.shift hm st h
    unfold optM at h
    cases q : f a b with
    | none =>
      simp only [q] at h
      exact h.elim
    | some d =>
      simp only [q] at h
      exact o Z ad σ H1 B1 s1 x y a b d Q rp1 (rP_step st hx) hy q h
  | exc x s1 =>
    rw [e] at h
    exact h
  | bad =>
    rw [e] at h
    exact h
def Op1 (ρ : Rl K ks V D) (r : V → Hp → VK → Prop) (f : D → Option D) : Prop := ∀ Z ad σ H B s x dx d Q, Rp Z ad σ H B s → rP Z ad s H B H x dx → f dx = some d →
  (∀ v H' B', Rp Z ad σ H' B' s → Stp Z ad s s H B H' B' → ρ Z ad s H' B' H v d → Q v H') → r x H Q
def m1 (f : D → Option D) (ma : M D) : M D := bindM ma fun a => optM (f a)
theorem im_op1 {ρ : Rl K ks V D} {r : V → Hp → VK → Prop} {f : D → Option D} {ta : TE} {ma : M D} (hm : Mono ρ) (o : Op1 ρ r f) (ha : IP K ks mg W ta ma) : Im mg W ρ (fun σ H Q => ta σ H fun x H1 => r x H1 Q) (m1 f ma) := by
  refine im_bind (t2 := fun x σ H Q => r x H Q) hm ha fun a x Z ad σ s H B Hs Q rp hx h => ?_
  unfold optM at h
  cases q : f a with
  | none =>
    simp only [q] at h
    exact h.elim
  | some d =>
    simp only [q] at h
    exact o Z ad σ H B s x a d Q rp hx q h
end
end Og

set_option Elab.async false
set_option linter.all false
set_option maxRecDepth 100000
set_option maxHeartbeats 1000000
namespace Og
open PySem L2
mutual
def D.toP : D → Option PyData
  | .non => some .none
  | .bl b => some (.bool b)
  | .int i => some (.int i)
  | .str z => some (.str z)
  | .tup ds => (D.toPs ds).map .tuple
  | .lst ds => (D.toPs ds).map .list
  | .fd => none
def D.toPs : List D → Option (List PyData)
  | [] => some []
  | d :: ds => match D.toP d, D.toPs ds with
    | some p, some ps => some (p :: ps)
    | _, _ => none
end
section
variable {K : PySem.W.Frag} {fa : Addr} {B : Hp}
mutual
theorem Dd.dp : ∀ (d : D) (v : V) (p : PyData), Dd K fa B v d → d.toP = some p → Dp K B v p
  | .non, _, _, h, e => by
    cases h
    simp only [D.toP, Option.some.injEq] at e
    subst e
    exact .non
  | .bl b, _, _, h, e => by
    cases h
    simp only [D.toP, Option.some.injEq] at e
    subst e
    exact .bl b
  | .int i, _, _, h, e => by
    cases h
    simp only [D.toP, Option.some.injEq] at e
    subst e
    exact .int i
  | .str z, _, _, h, e => by
    cases h
    simp only [D.toP, Option.some.injEq] at e
    subst e
    exact .str z
  | .tup ds, _, _, h, e => by
    cases h with
    | tup q r =>
      simp only [D.toP, Option.map_eq_some_iff] at e
      obtain ⟨ps, e1, rfl⟩ := e
      exact .tup q (DdA.dp ds _ ps r e1)
  | .lst ds, _, _, h, e => by
    cases h with
    | lst q r =>
      simp only [D.toP, Option.map_eq_some_iff] at e
      obtain ⟨ps, e1, rfl⟩ := e
      exact .lst (SqL.of q) (DdA.dp ds _ ps r e1)
  | .fd, _, _, h, e => by simp [D.toP] at e
theorem DdA.dp : ∀ (ds : List D) (vs : List V) (ps : List PyData), DdA K fa B vs ds → D.toPs ds = some ps → DpAll K B vs ps
  | [], _, _, h, e => by
    cases h
    simp only [D.toPs, Option.some.injEq] at e
    subst e
    exact .nil
  | d :: ds, _, _, h, e => by
    cases h with
    | cons h t =>
      unfold D.toPs at e
      split at e
      · rename_i p ps e1 e2
        cases e
        exact .cons (Dd.dp d _ p h e1) (DdA.dp ds _ ps t e2)
      · cases e
end
end
section
variable {K : PySem.W.Frag} {B B' : Hp}
mutual
theorem dp_mono (e : Same B B') : ∀ (p : PyData) (v : V), Dp K B v p → Dp K B' v p
  | .none, _, h => by cases h; exact .non
  | .bool b, _, h => by cases h; exact .bl b
  | .int i, _, h => by cases h; exact .int i
  | .str z, _, h => by cases h; exact .str z
  | .list ps, _, h => by
    cases h with
    | lst q r => exact .lst (e.seq q) (dpa_mono e ps _ r)
  | .tuple ps, _, h => by
    cases h with
    | tup q r => exact .tup (sqt_mono e q) (dpa_mono e ps _ r)
  | .dict _, _, h => by cases h
theorem dpa_mono (e : Same B B') : ∀ (ps : List PyData) (vs : List V), DpAll K B vs ps → DpAll K B' vs ps
  | [], _, h => by cases h; exact .nil
  | p :: ps, _, h => by
    cases h with
    | cons a b => exact .cons (dp_mono e p _ a) (dpa_mono e ps _ b)
end
end

section
variable {K : PySem.W.Frag} {ks : FK} {mg : Str → Option Value} {W : WX} {β α γ δ : Type}
variable {Z : Zt K ks} {ad : Nat → Addr} {σ : L2.St} {s s1 : Sto} {H B H1 B1 Hs : Hp}
theorem rP_dp {v : V} {d : D} {p : PyData} (rp : Rp Z ad σ H B s) (h : rP Z ad s H B Hs v d) (e : d.toP = some p) : Dp K H v p := by
  rcases h with h | ⟨ds, a, xs, rfl, rfl, h3, h4, h5⟩
  · exact dp_mono rp.bh p v (h.dp d v p e)
  · simp only [D.toP, Option.map_eq_some_iff] at e
    obtain ⟨ps, e1, rfl⟩ := e
    exact .lst (.inl (.inl h4)) (dpa_mono rp.bh ps xs (h5.dp ds xs ps e1))
theorem rP_lst {v : V} {ds : List D} (rp : Rp Z ad σ H B s) (h : rP Z ad s H B Hs v (.lst ds)) : ∃ a xs, v = .ref a ∧ H a = some (.lst xs) ∧ DdA K Z.fa B xs ds := by
  rcases h with h | ⟨es, a, xs, e, rfl, h3, h4, h5⟩
  · cases h with
    | lst q r => exact ⟨_, _, rfl, rp.bh _ _ q, r⟩
  · cases e
    exact ⟨a, xs, rfl, h4, h5⟩
theorem rP_tup {v : V} {ds : List D} (rp : Rp Z ad σ H B s) (h : rP Z ad s H B Hs v (.tup ds)) : ∃ a xs, v = .ref a ∧ SqT K B a xs ∧ SqT K H a xs ∧ DdA K Z.fa B xs ds := by
  rcases h with h | ⟨es, a, xs, e, _⟩
  · cases h with
    | tup q r => exact ⟨_, _, rfl, q, sqt_mono rp.bh q, r⟩
  · cases e
theorem rP_int {v : V} {i : Int} (h : rP Z ad s H B Hs v (.int i)) : v = .int i := by
  rcases h with h | ⟨_, _, _, e, _⟩
  · cases h
    rfl
  · cases e
theorem rP_str {v : V} {z : Str} (h : rP Z ad s H B Hs v (.str z)) : v = .str z := by
  rcases h with h | ⟨_, _, _, e, _⟩
  · cases h
    rfl
  · cases e
theorem rP_bl {v : V} {b : Bool} (h : rP Z ad s H B Hs v (.bl b)) : v = .bl b := by
  rcases h with h | ⟨_, _, _, e, _⟩
  · cases h
    rfl
  · cases e
theorem rP_non {v : V} (h : rP Z ad s H B Hs v .non) : v = .non := by
  rcases h with h | ⟨_, _, _, e, _⟩
  · cases h
    rfl
  · cases e

/-! union of readings -/
theorem opr_or {X : Cx} {f : Value → Value → Sem Value} {r r' : R2} (h : OpR X f r) (h' : OpR X f r') : OpR X f (fun x y H Q => r x y H Q ∨ r' x y H Q) := by
  intro pins s σ H x y v u Q I rx ry q
  rcases q with q | q
  · exact h pins s σ H x y v u Q I rx ry q
  · exact h' pins s σ H x y v u Q I rx ry q
theorem Op2.inl {ρ : Rl K ks V D} {r r' : R2} {f : D → D → Option D} (h : Op2 ρ r f) : Op2 ρ (fun x y H Q => r x y H Q ∨ r' x y H Q) f :=
  fun Z ad σ H B s x y dx dy d Q rp hx hy e q => .inl (h Z ad σ H B s x y dx dy d Q rp hx hy e q)
theorem Op2.inr {ρ : Rl K ks V D} {r r' : R2} {f : D → D → Option D} (h : Op2 ρ r' f) : Op2 ρ (fun x y H Q => r x y H Q ∨ r' x y H Q) f :=
  fun Z ad σ H B s x y dx dy d Q rp hx hy e q => .inr (h Z ad σ H B s x y dx dy d Q rp hx hy e q)
/-- the first of two that has an answer -/
def or2 (f g : D → D → Option D) : D → D → Option D := fun a b => (f a b).orElse fun _ => g a b
theorem Op2.or {ρ : Rl K ks V D} {r r' : R2} {f g : D → D → Option D} (h : Op2 ρ r f) (h' : Op2 ρ r' g) : Op2 ρ (fun x y H Q => r x y H Q ∨ r' x y H Q) (or2 f g) := by
  intro Z ad σ H B s x y dx dy d Q rp hx hy e q
  unfold or2 at e
  cases c : f dx dy with
  | some d' =>
    rw [c] at e
    exact .inl (h Z ad σ H B s x y dx dy d Q rp hx hy (c.trans e) q)
  | none =>
    rw [c] at e
    exact .inr (h' Z ad σ H B s x y dx dy d Q rp hx hy e q)

/-! operators on ints -/
def iiO (C : Int → Int → Bool) (g : Int → Int → D) : D → D → Option D
  | .int i, .int j => if C i j then some (g i j) else none
  | _, _ => none
theorem iiO_some {C : Int → Int → Bool} {g : Int → Int → D} {a b d : D} (h : iiO C g a b = some d) : ∃ i j, a = .int i ∧ b = .int j ∧ C i j = true ∧ d = g i j := by
  unfold iiO at h
  split at h
  · rename_i i j
    split at h
    · rename_i c
      cases h
      exact ⟨i, j, rfl, rfl, c, rfl⟩
    · cases h
  · cases h
theorem op2_ii {C : Int → Int → Bool} {Cp : Int → Int → Prop} {g : Int → Int → D} {gv : Int → Int → V} (hc : ∀ i j, C i j = true → Cp i j) (hg : ∀ fa (B : Hp) i j, Dd K fa B (gv i j) (g i j)) : Op2 (@rV K ks) (rI Cp gv) (iiO C g) := by
  intro Z ad σ H B s x y dx dy d Q rp hx hy e q
  obtain ⟨i, j, rfl, rfl, c, rfl⟩ := iiO_some e
  exact ⟨i, j, rP_int hx, rP_int hy, hc i j c, q _ H B rp Stp.refl (hg _ _ _ _)⟩
theorem op2_ii0 {g : Int → Int → D} {gv : Int → Int → V} (hg : ∀ fa (B : Hp) i j, Dd K fa B (gv i j) (g i j)) : Op2 (@rV K ks) (rI0 gv) (iiO (fun _ _ => true) g) := by
  intro Z ad σ H B s x y dx dy d Q rp hx hy e q
  obtain ⟨i, j, rfl, rfl, c, rfl⟩ := iiO_some e
  exact ⟨i, j, rP_int hx, rP_int hy, q _ H B rp Stp.refl (hg _ _ _ _)⟩
def ssO (C : Str → Str → Bool) (g : Str → Str → D) : D → D → Option D
  | .str i, .str j => if C i j then some (g i j) else none
  | _, _ => none
theorem ssO_some {C : Str → Str → Bool} {g : Str → Str → D} {a b d : D} (h : ssO C g a b = some d) : ∃ i j, a = .str i ∧ b = .str j ∧ C i j = true ∧ d = g i j := by
  unfold ssO at h
  split at h
  · rename_i i j
    split at h
    · rename_i c
      cases h
      exact ⟨i, j, rfl, rfl, c, rfl⟩
    · cases h
  · cases h
def addI : D → D → Option D := iiO (fun _ _ => true) fun i j => .int (i + j)
def subI : D → D → Option D := iiO (fun _ _ => true) fun i j => .int (i - j)
def mulI : D → D → Option D := iiO (fun i j => decide (-(2 ^ 64) < i ∧ i < 2 ^ 64) || decide (-(2 ^ 64) < j ∧ j < 2 ^ 64)) fun i j => .int (i * j)
def divI : D → D → Option D := iiO (fun _ j => decide (0 < j ∧ j < 1073741824)) fun i j => .int (i / j)
def modI : D → D → Option D := iiO (fun _ j => decide (0 < j)) fun i j => .int (i % j)
def powI : D → D → Option D := iiO (fun i j => decide (0 ≤ j ∧ j ≤ 1000000 ∧ i.natAbs < 2 ^ 64)) fun i j => .int (i ^ j.toNat)
theorem o_addI : Op2 (@rV K ks) (rI0 fun i j => .int (i + j)) addI := op2_ii0 fun _ _ i j => .int _
theorem o_subI : Op2 (@rV K ks) (rI0 fun i j => .int (i - j)) subI := op2_ii0 fun _ _ i j => .int _
theorem o_mulI : Op2 (@rV K ks) (rI CMul fun i j => .int (i * j)) mulI := op2_ii (fun i j h => by
  simp only [Bool.or_eq_true, decide_eq_true_eq] at h
  exact h) fun _ _ i j => .int _
theorem o_divI : Op2 (@rV K ks) (rI CDiv fun i j => .int (i / j)) divI := op2_ii (fun i j h => of_decide_eq_true (p := 0 < j ∧ j < 1073741824) h) fun _ _ i j => .int _
theorem o_modI : Op2 (@rV K ks) (rI (fun _ j => 0 < j) fun i j => .int (i % j)) modI := op2_ii (fun i j h => of_decide_eq_true h) fun _ _ i j => .int _
theorem o_powI : Op2 (@rV K ks) (rI CPow fun i j => .int (i ^ j.toNat)) powI := op2_ii (fun i j h => of_decide_eq_true (p := 0 ≤ j ∧ j ≤ 1000000 ∧ i.natAbs < 2 ^ 64) h) fun _ _ i j => .int _
def ltI : D → D → Option D := iiO (fun _ _ => true) fun i j => .bl (decide (i < j))
def leI : D → D → Option D := iiO (fun _ _ => true) fun i j => .bl (decide (i ≤ j))
def gtI : D → D → Option D := iiO (fun _ _ => true) fun i j => .bl (decide (j < i))
def geI : D → D → Option D := iiO (fun _ _ => true) fun i j => .bl (decide (j ≤ i))
theorem o_ltI : Op2 (@rV K ks) (rI0 fun i j => .bl (decide (i < j))) ltI := op2_ii0 fun _ _ i j => .bl _
theorem o_leI : Op2 (@rV K ks) (rI0 fun i j => .bl (decide (i ≤ j))) leI := op2_ii0 fun _ _ i j => .bl _
theorem o_gtI : Op2 (@rV K ks) (rI0 fun i j => .bl (decide (j < i))) gtI := op2_ii0 fun _ _ i j => .bl _
theorem o_geI : Op2 (@rV K ks) (rI0 fun i j => .bl (decide (j ≤ i))) geI := op2_ii0 fun _ _ i j => .bl _

/-! texts -/
def addS : D → D → Option D := ssO (fun i j => decide (i.length + j.length ≤ sizeLine)) fun i j => .str (i ++ j)
def ltS : D → D → Option D := ssO (fun _ _ => true) fun i j => .bl (decide (i.cps.toList < j.cps.toList))
def leS : D → D → Option D := ssO (fun _ _ => true) fun i j => .bl (!decide (j.cps.toList < i.cps.toList))
def gtS : D → D → Option D := ssO (fun _ _ => true) fun i j => .bl (decide (j.cps.toList < i.cps.toList))
def geS : D → D → Option D := ssO (fun _ _ => true) fun i j => .bl (!decide (i.cps.toList < j.cps.toList))
theorem o_addS : Op2 (@rV K ks) (fun x y H Q => ∃ i j, x = .str i ∧ y = .str j ∧ i.length + j.length ≤ sizeLine ∧ Q (.str (i ++ j)) H) addS := by
  intro Z ad σ H B s x y dx dy d Q rp hx hy e q
  obtain ⟨i, j, rfl, rfl, c, rfl⟩ := ssO_some e
  exact ⟨i, j, rP_str hx, rP_str hy, of_decide_eq_true c, q _ H B rp Stp.refl (.str _)⟩
theorem o_ss {g : Str → Str → D} {gv : Str → Str → V} (hg : ∀ fa (B : Hp) i j, Dd K fa B (gv i j) (g i j)) : Op2 (@rV K ks) (fun x y H Q => ∃ i j, x = .str i ∧ y = .str j ∧ Q (gv i j) H) (ssO (fun _ _ => true) g) := by
  intro Z ad σ H B s x y dx dy d Q rp hx hy e q
  obtain ⟨i, j, rfl, rfl, c, rfl⟩ := ssO_some e
  exact ⟨i, j, rP_str hx, rP_str hy, q _ H B rp Stp.refl (hg _ _ _ _)⟩
theorem o_ltS : Op2 (@rV K ks) (fun x y H Q => ∃ i j, x = .str i ∧ y = .str j ∧ Q (.bl (decide (i.cps.toList < j.cps.toList))) H) ltS := o_ss fun _ _ i j => .bl _
theorem o_leS : Op2 (@rV K ks) (fun x y H Q => ∃ i j, x = .str i ∧ y = .str j ∧ Q (.bl (!decide (j.cps.toList < i.cps.toList))) H) leS := o_ss fun _ _ i j => .bl _
theorem o_gtS : Op2 (@rV K ks) (fun x y H Q => ∃ i j, x = .str i ∧ y = .str j ∧ Q (.bl (decide (j.cps.toList < i.cps.toList))) H) gtS := o_ss fun _ _ i j => .bl _
theorem o_geS : Op2 (@rV K ks) (fun x y H Q => ∃ i j, x = .str i ∧ y = .str j ∧ Q (.bl (!decide (i.cps.toList < j.cps.toList))) H) geS := o_ss fun _ _ i j => .bl _
/-- one sign in a text -/
def inS (neg : Bool) : D → D → Option D
  | .str x, .str z => match x.cps.toList with
    | [c] => some (.bl (if neg then !decide (c ∈ z.cps.toList) else decide (c ∈ z.cps.toList)))
    | _ => none
  | _, _ => none
theorem inS_some {neg : Bool} {a b d : D} (h : inS neg a b = some d) : ∃ c z, a = .str ⟨#[c]⟩ ∧ b = .str z ∧ d = .bl (if neg then !decide (c ∈ z.cps.toList) else decide (c ∈ z.cps.toList)) := by
  unfold inS at h
  split at h
  · rename_i x z
    split at h
    · rename_i c e
      cases h
      refine ⟨c, z, ?_, rfl, rfl⟩
      obtain ⟨⟨l⟩⟩ := x
      have e : l = [c] := e
      rw [e]
    · cases h
  · cases h
theorem o_inS : Op2 (@rV K ks) (fun x y H Q => ∃ (c : Nat) (z : Str), x = .str ⟨#[c]⟩ ∧ y = .str z ∧ Q (.bl (decide (c ∈ z.cps.toList))) H) (inS false) := by
  intro Z ad σ H B s x y dx dy d Q rp hx hy e q
  obtain ⟨c, z, rfl, rfl, rfl⟩ := inS_some e
  exact ⟨c, z, rP_str hx, rP_str hy, q _ H B rp Stp.refl (.bl _)⟩
theorem o_notInS : Op2 (@rV K ks) (fun x y H Q => ∃ (c : Nat) (z : Str), x = .str ⟨#[c]⟩ ∧ y = .str z ∧ Q (.bl (!decide (c ∈ z.cps.toList))) H) (inS true) := by
  intro Z ad σ H B s x y dx dy d Q rp hx hy e q
  obtain ⟨c, z, rfl, rfl, rfl⟩ := inS_some e
  exact ⟨c, z, rP_str hx, rP_str hy, q _ H B rp Stp.refl (.bl _)⟩

/-! tuples put together; lists put together -/
def addT : D → D → Option D
  | .tup a, .tup b => if a.length + b.length ≤ sizeLine then some (.tup (a ++ b)) else none
  | _, _ => none
theorem o_addT : Op2 (@rV K ks) (rCatA K) addT := by
  intro Z ad σ H B s x y dx dy d Q rp hx hy e q
  unfold addT at e
  split at e
  · rename_i as bs
    split at e
    · rename_i hl
      cases e
      obtain ⟨a, xs, rfl, ha, ha', ra⟩ := rP_tup rp hx
      obtain ⟨b, ys, rfl, hb, hb', rb⟩ := rP_tup rp hy
      have la := ra.len
      have lb := rb.len
      refine ⟨a, b, xs, ys, rfl, rfl, ha', hb', by omega, fun e => ?_, fun _ e => ?_, fun _ _ p hp => ?_⟩
      · subst e
        cases ra
        exact q _ H B rp Stp.refl (.tup hb rb)
      · subst e
        cases rb
        rw [List.append_nil] at q
        exact q _ H B rp Stp.refl (.tup ha ra)
      · obtain ⟨r2, st⟩ := rp.laid (.tup (xs ++ ys)) hp
        exact q _ _ _ r2 st (.tup (.inl (.inl upd_same)) ((ra.app rb).mono st.bb))
    · cases e
  · cases e
def addL : D → D → Option D
  | .lst a, .lst b => if a.length + b.length ≤ sizeLine then some (.lst (a ++ b)) else none
  | _, _ => none
/-- what a new list is, where it was just laid -/
theorem Rp.newL (rp : Rp Z ad σ H B s) {p : Addr} {xs : List V} {ds : List D} (hp : H p = none) (r : DdA K Z.fa B xs ds) : rL Z ad s (upd H p (.lst xs)) B H (.ref p) (.lst ds) :=
  ⟨ds, p, xs, rfl, rfl, rp.nofoot hp, upd_same, r, rp.bn hp, rp.h0 hp, hp, fun i es e => rp.adne e hp⟩
theorem o_addL : Op2 (@rL K ks) rCat addL := by
  intro Z ad σ H B s x y dx dy d Q rp hx hy e q
  unfold addL at e
  split at e
  · rename_i as bs
    split at e
    · rename_i hl
      cases e
      obtain ⟨a, xs, rfl, ha, ra⟩ := rP_lst rp hx
      obtain ⟨b, ys, rfl, hb, rb⟩ := rP_lst rp hy
      have la := ra.len
      have lb := rb.len
      refine ⟨a, b, xs, ys, rfl, rfl, ha, hb, by omega, fun p hp => ?_⟩
      obtain ⟨r2, st⟩ := rp.made (.lst (xs ++ ys)) hp
      exact q _ _ _ r2 st (rp.newL hp (ra.app rb))
    · cases e
  · cases e

/-! == and !=, at any depth -/
def shapedD (d : D) : Option PyData := d.toP.bind fun p => if SeqAt.shaped p then some p else none
theorem shapedD_some {d : D} {p : PyData} (h : shapedD d = some p) : d.toP = some p ∧ SeqAt.shaped p = true := by
  unfold shapedD at h
  cases e : d.toP with
  | none => rw [e] at h; cases h
  | some q =>
    rw [e] at h
    simp only [Option.bind_some] at h
    split at h
    · rename_i c
      cases h
      exact ⟨rfl, c⟩
    · cases h
def eqO (neg : Bool) : D → D → Option D := fun a b => match shapedD a, shapedD b with
  | some p, some q => some (.bl (if neg then !PyData.eqv p q else PyData.eqv p q))
  | _, _ => none
theorem eqO_some {neg : Bool} {a b d : D} (h : eqO neg a b = some d) : ∃ p q, shapedD a = some p ∧ shapedD b = some q ∧ d = .bl (if neg then !PyData.eqv p q else PyData.eqv p q) := by
  unfold eqO at h
  split at h
  · rename_i p q e1 e2
    cases h
    exact ⟨p, q, e1, e2, rfl⟩
  · cases h
theorem o_eqD : Op2 (@rV K ks) (rEqD K) (eqO false) := by
  intro Z ad σ H B s x y dx dy d Q rp hx hy e q
  obtain ⟨p, r, e1, e2, rfl⟩ := eqO_some e
  obtain ⟨a1, a2⟩ := shapedD_some e1
  obtain ⟨b1, b2⟩ := shapedD_some e2
  exact ⟨p, r, rP_dp rp hx a1, rP_dp rp hy b1, a2, b2, q _ H B rp Stp.refl (.bl _)⟩
theorem o_neD : Op2 (@rV K ks) (rNeD K) (eqO true) := by
  intro Z ad σ H B s x y dx dy d Q rp hx hy e q
  obtain ⟨p, r, e1, e2, rfl⟩ := eqO_some e
  obtain ⟨a1, a2⟩ := shapedD_some e1
  obtain ⟨b1, b2⟩ := shapedD_some e2
  exact ⟨p, r, rP_dp rp hx a1, rP_dp rp hy b1, a2, b2, q _ H B rp Stp.refl (.bl _)⟩
/-- is None, is not None -/
def isNon : D → Bool
  | .non => true
  | _ => false
def isNO (neg : Bool) : D → D → Option D
  | a, .non => some (.bl (if neg then !isNon a else isNon a))
  | _, _ => none
theorem isNO_v {v : V} {a : D} (h : rP Z ad s H B Hs v a) : decide (v = V.non) = isNon a := by
  rcases h with h | ⟨ds, c, xs, rfl, rfl, _⟩
  · cases h <;> simp [isNon]
  · simp [isNon]
theorem o_isN : Op2 (@rV K ks) (fun x y H Q => y = .non ∧ Q (.bl (decide (x = .non))) H) (isNO false) := by
  intro Z ad σ H B s x y dx dy d Q rp hx hy e q
  cases dy <;> simp only [isNO, Option.some.injEq, reduceCtorEq] at e
  subst e
  refine ⟨rP_non hy, q _ H B rp Stp.refl ?_⟩
  rw [isNO_v hx]
  exact .bl _
theorem o_notN : Op2 (@rV K ks) (fun x y H Q => y = .non ∧ Q (.bl (!decide (x = .non))) H) (isNO true) := by
  intro Z ad σ H B s x y dx dy d Q rp hx hy e q
  cases dy <;> simp only [isNO, Option.some.injEq, reduceCtorEq] at e
  subst e
  refine ⟨rP_non hy, q _ H B rp Stp.refl ?_⟩
  rw [isNO_v hx]
  exact .bl _

/-! items -/
def atD {α : Type} (xs : List α) (i : Int) : Option α := atI xs i
theorem DdA.atI {K : PySem.W.Frag} {fa : Addr} {B : Hp} {xs : List V} {ds : List D} {i : Int} {d : D} (h : DdA K fa B xs ds) (e : L2.atI ds i = some d) : ∃ v, L2.atI xs i = some v ∧ Dd K fa B v d := by
  unfold L2.atI at e ⊢
  rw [← h.len] at e
  cases c : ixN xs.length i with
  | none => rw [c] at e; cases e
  | some j =>
    rw [c] at e
    exact h.get e
def ixO : D → D → Option D
  | .lst ds, .int i => L2.atI ds i
  | .tup ds, .int i => L2.atI ds i
  | .str z, .int i => if z.length ≤ sizeLine then (L2.atI z.cps.toList i).map fun c => .str ⟨#[c]⟩ else none
  | _, _ => none
theorem o_ix : Op2 (@rV K ks) (rIx K) ixO := by
  intro Z ad σ H B s x y dx dy d Q rp hx hy e q
  unfold ixO at e
  split at e
  · rename_i ds i
    obtain ⟨a, xs, rfl, ha, ra⟩ := rP_lst rp hx
    obtain ⟨v, h1, h2⟩ := ra.atI e
    exact .inl ⟨a, xs, i, v, rfl, rP_int hy, SqL.of ha, h1, q _ H B rp Stp.refl h2⟩
  · rename_i ds i
    obtain ⟨a, xs, rfl, _, ha, ra⟩ := rP_tup rp hx
    obtain ⟨v, h1, h2⟩ := ra.atI e
    exact .inr (.inl ⟨a, xs, i, v, rfl, rP_int hy, ha, h1, q _ H B rp Stp.refl h2⟩)
  · rename_i z i
    split at e
    · rename_i hl
      cases c : L2.atI z.cps.toList i with
      | none => rw [c] at e; cases e
      | some w =>
        rw [c] at e
        cases e
        exact .inr (.inr ⟨z, i, w, rP_str hx, rP_int hy, hl, c, q _ H B rp Stp.refl (.str _)⟩)
    · cases e
  · cases e
end
end Og

set_option Elab.async false
set_option linter.all false
set_option maxRecDepth 100000
set_option maxHeartbeats 1000000
namespace Og
open PySem L2
section
variable {K : PySem.W.Frag} {ks : FK} {mg : Str → Option Value} {W : WX} {β α γ δ : Type}
variable {Z : Zt K ks} {ad : Nat → Addr} {σ : L2.St} {s s1 : Sto} {H B H1 B1 Hs : Hp}

/-! slices -/
def rO : Rl K ks (Option Int) (Option Int) := fun _ _ _ _ _ _ v a => v = a
theorem rO_mono : Mono (@rO K ks) := fun _ _ _ _ _ _ _ _ _ _ h => h
abbrev IO' (K : PySem.W.Frag) (ks : FK) (mg : Str → Option Value) (W : WX) (t : TO) (m : M (Option Int)) : Prop := Im mg W (@rO K ks) t m
def asInt : D → M (Option Int)
  | .int i => retM (some i)
  | _ => fun _ => .bad
theorem im_part {t : TE} {m : M D} (h : IP K ks mg W t m) : IO' K ks mg W (tPart t) (bindM m asInt) := by
  refine im_bind (t2 := fun x σ H Q => ∃ i : Int, x = V.int i ∧ Q (some i) H) rO_mono h fun a x Z ad σ s H B Hs Q rp hx q => ?_
  cases a with
  | int i => exact ⟨i, rP_int hx, q (some i) H B rp Stp.refl rfl⟩
  | _ => exact q.elim
theorem im_nopart : IO' K ks mg W tNoPart (retM none) := fun Z ad σ H B s Q rp q => q none H B rp Stp.refl rfl
def cutD {α : Type} (xs : List α) (lo hi : Option Int) : List α := (xs.drop (HT.sIx xs.length 0 lo)).take (HT.sIx xs.length xs.length hi - HT.sIx xs.length 0 lo)
theorem DdA.cut {fa : Addr} {xs : List V} {ds : List D} (h : DdA K fa B xs ds) (lo hi : Option Int) : DdA K fa B (cutV xs lo hi) (cutD ds lo hi) := by
  unfold cutV cutD
  rw [← h.len]
  exact (h.drop _).take _
def Op3 (ρ : Rl K ks V D) (r : V → Option Int → Option Int → Hp → VK → Prop) (f : D → Option Int → Option Int → Option D) : Prop := ∀ Z ad σ H B s x lo hi dx d Q, Rp Z ad σ H B s → rP Z ad s H B H x dx → f dx lo hi = some d →
  (∀ v H' B', Rp Z ad σ H' B' s → Stp Z ad s s H B H' B' → ρ Z ad s H' B' H v d → Q v H') → r x lo hi H Q
def m3 (f : D → Option Int → Option Int → Option D) (ma : M D) (ml mh : M (Option Int)) : M D := bindM ma fun a => bindM ml fun l => bindM mh fun h => optM (f a l h)
theorem im_sl {ρ : Rl K ks V D} {r : V → Option Int → Option Int → Hp → VK → Prop} {f : D → Option Int → Option Int → Option D} {te : TE} {tl th : TO} {ma : M D} {ml mh : M (Option Int)} (hm : Mono ρ) (o : Op3 ρ r f)
    (ha : IP K ks mg W te ma) (hl : IO' K ks mg W tl ml) (hh : IO' K ks mg W th mh) : Im mg W ρ (tSl r te tl th) (m3 f ma ml mh) := by
  refine im_bind (t2 := fun x σ H Q => tl σ H fun l H2 => th σ H2 fun u H3 => r x l u H3 Q) hm ha fun a x Z ad σ s H B Hs Q rp hx h => ?_
  refine hl Z ad σ H B s _ rp ?_
  unfold bindM at h
  cases e : ml s with
  | ok b s1 =>
    rw [e] at h
    intro y H1 B1 rp1 st hy
    have hy : y = b := hy
    subst hy
    have h := Post.shift hm st h
    refine hh Z ad σ H1 B1 s1 _ rp1 ?_
    cases e2 : mh s1 with
    | ok c s2 =>
      simp only [e2] at h
      intro z H2 B2 rp2 st2 hz
      have hz : z = c := hz
      subst hz
      have h := Post.shift hm st2 h
      unfold optM at h
      cases q : f a y z with
      | none =>
        simp only [q] at h
        exact h.elim
      | some d =>
        simp only [q] at h
        exact o Z ad σ H2 B2 s2 x y z a d Q rp2 (rP_step (st.trans st2) hx) q h
    | exc x s2 =>
      simp only [e2] at h
      exact h
    | bad =>
      simp only [e2] at h
      exact h
  | exc x s1 =>
    rw [e] at h
    exact h
  | bad =>
    rw [e] at h
    exact h
def slO : D → Option Int → Option Int → Option D
  | .str z, lo, hi => if z.length ≤ sizeLine then some (.str (cutS z lo hi)) else none
  | .tup ds, lo, hi => some (.tup (cutD ds lo hi))
  | _, _, _ => none
theorem cutV_all {xs : List V} {lo hi : Option Int} (h : HT.sIx xs.length 0 lo = 0 ∧ HT.sIx xs.length xs.length hi = xs.length) : cutV xs lo hi = xs := by
  unfold cutV
  rw [h.1, h.2]
  simp
theorem o_sl : Op3 (@rV K ks) (fun x lo hi H Q => rSlS x lo hi H Q ∨ rSlA K x lo hi H Q) slO := by
  intro Z ad σ H B s x lo hi dx d Q rp hx e q
  unfold slO at e
  split at e
  · split at e
    · rename_i z hl
      cases e
      exact .inl ⟨_, rP_str hx, hl, q _ H B rp Stp.refl (.str _)⟩
    · cases e
  · rename_i ds
    cases e
    obtain ⟨a, xs, rfl, hb, ha, ra⟩ := rP_tup rp hx
    refine .inr ⟨a, xs, rfl, ha, fun c => ?_, fun _ p hp => ?_⟩
    · have z := ra.cut lo hi
      rw [cutV_all c] at z
      exact q _ H B rp Stp.refl (.tup hb z)
    · obtain ⟨r2, st⟩ := rp.laid (.tup (cutV xs lo hi)) hp
      exact q _ _ _ r2 st (.tup (.inl (.inl upd_same)) ((ra.cut lo hi).mono st.bb))
  · cases e
def slL : D → Option Int → Option Int → Option D
  | .lst ds, lo, hi => some (.lst (cutD ds lo hi))
  | _, _, _ => none
theorem o_slL : Op3 (@rL K ks) (rSlL K) slL := by
  intro Z ad σ H B s x lo hi dx d Q rp hx e q
  unfold slL at e
  split at e
  · cases e
    obtain ⟨a, xs, rfl, ha, ra⟩ := rP_lst rp hx
    refine ⟨a, xs, rfl, SqL.of ha, fun p hp => ?_⟩
    obtain ⟨r2, st⟩ := rp.made (.lst (cutV xs lo hi)) hp
    exact q _ _ _ r2 st (rp.newL hp (ra.cut lo hi))
  · cases e

/-! -a -/
def negO : D → Option D
  | .int i => some (.int (-i))
  | _ => none
theorem o_neg : Op1 (@rV K ks) (rU fun i => .int (-i)) negO := by
  intro Z ad σ H B s x dx d Q rp hx e q
  cases dx <;> simp only [negO, Option.some.injEq, reduceCtorEq] at e
  subst e
  exact ⟨_, rP_int hx, q _ H B rp Stp.refl (.int _)⟩

/-! tests -/
def asB : D → M Bool
  | .bl b => retM b
  | _ => fun _ => .bad
theorem im_tB {t : TE} {m : M D} (h : IP K ks mg W t m) : IB K ks mg W (tB t) (bindM m asB) := by
  refine im_bind (t2 := fun x σ H Q => ∃ c, x = V.bl c ∧ Q c H) rB_mono h fun a x Z ad σ s H B Hs Q rp hx q => ?_
  cases a with
  | bl b => exact ⟨b, rP_bl hx, q b H B rp Stp.refl rfl⟩
  | _ => exact q.elim
theorem im_tTest {t : TE} {m : M D} (h : IP K ks mg W t m) : IB K ks mg W (tTest t) (bindM m asB) := im_tB h
def truD : D → Option Bool
  | .non => some false
  | .bl b => some b
  | .int i => some (i != 0)
  | .str z => if z.length ≤ sizeLine then some ((z.length : Int) != 0) else none
  | .lst ds => some (!ds.isEmpty)
  | .tup ds => some (!ds.isEmpty)
  | .fd => none
theorem isEmpty_len {α β : Type} {xs : List α} {ys : List β} (h : xs.length = ys.length) : xs.isEmpty = ys.isEmpty := by
  cases xs <;> cases ys <;> simp at h <;> rfl
theorem truD_v {v : V} {d : D} {k : Bool} (rp : Rp Z ad σ H B s) (h : rP Z ad s H B Hs v d) (e : truD d = some k) : TruV K v H k := by
  cases d with
  | non =>
    rw [rP_non h]
    simp only [truD, Option.some.injEq] at e
    exact e.symm
  | bl b =>
    rw [rP_bl h]
    simp only [truD, Option.some.injEq] at e
    exact e.symm
  | int i =>
    rw [rP_int h]
    simp only [truD, Option.some.injEq] at e
    exact e.symm
  | str z =>
    rw [rP_str h]
    simp only [truD] at e
    split at e
    · rename_i c
      cases e
      exact ⟨c, rfl⟩
    · cases e
  | lst ds =>
    obtain ⟨a, xs, rfl, ha, ra⟩ := rP_lst rp h
    simp only [truD, Option.some.injEq] at e
    exact .inl ⟨xs, SqL.of ha, by rw [← e, isEmpty_len ra.len]⟩
  | tup ds =>
    obtain ⟨a, xs, rfl, _, ha, ra⟩ := rP_tup rp h
    simp only [truD, Option.some.injEq] at e
    exact .inr (.inl ⟨xs, ha, by rw [← e, isEmpty_len ra.len]⟩)
  | fd => cases e
theorem im_truth {t : TE} {m : M D} (h : IP K ks mg W t m) : IB K ks mg W (fun σ H Q => t σ H fun x H' => ∃ k, TruV K x H' k ∧ Q k H') (bindM m fun d => optM (truD d)) := by
  refine im_bind (t2 := fun x σ H Q => ∃ k, TruV K x H k ∧ Q k H) rB_mono h fun a x Z ad σ s H B Hs Q rp hx q => ?_
  unfold optM at q
  cases e : truD a with
  | none =>
    simp only [e] at q
    exact q.elim
  | some k =>
    simp only [e] at q
    exact ⟨k, truD_v rp hx e, q k H B rp Stp.refl rfl⟩
def mIf {α : Type} (c : M Bool) (a b : M α) : M α := bindM c fun k => if k then a else b
theorem im_ite {ρ : Rl K ks β α} (hm : Mono ρ) {t : TT} {c : M Bool} {ta tb : L2.St → Hp → (β → Hp → Prop) → Prop} {a b : M α} (h : IB K ks mg W t c) (ha : Im mg W ρ ta a) (hb : Im mg W ρ tb b) :
    Im mg W ρ (fun σ H Q => t σ H fun k H1 => if k = true then ta σ H1 Q else tb σ H1 Q) (mIf c a b) := by
  refine im_bind (t2 := fun k σ H Q => if k = true then ta σ H Q else tb σ H Q) hm h fun k x Z ad σ s H B Hs Q rp hx q => ?_
  have hx : x = k := hx
  subst hx
  cases x with
  | true => exact iteT (ha Z ad σ H B s Q rp q)
  | false => exact iteF (hb Z ad σ H B s Q rp q)
theorem im_if {t : TT} {c : M Bool} {ta tb : TE} {a b : M D} (h : IB K ks mg W t c) (ha : IV K ks mg W ta a) (hb : IV K ks mg W tb b) : IV K ks mg W (tIf t ta tb) (mIf c a b) := im_ite rV_mono h ha hb
theorem im_ifP {t : TT} {c : M Bool} {ta tb : TE} {a b : M D} (h : IB K ks mg W t c) (ha : IP K ks mg W ta a) (hb : IP K ks mg W tb b) : IP K ks mg W (tIf t ta tb) (mIf c a b) := im_ite rP_mono h ha hb
theorem im_and {t u : TT} {a b : M Bool} (ha : IB K ks mg W t a) (hb : IB K ks mg W u b) : IB K ks mg W (tAnd t u) (mIf a b (retM false)) :=
  im_ite rB_mono ha hb fun Z ad σ H B s Q rp q => q false H B rp Stp.refl rfl
theorem im_or {t u : TT} {a b : M Bool} (ha : IB K ks mg W t a) (hb : IB K ks mg W u b) : IB K ks mg W (tOr t u) (mIf a (retM true) b) :=
  im_ite rB_mono ha (fun Z ad σ H B s Q rp q => q true H B rp Stp.refl rfl) hb
theorem im_not {t : TT} {a : M Bool} (ha : IB K ks mg W t a) : IB K ks mg W (tNot t) (bindM a fun b => retM (!b)) :=
  im_bind (t2 := fun k σ H Q => Q (!k) H) rB_mono ha fun k x Z ad σ s H B Hs Q rp hx q => by
    have hx : x = k := hx
    subst hx
    exact q (!x) H B rp Stp.refl rfl
theorem im_yes : IB K ks mg W tYes (retM true) := fun Z ad σ H B s Q rp q => q true H B rp Stp.refl rfl
/-- and, or, not as values: of bools -/
theorem im_andV {ta tb : TE} {a b : M D} (ha : IP K ks mg W ta a) (hb : IV K ks mg W tb b) : IV K ks mg W (tAndV ta tb) (mIf (bindM a asB) b (retM (.bl false))) := by
  refine fun Z ad σ H B s Q rp q => ?_
  have h := im_ite rV_mono (im_tB ha) hb (im_c (K := K) (ks := ks) (mg := mg) (W := W) fun _ _ => Dd.bl false) Z ad σ H B s Q rp q
  exact h
theorem im_orV {ta tb : TE} {a b : M D} (ha : IP K ks mg W ta a) (hb : IV K ks mg W tb b) : IV K ks mg W (tOrV ta tb) (mIf (bindM a asB) (retM (.bl true)) b) := by
  refine fun Z ad σ H B s Q rp q => ?_
  have h := im_ite rV_mono (im_tB ha) (im_c (K := K) (ks := ks) (mg := mg) (W := W) fun _ _ => Dd.bl true) hb Z ad σ H B s Q rp q
  exact h
def notO : D → Option D
  | .bl b => some (.bl (!b))
  | _ => none
theorem im_notV {ta : TE} {a : M D} (ha : IP K ks mg W ta a) : IV K ks mg W (tNotV ta) (m1 notO a) := by
  refine im_op1 (r := fun x H Q => ∃ c, x = V.bl c ∧ Q (.bl (!c)) H) rV_mono (fun Z ad σ H B s x dx d Q rp hx e q => ?_) ha
  cases dx <;> simp only [notO, Option.some.injEq, reduceCtorEq] at e
  subst e
  exact ⟨_, rP_bl hx, q _ H B rp Stp.refl (.bl _)⟩
/-- a < b < c -/
def mCh (f g : D → D → Option D) (ma mb mc : M D) : M D := bindM ma fun a => bindM mb fun b => bindM (optM (f a b)) fun z => bindM (asB z) fun k => if k then bindM mc fun c => optM (g b c) else retM (.bl false)
theorem im_chain {r r' : R2} {f g : D → D → Option D} {ta tb tc : TE} {ma mb mc : M D} (o : Op2 (@rV K ks) r f) (o' : Op2 (@rV K ks) r' g) (ha : IP K ks mg W ta ma) (hb : IP K ks mg W tb mb) (hc : IP K ks mg W tc mc) :
    IV K ks mg W (tChain r r' ta tb tc) (mCh f g ma mb mc) := by
  refine im_bind (t2 := fun x σ H Q => tb σ H fun y H2 => r x y H2 fun z H3 => ∃ k, z = V.bl k ∧ if k = true then tc σ H3 fun w' H4 => r' y w' H4 Q else Q (V.bl false) H3) rV_mono ha fun a x Z ad σ s H B Hs Q rp hx h => ?_
  refine hb Z ad σ H B s _ rp ?_
  unfold bindM at h
  cases e : mb s with
  | exc x s1 => rw [e] at h; exact h
  | bad => rw [e] at h; exact h
  | ok b s1 =>
    rw [e] at h
    intro y H1 B1 rp1 st hy
    have h := Post.shift rV_mono st h
    unfold optM at h
    cases q : f a b with
    | none => simp only [q] at h; exact h.elim
    | some z =>
      simp only [q] at h
      refine o Z ad σ H1 B1 s1 x y a b z _ rp1 (rP_step st hx) hy q fun v H2 B2 rp2 st2 hv => ?_
      have h := Post.shift rV_mono st2 h
      cases z with
      | bl k =>
        refine ⟨k, rP_bl (Z := Z) (ad := ad) (s := s1) (H := H2) (B := B2) (Hs := H2) (.inl hv), ?_⟩
        simp only [asB, retM] at h
        cases k with
        | false => exact iteF (h _ H2 B2 rp2 Stp.refl (.bl _))
        | true =>
          refine iteT ?_
          simp only [if_true] at h
          refine hc Z ad σ H2 B2 s1 _ rp2 ?_
          cases e3 : mc s1 with
          | exc x s2 => simp only [e3] at h; exact h
          | bad => simp only [e3] at h; exact h
          | ok c s2 =>
            simp only [e3] at h
            intro w' H3 B3 rp3 st3 hw
            have h := Post.shift rV_mono st3 h
            cases q2 : g b c with
            | none => simp only [q2] at h; exact h.elim
            | some d =>
              simp only [q2] at h
              exact o' Z ad σ H3 B3 s2 y w' b c d Q rp3 (rP_step (st2.trans st3) hy) hw q2 h
      | _ => simp only [asB] at h; exact h.elim

/-! arguments, displays -/
theorem im_anil : IA K ks mg W tNil (retM []) := fun Z ad σ H B s Q rp q => q [] H B rp Stp.refl .nil
theorem im_panil : IPA K ks mg W tNil (retM []) := fun Z ad σ H B s Q rp q => q [] H B rp Stp.refl .nil
def mCons (ma : M D) (mr : M (List D)) : M (List D) := bindM ma fun a => bindM mr fun r => retM (a :: r)
theorem im_acons {ta : TE} {tr : TA} {ma : M D} {mr : M (List D)} (ha : IV K ks mg W ta ma) (hr : IA K ks mg W tr mr) : IA K ks mg W (tCons ta tr) (mCons ma mr) := by
  refine im_bind (t2 := fun x σ H Q => tr σ H fun xs H2 => Q (x :: xs) H2) rA_mono ha fun a x Z ad σ s H B Hs Q rp hx h => ?_
  refine hr Z ad σ H B s _ rp ?_
  unfold bindM at h
  cases e : mr s with
  | exc x s1 => rw [e] at h; exact h
  | bad => rw [e] at h; exact h
  | ok b s1 =>
    rw [e] at h
    intro y H1 B1 rp1 st hy
    exact h (x :: y) H1 B1 rp1 st (.cons (Dd.mono st.bb hx) hy)
theorem pka_step {vs : List V} {ds : List D} {s' : Sto} {H' B' : Hp} (st : Stp Z ad s s' H B H' B') (h : PkA Z H B vs ds) : PkA Z H' B' vs ds := by
  induction h with
  | nil => exact .nil
  | cons h t ih => exact .cons (rP_step (s := s) (s' := s') (ad := ad) (Hs := H) (Hs' := H') st h) ih
theorem im_pacons {ta : TE} {tr : TA} {ma : M D} {mr : M (List D)} (ha : IP K ks mg W ta ma) (hr : IPA K ks mg W tr mr) : IPA K ks mg W (tCons ta tr) (mCons ma mr) := by
  refine im_bind (t2 := fun x σ H Q => tr σ H fun xs H2 => Q (x :: xs) H2) rPA_mono ha fun a x Z ad σ s H B Hs Q rp hx h => ?_
  refine hr Z ad σ H B s _ rp ?_
  unfold bindM at h
  cases e : mr s with
  | exc x s1 => rw [e] at h; exact h
  | bad => rw [e] at h; exact h
  | ok b s1 =>
    rw [e] at h
    intro y H1 B1 rp1 st hy
    exact h (x :: y) H1 B1 rp1 st (.cons (rP_step (s := s) (s' := s1) (ad := ad) (Hs := Hs) (Hs' := H1) st hx) hy)
def tupO (ds : List D) : Option D := if ds.length ≤ sizeLine then some (.tup ds) else none
def lstO (ds : List D) : Option D := if ds.length ≤ sizeLine then some (.lst ds) else none
theorem im_tup {t : TA} {m : M (List D)} (h : IA K ks mg W t m) : IV K ks mg W (tTup t) (bindM m fun ds => optM (tupO ds)) := by
  refine im_bind (t2 := fun xs σ H Q => xs.length ≤ sizeLine ∧ ∀ p, H p = none → Q (V.ref p) (upd H p (.tup xs))) rV_mono h fun a x Z ad σ s H B Hs Q rp hx q => ?_
  have hx : DdA K Z.fa B x a := hx
  unfold optM tupO at q
  by_cases c : a.length ≤ sizeLine
  · rw [if_pos c] at q
    refine ⟨by rw [hx.len]; exact c, fun p hp => ?_⟩
    obtain ⟨r2, st⟩ := rp.laid (.tup x) hp
    exact q _ _ _ r2 st (.tup (.inl (.inl upd_same)) (hx.mono st.bb))
  · rw [if_neg c] at q
    exact q.elim
theorem im_lst {t : TA} {m : M (List D)} (h : IA K ks mg W t m) : IL K ks mg W (tLst t) (bindM m fun ds => optM (lstO ds)) := by
  refine im_bind (t2 := fun xs σ H Q => xs.length ≤ sizeLine ∧ ∀ p, H p = none → Q (V.ref p) (upd H p (.lst xs))) rL_mono h fun a x Z ad σ s H B Hs Q rp hx q => ?_
  have hx : DdA K Z.fa B x a := hx
  unfold optM lstO at q
  by_cases c : a.length ≤ sizeLine
  · rw [if_pos c] at q
    refine ⟨by rw [hx.len]; exact c, fun p hp => ?_⟩
    obtain ⟨r2, st⟩ := rp.made (.lst x) hp
    exact q _ _ _ r2 st (rp.newL hp hx)
  · rw [if_neg c] at q
    exact q.elim

/-! built-in functions, by peeks at their arguments -/
def OpA (ρ : Rl K ks V D) (r : List V → Hp → VK → Prop) (f : List D → Option D) : Prop := ∀ Z ad σ H B s xs dx d Q, Rp Z ad σ H B s → PkA Z H B xs dx → f dx = some d →
  (∀ v H' B', Rp Z ad σ H' B' s → Stp Z ad s s H B H' B' → ρ Z ad s H' B' H v d → Q v H') → r xs H Q
def mA (f : List D → Option D) (m : M (List D)) : M D := bindM m fun ds => optM (f ds)
theorem im_cb {ρ : Rl K ks V D} {r : List V → Hp → VK → Prop} {f : List D → Option D} {t : TA} {m : M (List D)} (hm : Mono ρ) (o : OpA ρ r f) (h : IPA K ks mg W t m) : Im mg W ρ (tCB r t) (mA f m) := by
  refine im_bind (t2 := fun xs σ H Q => r xs H Q) hm h fun a x Z ad σ s H B Hs Q rp hx q => ?_
  unfold optM at q
  cases e : f a with
  | none => simp only [e] at q; exact q.elim
  | some d =>
    simp only [e] at q
    exact o Z ad σ H B s x a d Q rp hx e q
theorem pka1 {xs : List V} {d : D} (h : PkA Z H B xs [d]) : ∃ v, xs = [v] ∧ rP Z ad s H B Hs v d := by
  cases h with
  | cons h t =>
    cases t
    exact ⟨_, rfl, h⟩
def lenO : List D → Option D
  | [.str z] => if z.length ≤ sizeLine then some (.int z.length) else none
  | [.lst ds] => some (.int ds.length)
  | [.tup ds] => some (.int ds.length)
  | _ => none
theorem o_len : OpA (@rV K ks) (fun xs H Q => ∃ x n, xs = [x] ∧ LenV K x H n ∧ Q (.int (n : Nat)) H) lenO := by
  intro Z ad σ H B s xs dx d Q rp hx e q
  unfold lenO at e
  split at e
  · split at e
    · rename_i z c
      cases e
      obtain ⟨v, rfl, h⟩ := pka1 (ad := ad) (s := s) (Hs := H) hx
      rw [rP_str h]
      exact ⟨_, _, rfl, ⟨c, rfl⟩, q _ H B rp Stp.refl (.int _)⟩
    · cases e
  · cases e
    obtain ⟨v, rfl, h⟩ := pka1 (ad := ad) (s := s) (Hs := H) hx
    obtain ⟨a, ys, rfl, ha, ra⟩ := rP_lst rp h
    exact ⟨_, _, rfl, .inl ⟨ys, SqL.of ha, ra.len.symm⟩, q _ H B rp Stp.refl (.int _)⟩
  · cases e
    obtain ⟨v, rfl, h⟩ := pka1 (ad := ad) (s := s) (Hs := H) hx
    obtain ⟨a, ys, rfl, _, ha, ra⟩ := rP_tup rp h
    exact ⟨_, _, rfl, .inr ⟨ys, ha, ra.len.symm⟩, q _ H B rp Stp.refl (.int _)⟩
  · cases e
def intO : List D → Option D
  | [.int i] => some (.int i)
  | [.bl b] => some (.int (if b = true then 1 else 0))
  | _ => none
theorem o_int : OpA (@rV K ks) (fun xs H Q => (∃ i, xs = [.int i] ∧ Q (.int i) H) ∨ ∃ k : Bool, xs = [.bl k] ∧ Q (.int (if k = true then 1 else 0)) H) intO := by
  intro Z ad σ H B s xs dx d Q rp hx e q
  unfold intO at e
  split at e
  · cases e
    obtain ⟨v, rfl, h⟩ := pka1 (ad := ad) (s := s) (Hs := H) hx
    rw [rP_int h]
    exact .inl ⟨_, rfl, q _ H B rp Stp.refl (.int _)⟩
  · cases e
    obtain ⟨v, rfl, h⟩ := pka1 (ad := ad) (s := s) (Hs := H) hx
    rw [rP_bl h]
    exact .inr ⟨_, rfl, q _ H B rp Stp.refl (.int _)⟩
  · cases e
def tupleO : List D → Option D
  | [.lst ds] => some (.tup ds)
  | [.tup ds] => some (.tup ds)
  | _ => none
theorem o_tuple : OpA (@rV K ks) (fun xs H Q => ∃ p ys, xs = [.ref p] ∧ ((SqL K H p ys ∧ ∀ l, H l = none → Q (.ref l) (upd H l (.tup ys))) ∨ SqT K H p ys ∧ Q (.ref p) H)) tupleO := by
  intro Z ad σ H B s xs dx d Q rp hx e q
  unfold tupleO at e
  split at e
  · cases e
    obtain ⟨v, rfl, h⟩ := pka1 (ad := ad) (s := s) (Hs := H) hx
    obtain ⟨a, ys, rfl, ha, ra⟩ := rP_lst rp h
    refine ⟨a, ys, rfl, .inl ⟨SqL.of ha, fun p hp => ?_⟩⟩
    obtain ⟨r2, st⟩ := rp.laid (.tup ys) hp
    exact q _ _ _ r2 st (.tup (.inl (.inl upd_same)) (ra.mono st.bb))
  · cases e
    obtain ⟨v, rfl, h⟩ := pka1 (ad := ad) (s := s) (Hs := H) hx
    obtain ⟨a, ys, rfl, hb, ha, ra⟩ := rP_tup rp h
    exact ⟨a, ys, rfl, .inr ⟨ha, q _ H B rp Stp.refl (.tup hb ra)⟩⟩
  · cases e
def listO : List D → Option D
  | [.lst ds] => some (.lst ds)
  | [.tup ds] => some (.lst ds)
  | _ => none
theorem o_list : OpA (@rL K ks) (fun xs H Q => ∃ p ys, xs = [.ref p] ∧ (SqL K H p ys ∨ SqT K H p ys) ∧ ∀ l, H l = none → Q (.ref l) (upd H l (.lst ys))) listO := by
  intro Z ad σ H B s xs dx d Q rp hx e q
  unfold listO at e
  split at e
  · cases e
    obtain ⟨v, rfl, h⟩ := pka1 (ad := ad) (s := s) (Hs := H) hx
    obtain ⟨a, ys, rfl, ha, ra⟩ := rP_lst rp h
    refine ⟨a, ys, rfl, .inl (SqL.of ha), fun p hp => ?_⟩
    obtain ⟨r2, st⟩ := rp.made (.lst ys) hp
    exact q _ _ _ r2 st (rp.newL hp ra)
  · cases e
    obtain ⟨v, rfl, h⟩ := pka1 (ad := ad) (s := s) (Hs := H) hx
    obtain ⟨a, ys, rfl, hb, ha, ra⟩ := rP_tup rp h
    refine ⟨a, ys, rfl, .inr ha, fun p hp => ?_⟩
    obtain ⟨r2, st⟩ := rp.made (.lst ys) hp
    exact q _ _ _ r2 st (rp.newL hp ra)
  · cases e
end
end Og

set_option Elab.async false
set_option linter.all false
set_option maxRecDepth 100000
set_option maxHeartbeats 1000000
namespace Og
open PySem L2
/-! statements -/
inductive Fl where
  | nx (s : Sto)
  | rt (d : D) (s : Sto)
  | bk (s : Sto)
  | ct (s : Sto)
  | exc (x : Xc) (s : Sto)
  | bad
abbrev MS := Sto → Fl
def bindS {α : Type} (m : M α) (k : α → MS) : MS := fun s => match m s with
  | .ok a s1 => k a s1
  | .exc x s1 => .exc x s1
  | .bad => .bad
section
variable {K : PySem.W.Frag} {ks : FK} {mg : Str → Option Value} {W : WX} {β α γ δ : Type}
variable {Z : Zt K ks} {ad : Nat → Addr} {σ : L2.St} {s s1 : Sto} {H B H1 B1 Hs : Hp}
def PostS (mg : Str → Option Value) (Z : Zt K ks) (B : Hp) (D : Ends) (W : WX) : Fl → Prop
  | .nx s => ∀ ad σ H B', Rp Z ad σ H B' s → Same B B' → D.nx σ H
  | .rt d s => ∀ ad σ H B' v, Rp Z ad σ H B' s → Same B B' → Dd K Z.fa B' v d → D.rt v H
  | .bk s => ∀ ad σ H B', Rp Z ad σ H B' s → Same B B' → D.bk σ H
  | .ct s => ∀ ad σ H B', Rp Z ad σ H B' s → Same B B' → D.ct σ H
  | .exc x s => ∀ ad σ H B' cls dd, Rp Z ad σ H B' s → Same B B' → XcOk mg K Z.fa B' H cls dd x → W cls dd σ H
  | .bad => False
theorem PostS.up {D : Ends} {o : Fl} (e : Same B B1) (h : PostS mg Z B D W o) : PostS mg Z B1 D W o := by
  cases o with
  | nx s => exact fun ad σ H B' rp b => h ad σ H B' rp (e.trans b)
  | rt d s => exact fun ad σ H B' v rp b => h ad σ H B' v rp (e.trans b)
  | bk s => exact fun ad σ H B' rp b => h ad σ H B' rp (e.trans b)
  | ct s => exact fun ad σ H B' rp b => h ad σ H B' rp (e.trans b)
  | exc x s => exact fun ad σ H B' cls dd rp b => h ad σ H B' cls dd rp (e.trans b)
  | bad => exact h
def IS (K : PySem.W.Frag) (ks : FK) (mg : Str → Option Value) (W : WX) (t : TS) (m : MS) : Prop := ∀ (Z : Zt K ks) ad σ H B s D, Rp Z ad σ H B s → PostS mg Z B D W (m s) → t D σ H
/-- an expression, then a statement's end -/
theorem is_bind {ρ : Rl K ks β α} {t : L2.St → Hp → (β → Hp → Prop) → Prop} {u : β → TS} {m : M α} {k : α → MS} (h : Im mg W ρ t m)
    (h2 : ∀ a x (Z : Zt K ks) ad σ H B s D Hs, Rp Z ad σ H B s → ρ Z ad s H B Hs x a → PostS mg Z B D W (k a s) → u x D σ H) : IS K ks mg W (fun D σ H => t σ H fun x H1 => u x D σ H1) (bindS m k) := by
  intro Z ad σ H B s D rp q
  refine h Z ad σ H B s _ rp ?_
  unfold bindS at q
  cases e : m s with
  | ok a s1 =>
    rw [e] at q
    exact fun v H' B' rp' st r => h2 a v Z ad σ H' B' s1 D H rp' r (q.up st.bb)
  | exc x s1 =>
    rw [e] at q
    exact fun cls dd H' B' rp' st r => q ad σ H' B' cls dd rp' st.bb r
  | bad =>
    rw [e] at q
    exact q
def seqS (m n : MS) : MS := fun s => match m s with
  | .nx s1 => n s1
  | o => o
theorem is_seq {t u : TS} {m n : MS} (h : IS K ks mg W t m) (h2 : IS K ks mg W u n) : IS K ks mg W (tSeq t u) (seqS m n) := by
  intro Z ad σ H B s D rp q
  refine h Z ad σ H B s _ rp ?_
  unfold seqS at q
  cases e : m s with
  | nx s1 =>
    rw [e] at q
    exact fun ad' σ' H' B' rp' sb => h2 Z ad' σ' H' B' s1 D rp' (q.up sb)
  | rt d s1 => rw [e] at q; exact q
  | bk s1 => rw [e] at q; exact q
  | ct s1 => rw [e] at q; exact q
  | exc x s1 => rw [e] at q; exact q
  | bad => rw [e] at q; exact q
theorem is_nil : IS K ks mg W tNext (fun s => .nx s) := fun Z ad σ H B s D rp q => q ad σ H B rp (Same.refl _)
theorem is_brk : IS K ks mg W tBreak (fun s => .bk s) := fun Z ad σ H B s D rp q => q ad σ H B rp (Same.refl _)
theorem is_cont : IS K ks mg W tCont (fun s => .ct s) := fun Z ad σ H B s D rp q => q ad σ H B rp (Same.refl _)
theorem is_drop {te : TE} {m : M D} (h : IP K ks mg W te m) : IS K ks mg W (tDrop te) (bindS m fun _ s => .nx s) :=
  is_bind (u := fun _ D σ H => D.nx σ H) h fun a x Z ad σ H B s D Hs rp _ q => q ad σ H B rp (Same.refl _)
theorem is_ret {te : TE} {m : M D} (h : IV K ks mg W te m) : IS K ks mg W (tRet te) (bindS m fun d s => .rt d s) :=
  is_bind (u := fun x D σ H => D.rt x H) h fun a x Z ad σ H B s D Hs rp r q => q ad σ H B x rp (Same.refl _) r
theorem is_retN : IS K ks mg W tRetN (fun s => .rt .non s) := fun Z ad σ H B s D rp q => q ad σ H B .non rp (Same.refl _) .non
def ifS (c : M Bool) (a b : MS) : MS := bindS c fun k => if k then a else b
theorem is_if {c : TT} {t u : TS} {mc : M Bool} {m n : MS} (hc : IB K ks mg W c mc) (h : IS K ks mg W t m) (h2 : IS K ks mg W u n) : IS K ks mg W (tIfS c t u) (ifS mc m n) :=
  is_bind (u := fun k D σ H => if k = true then t D σ H else u D σ H) hc fun a x Z ad σ H B s D Hs rp r q => by
    have r : x = a := r
    subst r
    cases x with
    | true => exact iteT (h Z ad σ H B s D rp q)
    | false => exact iteF (h2 Z ad σ H B s D rp q)

/-! x = e -/
theorem Rp.put (rp : Rp Z ad σ H B s) {v : V} {d : D} (i : Nat) (h : Dd K Z.fa B v d) : Rp Z ad (σ.set i (some v)) H B (s.put i (.val d)) := by
  have ow : ∀ j es, (s.put i (.val d)).at j = .own es → j ≠ i ∧ s.at j = .own es := fun j es e => by
    by_cases q : j = i
    · subst q
      by_cases l : j < s.sl.length
      · rw [Sto.at_put l] at e
        cases e
      · rw [Sto.at_put_out l] at e
        cases e
    · rw [Sto.at_put_ne q] at e
      exact ⟨q, e⟩
  refine ⟨rp.bh, rp.nof, rp.res, rp.fr0, rp.nb0, rp.b0, ?_, fun j => ?_, fun j k es fs e e' z => rp.inj j k es fs (ow j es e).2 (ow k fs e').2 z⟩
  · unfold Sto.put
    rw [List.length_set, List.length_set, rp.len]
  · by_cases q : j = i
    · subst q
      by_cases l : j < s.sl.length
      · rw [Sto.at_put l]
        exact ⟨v, by rw [List.getElem?_set_self (by rw [rp.len]; exact l)], h⟩
      · rw [Sto.at_put_out l]
        trivial
    · rw [Sto.at_put_ne q]
      have z := rp.sl j
      unfold SlOk at z ⊢
      rw [List.getElem?_set_ne (Ne.symm q)]
      exact z
def asgV (i : Nat) (m : M D) : MS := bindS m fun d s => .nx (s.put i (.val d))
theorem is_asg {te : TE} {m : M D} (i : Nat) (h : IV K ks mg W te m) : IS K ks mg W (tAsg te (gName i)) (asgV i m) :=
  is_bind (u := fun x D σ H => D.nx (σ.set i (some x)) H) h fun a x Z ad σ H B s D Hs rp r q => q ad _ H B (rp.put i r) (Same.refl _)
theorem Rp.putOwn (rp : Rp Z ad σ H B s) {a : Addr} {xs : List V} {ds : List D} (i : Nat) (hf : ¬ Foot Z.fa Z.ca a) (ha : H a = some (.lst xs)) (hr : DdA K Z.fa B xs ds) (hb : B a = none) (h0 : Z.H0 a = none) (ho : ∀ j es, j ≠ i → s.at j = .own es → ad j ≠ a) :
    Rp Z (fun j => if j = i then a else ad j) (σ.set i (some (.ref a))) H B (s.put i (.own ds)) := by
  have ow : ∀ j es, j ≠ i → (s.put i (.own ds)).at j = .own es → s.at j = .own es := fun j es n e => by
    rw [Sto.at_put_ne n] at e
    exact e
  refine ⟨rp.bh, rp.nof, rp.res, rp.fr0, rp.nb0, rp.b0, ?_, fun j => ?_, fun j k es fs e e' z => ?_⟩
  · unfold Sto.put
    rw [List.length_set, List.length_set, rp.len]
  · by_cases q : j = i
    · subst q
      by_cases l : j < s.sl.length
      · rw [Sto.at_put l]
        unfold SlOk
        simp only [if_true]
        exact ⟨by rw [List.getElem?_set_self (by rw [rp.len]; exact l)], h0, hb, hf, xs, ha, hr⟩
      · rw [Sto.at_put_out l]
        trivial
    · rw [Sto.at_put_ne q]
      have z := rp.sl j
      unfold SlOk at z ⊢
      rw [List.getElem?_set_ne (Ne.symm q)]
      simp only [if_neg q]
      exact z
  · by_cases q : j = i
    · by_cases q2 : k = i
      · rw [q, q2]
      · simp only [if_pos q, if_neg q2] at z
        exact absurd z.symm (ho k fs q2 (ow k fs q2 e'))
    · by_cases q2 : k = i
      · simp only [if_neg q, if_pos q2] at z
        exact absurd z (ho j es q (ow j es q e))
      · simp only [if_neg q, if_neg q2] at z
        exact rp.inj j k es fs (ow j es q e) (ow k fs q2 e') z
def asgL (i : Nat) (m : M D) : MS := bindS m fun d s => match d with
  | .lst ds => .nx (s.put i (.own ds))
  | _ => .bad
theorem is_asgL {te : TE} {m : M D} (i : Nat) (h : IL K ks mg W te m) : IS K ks mg W (tAsg te (gName i)) (asgL i m) :=
  is_bind (u := fun x D σ H => D.nx (σ.set i (some x)) H) h fun a x Z ad σ H B s D Hs rp r q => by
    obtain ⟨ds, a, xs, rfl, rfl, h3, h4, h5, h6, h7, h8, h9⟩ := r
    exact q _ _ H B (rp.putOwn i h3 h4 h5 h6 h7 fun j es _ e => h9 j es e) (Same.refl _)
/-- a, b = x, y -/
def parS (i j : Nat) (m : M (List D)) : MS := bindS m fun ds s => match ds with
  | [a, b] => .nx ((s.put i (.val a)).put j (.val b))
  | _ => .bad
theorem dda2 {fa : Addr} {xs : List V} {a b : D} (h : DdA K fa B xs [a, b]) : ∃ v w, xs = [v, w] ∧ Dd K fa B v a ∧ Dd K fa B w b := by
  cases h with
  | cons h t =>
    cases t with
    | cons h2 t2 =>
      cases t2
      exact ⟨_, _, rfl, h, h2⟩
theorem is_par {ta : TA} {m : M (List D)} (i j : Nat) (h : IA K ks mg W ta m) : IS K ks mg W (tPar i j ta) (parS i j m) :=
  is_bind (u := fun vs D σ H => ∃ v w, vs = [v, w] ∧ D.nx ((σ.set i (some v)).set j (some w)) H) h fun a x Z ad σ H B s D Hs rp r q => by
    match a, r, q with
    | [d, e], r, q =>
      obtain ⟨v, w, rfl, h1, h2⟩ := dda2 r
      exact ⟨v, w, rfl, q ad _ H B ((rp.put i h1).put j h2) (Same.refl _)⟩

/-! the frame's own lists -/
/-- the list of slot i is changed -/
theorem Rp.chg (rp : Rp Z ad σ H B s) {i : Nat} {ds es : List D} {ys : List V} (e : s.at i = .own ds) (hy : DdA K Z.fa B ys es) : Rp Z ad σ (upd H (ad i) (.lst ys)) B (s.put i (.own es)) := by
  obtain ⟨h1, h2, h3, h4, xs, h5, h6⟩ := rp.own e
  have il := Sto.lt_of_at e (fun z => nomatch z)
  have nb : ∀ b o, B b = some o → b ≠ ad i := fun b o q z => by
    rw [z, h3] at q
    cases q
  have hfoot : ∀ b, Foot Z.fa Z.ca b → upd H (ad i) (.lst ys) b = H b := fun b f => upd_ne fun z => h4 (z ▸ f)
  have ow : ∀ j fs, j ≠ i → (s.put i (.own es)).at j = .own fs → s.at j = .own fs := fun j fs n q => by
    rw [Sto.at_put_ne n] at q
    exact q
  refine ⟨fun b o q => by rw [upd_ne (nb b o q)]; exact rp.bh b o q, rp.nof, rp.res.rst hfoot, fun b o n q => ?_, rp.nb0, rp.b0, ?_, fun j => ?_, fun j k fs gs q q' z => ?_⟩
  · have n2 : b ≠ ad i := fun z => by
      rw [z, h2] at q
      cases q
    rw [upd_ne n2]
    exact rp.fr0 b o n q
  · unfold Sto.put
    rw [List.length_set, rp.len]
  · by_cases q : j = i
    · subst q
      rw [Sto.at_put il]
      exact ⟨h1, h2, h3, h4, ys, upd_same, hy⟩
    · rw [Sto.at_put_ne q]
      have z := rp.sl j
      cases w : s.at j with
      | un => trivial
      | val d =>
        rw [w] at z
        exact z
      | own fs =>
        rw [w] at z
        obtain ⟨g1, g2, g3, g4, zs, g5, g6⟩ := z
        exact ⟨g1, g2, g3, g4, zs, by rw [upd_ne (fun c => q (rp.inj j i fs ds w e c))]; exact g5, g6⟩
      | dic kvs =>
        rw [w] at z
        obtain ⟨g1, g2, g3, g4, zs, g5, g6, g7⟩ := z
        have n : ad j ≠ ad i := fun w => by
          rw [w, h5] at g5
          cases g5
        exact ⟨g1, g2, g3, g4, zs, by rw [upd_ne n]; exact g5, g6, g7⟩
  · have f : ∀ l hs, (s.put i (.own es)).at l = .own hs → ∃ hs', s.at l = .own hs' := fun l hs c => by
      by_cases n : l = i
      · exact ⟨ds, n ▸ e⟩
      · exact ⟨hs, ow l hs n c⟩
    obtain ⟨fs', q1⟩ := f j fs q
    obtain ⟨gs', q2⟩ := f k gs q'
    exact rp.inj j k fs' gs' q1 q2 z
/-- x.append(e) -/
def appS (i : Nat) (m : M D) : MS := fun s => match s.at i with
  | .own _ => bindS m (fun d s => match s.at i with
    | .own ds => if ds.length < sizeLine then .nx (s.put i (.own (ds ++ [d]))) else .bad
    | _ => .bad) s
  | _ => .bad
theorem is_append {te : TE} {m : M D} (i : Nat) (h : IV K ks mg W te m) : IS K ks mg W (tDrop (tBM K "list" rAppend (tVar i) (tCons te tNil))) (appS i m) := by
  intro Z ad σ H B s D rp q
  unfold appS at q
  cases e : s.at i with
  | un => rw [e] at q; exact q.elim
  | dic kvs => rw [e] at q; exact q.elim
  | val d => rw [e] at q; exact q.elim
  | own ds =>
    rw [e] at q
    obtain ⟨h1, _, _, _, xs, h5, _⟩ := rp.own e
    refine ⟨_, h1, .inl ⟨rfl, xs, SqL.of h5⟩, ?_⟩
    refine h Z ad σ H B s _ rp ?_
    simp only [bindS] at q
    cases e2 : m s with
    | exc x s1 => rw [e2] at q; exact fun cls dd H' B' rp' st r => q ad σ H' B' cls dd rp' st.bb r
    | bad => rw [e2] at q; exact q
    | ok d s1 =>
      rw [e2] at q
      intro v H1 B1 rp1 st hv
      cases e3 : s1.at i with
      | un => simp only [e3] at q; exact q.elim
      | dic kvs => simp only [e3] at q; exact q.elim
      | val d => simp only [e3] at q; exact q.elim
      | own es =>
        simp only [e3] at q
        obtain ⟨_, _, _, _, ys, g5, g6⟩ := rp1.own e3
        by_cases c : es.length < sizeLine
        · rw [if_pos c] at q
          exact ⟨ad i, ys, v, rfl, rfl, g5, by rw [g6.len]; exact c, q ad σ _ B1 (rp1.chg e3 (g6.app (.cons hv .nil))) st.bb⟩
        · rw [if_neg c] at q
          exact q.elim
/-- x.extend(e), e a list -/
def extS (i : Nat) (m : M D) : MS := fun s => match s.at i with
  | .own _ => bindS m (fun d s => match s.at i, d with
    | .own ds, .lst es => if ds.length + es.length ≤ sizeLine then .nx (s.put i (.own (ds ++ es))) else .bad
    | _, _ => .bad) s
  | _ => .bad
theorem is_extend {te : TE} {m : M D} (i : Nat) (h : IP K ks mg W te m) : IS K ks mg W (tDrop (tBM K "list" rExtend (tVar i) (tCons te tNil))) (extS i m) := by
  intro Z ad σ H B s D rp q
  unfold extS at q
  cases e : s.at i with
  | un => rw [e] at q; exact q.elim
  | dic kvs => rw [e] at q; exact q.elim
  | val d => rw [e] at q; exact q.elim
  | own ds =>
    rw [e] at q
    obtain ⟨h1, _, _, _, xs, h5, _⟩ := rp.own e
    refine ⟨_, h1, .inl ⟨rfl, xs, SqL.of h5⟩, ?_⟩
    refine h Z ad σ H B s _ rp ?_
    simp only [bindS] at q
    cases e2 : m s with
    | exc x s1 => rw [e2] at q; exact fun cls dd H' B' rp' st r => q ad σ H' B' cls dd rp' st.bb r
    | bad => rw [e2] at q; exact q
    | ok d s1 =>
      rw [e2] at q
      intro v H1 B1 rp1 st hv
      cases e3 : s1.at i with
      | un => simp only [e3] at q; exact q.elim
      | dic kvs => simp only [e3] at q; exact q.elim
      | val d => simp only [e3] at q; exact q.elim
      | own es =>
        cases d with
        | lst fs =>
          simp only [e3] at q
          obtain ⟨_, _, _, _, ys, g5, g6⟩ := rp1.own e3
          obtain ⟨b, zs, rfl, hb, rb⟩ := rP_lst rp1 hv
          by_cases c : es.length + fs.length ≤ sizeLine
          · rw [if_pos c] at q
            exact ⟨ad i, b, ys, zs, rfl, rfl, g5, hb, by rw [g6.len, rb.len]; exact c, q ad σ _ B1 (rp1.chg e3 (g6.app rb)) st.bb⟩
          · rw [if_neg c] at q
            exact q.elim
        | _ => simp only [e3] at q; exact q.elim
/-- y = x.pop() -/
theorem DdA.last : ∀ {fa : Addr} {xs : List V} {ds : List D} {d : D}, DdA K fa B xs ds → ds.getLast? = some d → ∃ v, xs[xs.length - 1]? = some v ∧ Dd K fa B v d := fun {fa xs ds d} h e => by
  rw [List.getLast?_eq_getElem?, ← h.len] at e
  exact h.get e
theorem DdA.dropLast {fa : Addr} {xs : List V} {ds : List D} (h : DdA K fa B xs ds) : DdA K fa B xs.dropLast ds.dropLast := by
  rw [List.dropLast_eq_take, List.dropLast_eq_take, h.len]
  exact h.take _
def popS (j i : Nat) : MS := fun s => match s.at i with
  | .own ds => match ds.getLast? with
    | some d => .nx ((s.put i (.own ds.dropLast)).put j (.val d))
    | none => .bad
  | _ => .bad
theorem is_pop (j i : Nat) : IS K ks mg W (tAsg (tBM0 K "list" rPop (tVar i)) (gName j)) (popS j i) := by
  intro Z ad σ H B s D rp q
  unfold popS at q
  cases e : s.at i with
  | un => rw [e] at q; exact q.elim
  | dic kvs => rw [e] at q; exact q.elim
  | val d => rw [e] at q; exact q.elim
  | own ds =>
    rw [e] at q
    obtain ⟨h1, _, _, _, xs, h5, h6⟩ := rp.own e
    cases e2 : ds.getLast? with
    | none => simp only [e2] at q; exact q.elim
    | some d =>
      simp only [e2] at q
      obtain ⟨v, g1, g2⟩ := h6.last e2
      refine ⟨_, h1, .inl ⟨rfl, xs, SqL.of h5⟩, ad i, xs, v, rfl, rfl, h5, g1, ?_⟩
      exact q ad _ _ B ((rp.chg e h6.dropLast).put j g2) (Same.refl _)

/-! loops -/
def whileS (c : M Bool) (b : MS) : Nat → MS
  | 0 => fun _ => .bad
  | n + 1 => bindS c fun k s => if k then (match b s with
    | .nx s1 => whileS c b n s1
    | .ct s1 => whileS c b n s1
    | .bk s1 => .nx s1
    | o => o) else .nx s
theorem is_while {tc : TT} {tb : TS} {c : M Bool} {b : MS} (n : Nat) (hc : IB K ks mg W tc c) (hb : IS K ks mg W tb b) : IS K ks mg W (tWhile tc tb) (whileS c b n) := by
  intro Z ad σ H B s D rp q
  refine ⟨fun m σ H => ∃ ad B s, Rp Z ad σ H B s ∧ PostS mg Z B D W (whileS c b m s), ⟨n, ad, B, s, rp, q⟩, ?_⟩
  rintro m σ H ⟨ad, B, s, rp, q⟩
  cases m with
  | zero => exact q.elim
  | succ m =>
    refine hc Z ad σ H B s _ rp ?_
    simp only [whileS, bindS] at q
    cases e : c s with
    | exc x s1 => rw [e] at q; exact fun cls dd H' B' rp' st r => q ad σ H' B' cls dd rp' st.bb r
    | bad => rw [e] at q; exact q
    | ok k s1 =>
      rw [e] at q
      intro v H1 B1 rp1 st hv
      have hv : v = k := hv
      subst hv
      cases v with
      | false => exact iteF (q ad σ H1 B1 rp1 st.bb)
      | true =>
        refine iteT ⟨fun σ H => ∃ ad B s, Rp Z ad σ H B s ∧ PostS mg Z B D W (whileS c b m s), fun σ' H' h => ⟨m, Nat.lt_succ_self m, h⟩, ?_⟩
        refine hb Z ad σ H1 B1 s1 _ rp1 ?_
        simp only [if_true] at q
        have q := q.up st.bb
        cases e2 : b s1 with
        | nx s2 => simp only [e2] at q; exact fun ad' σ' H' B' rp' sb => ⟨ad', B', s2, rp', q.up sb⟩
        | ct s2 => simp only [e2] at q; exact fun ad' σ' H' B' rp' sb => ⟨ad', B', s2, rp', q.up sb⟩
        | bk s2 => simp only [e2] at q; exact q
        | rt d s2 => simp only [e2] at q; exact q
        | exc x s2 => simp only [e2] at q; exact q
        | bad => simp only [e2] at q; exact q

/-! what is walked -/
/-- J yields the items ds, while the frozen part stands -/
def WkOk (Z : Zt K ks) (J : It) (B : Hp) (ds : List D) : Prop := ∃ (G : Hp → Prop) (Y : Nat → Hp → V → Hp → Prop), Walk J ds.length G Y ∧ (∀ H, Same B H → G H) ∧
  ∀ i H x H' d, Same B H → Y i H x H' → ds[i]? = some d → (H' = H ∧ Dd K Z.fa B x d) ∨ ∃ T u w a b, x = V.ref T ∧ H T = none ∧ H' = upd H T (.tup [u, w]) ∧ d = D.tup [a, b] ∧ Dd K Z.fa B u a ∧ Dd K Z.fa B w b
def rW : Rl K ks It (List D) := fun Z _ _ _ B _ J ds => WkOk Z J B ds
theorem rW_mono : Mono (@rW K ks) := fun _ _ _ _ _ _ _ _ _ _ h => h
abbrev IW (K : PySem.W.Frag) (ks : FK) (mg : Str → Option Value) (W : WX) (t : TI) (m : M (List D)) : Prop := Im mg W (@rW K ks) t m
/-- a target -/
def TgOk (K : PySem.W.Frag) (ks : FK) (g : TG) (f : D → Sto → Option Sto) : Prop := ∀ (Z : Zt K ks) ad σ H B s v d s' Q, Rp Z ad σ H B s → Dd K Z.fa B v d → f d s = some s' → (∀ σ', Rp Z ad σ' H B s' → Q σ' H) → g v σ H Q
def tgN (i : Nat) : D → Sto → Option Sto := fun d s => some (s.put i (.val d))
theorem tg_name (i : Nat) : TgOk K ks (gName i) (tgN i) := by
  intro Z ad σ H B s v d s' Q rp h e q
  simp only [tgN, Option.some.injEq] at e
  subst e
  exact q _ (rp.put i h)
def tg2 (i j : Nat) : D → Sto → Option Sto := fun d s => match d with
  | .tup [a, b] => some ((s.put i (.val a)).put j (.val b))
  | _ => none
theorem tg_two (i j : Nat) : TgOk K ks (gTup K 2 (gCons (gName i) (gCons (gName j) gNil))) (tg2 i j) := by
  intro Z ad σ H B s v d s' Q rp h e q
  unfold tg2 at e
  split at e
  · cases e
    cases h with
    | tup q1 r =>
      obtain ⟨x, y, rfl, h1, h2⟩ := dda2 r
      exact ⟨_, _, rfl, sqt_mono rp.bh q1, rfl, x, [y], rfl, y, [], rfl, rfl, q _ ((rp.put i h1).put j h2)⟩
  · cases e
def forS (f : D → Sto → Option Sto) (b : MS) : List D → MS
  | [] => fun s => .nx s
  | d :: ds => fun s => match f d s with
    | none => .bad
    | some s1 => match b s1 with
      | .nx s2 => forS f b ds s2
      | .ct s2 => forS f b ds s2
      | .bk s2 => .nx s2
      | o => o
theorem Rp.b_sub (rp : Rp Z ad σ H B s) {B0 : Hp} (h : Same B0 B) : Same B0 H := h.trans rp.bh
/-- the items' heap grows by a pair, or not at all -/
theorem wk_item (rp : Rp Z ad σ H B s) {B0 : Hp} (hb : Same B0 B) {x : V} {H' : Hp} {d : D}
    (h : (H' = H ∧ Dd K Z.fa B0 x d) ∨ ∃ T u w a b, x = V.ref T ∧ H T = none ∧ H' = upd H T (.tup [u, w]) ∧ d = D.tup [a, b] ∧ Dd K Z.fa B0 u a ∧ Dd K Z.fa B0 w b) :
    ∃ B', Rp Z ad σ H' B' s ∧ Stp Z ad s s H B H' B' ∧ Dd K Z.fa B' x d := by
  rcases h with ⟨rfl, h⟩ | ⟨T, u, w, a, b, rfl, hT, rfl, rfl, h1, h2⟩
  · exact ⟨B, rp, Stp.refl, h.mono hb⟩
  · obtain ⟨r2, st⟩ := rp.laid (.tup [u, w]) hT
    exact ⟨_, r2, st, .tup (.inl (.inl upd_same)) (.cons (h1.mono (hb.trans st.bb)) (.cons (h2.mono (hb.trans st.bb)) .nil))⟩
def mFor (f : D → Sto → Option Sto) (m : M (List D)) (b : MS) : MS := bindS m fun ds => forS f b ds
theorem is_for {wi : TI} {g : TG} {tb : TS} {m : M (List D)} {f : D → Sto → Option Sto} {b : MS} (hw : IW K ks mg W wi m) (hg : TgOk K ks g f) (hb : IS K ks mg W tb b) : IS K ks mg W (tFor wi g tb) (mFor f m b) := by
  intro Z ad σ H B s D rp q
  refine hw Z ad σ H B s _ rp ?_
  simp only [mFor, bindS] at q
  cases e : m s with
  | exc x s1 => rw [e] at q; exact fun cls dd H' B' rp' st r => q ad σ H' B' cls dd rp' st.bb r
  | bad => rw [e] at q; exact q
  | ok ds s1 =>
    rw [e] at q
    intro J H1 B1 rp1 st hJ
    obtain ⟨G, Y, wk, hG, hY⟩ := hJ
    refine for_it wk (fun i σ H => ∃ ad B s, Rp Z ad σ H B s ∧ Same B1 B ∧ PostS mg Z B D W (forS f b (ds.drop i) s)) ⟨ad, B1, s1, rp1, Same.refl _, by simpa using q.up st.bb⟩ (fun i σ H _ ⟨ad, B, s, rp, sb, _⟩ => hG H (rp.b_sub sb)) (fun i x σ H H' hi ⟨ad, B, s, rp, sb, q⟩ y => ?_) (fun σ H ⟨ad, B, s, rp, sb, q⟩ => ?_)
    · have ei : ds.drop i = ds[i] :: ds.drop (i + 1) := List.drop_eq_getElem_cons hi
      rw [ei] at q
      obtain ⟨B2, rp2, st2, hd⟩ := wk_item rp sb (hY i H x H' ds[i] (rp.b_sub sb) y (List.getElem?_eq_getElem hi))
      simp only [forS] at q
      cases e2 : f ds[i] s with
      | none => simp only [e2] at q; exact q.elim
      | some s2 =>
        simp only [e2] at q
        refine hg Z ad σ H' B2 s x ds[i] s2 _ rp2 hd e2 fun σ2 rp3 => ?_
        refine hb Z ad σ2 H' B2 s2 _ rp3 ?_
        have q := q.up st2.bb
        have sb2 := sb.trans st2.bb
        cases e3 : b s2 with
        | nx s3 => simp only [e3] at q; exact fun ad' σ' H' B' rp' sb' => ⟨ad', B', s3, rp', sb2.trans sb', q.up sb'⟩
        | ct s3 => simp only [e3] at q; exact fun ad' σ' H' B' rp' sb' => ⟨ad', B', s3, rp', sb2.trans sb', q.up sb'⟩
        | bk s3 => simp only [e3] at q; exact q
        | rt d s3 => simp only [e3] at q; exact q
        | exc x s3 => simp only [e3] at q; exact q
        | bad => simp only [e3] at q; exact q
    · rw [List.drop_length] at q
      exact q ad σ H B rp (Same.refl _)
end
end Og

set_option Elab.async false
set_option linter.all false
set_option maxRecDepth 100000
set_option maxHeartbeats 1000000
namespace Og
open PySem L2
/-! ### defs, where no repr is under way -/
structure FnG (P : Program) (w : World) (K : PySem.W.Frag) (mg : Str → Option Value) (base : Heap) (k : Nat) (f : Addr) (fd : FuncData) (ps : List Str) (sp : Sp) : Prop where
  len : ∀ vs H Q E, sp vs H Q E → vs.length = ps.length
  go : ∀ (A : Around) (outer : List Env) (s : Shared) (H : Hp) (args : Args) (us : List Value) (vs : List V) (Q : VK) (E : XK), A.guards = some [] → Room k A →
    Env0 P w K mg base A outer s H → BindsTo s fd args (ps.zip us) → Vals vs us → sp vs H Q E → codeAny (model P w) A (.call (.ref f) args) (CR (L2.CX P w) outer P w H s Q E) s
theorem FnG.up {P : Program} {w : World} {K : PySem.W.Frag} {mg : Str → Option Value} {base : Heap} {j k : Nat} {f : Addr} {fd : FuncData} {ps : List Str} {sp : Sp} (F : FnG P w K mg base j f fd ps sp) (h : j ≤ k) : FnG P w K mg base k f fd ps sp :=
  ⟨F.len, fun A outer s H args us vs Q E hg hr => F.go A outer s H args us vs Q E hg (hr.mono h)⟩
theorem FnG.of {P : Program} {w : World} {K : PySem.W.Frag} {mg : Str → Option Value} {base : Heap} {k : Nat} {f : Addr} {fd : FuncData} {ps : List Str} {sp : Sp} (F : FnOk P w K mg base (L2.CX P w) k f fd ps sp) : FnG P w K mg base k f fd ps sp :=
  ⟨F.len, fun A outer s H args us vs Q E _ hr => F.run A outer s H args us vs Q E hr⟩
/-- a promise that nobody can ask for -/
theorem FnG.no {P : Program} {w : World} {K : PySem.W.Frag} {mg : Str → Option Value} {base : Heap} {k : Nat} {f : Addr} {fd : FuncData} {ps : List Str} {sp : Sp} (h : ∀ vs H Q E, ¬ sp vs H Q E) : FnG P w K mg base k f fd ps sp :=
  ⟨fun vs H Q E q => absurd q (h vs H Q E), fun A outer s H args us vs Q E _ _ _ _ _ q => absurd q (h vs H Q E)⟩

section
variable {X : Cx} {k : Nat} {f : Addr} {fd : FuncData} {ps : List Str} {sp : Sp} {W : WX} {x : Str} {p pos : Pos} {e : Expr} {es : List Expr} {t : TA}
theorem go_fn {pins : List (Addr × Obj)} {σ : L2.St} {H : Hp} {s : Shared} {Q : VK} {us : List Value} {kw : List (Str × Value)} {vs : List V} {bs : List Value} (F : FnG X.prog X.w X.K X.mg X.base k f fd ps sp) (hG : X.A.guards = some []) (hr : Room k X.A) (tk : Takes X W)
    (hb : BindsTo s fd ⟨us, kw⟩ (ps.zip bs)) (I : L2.Inv X pins σ H s) (r : Vals vs bs) (h : sp vs H Q (WE W σ)) : wpAny (model X.prog X.w) X.A (call (.ref f) us kw) (EP X pins σ Q) X.xe s := by
  refine wpAny_call (codeAny_mono (F.go X.A X.stack s H ⟨us, kw⟩ bs vs Q (WE W σ) hG hr I.env0 hb r h) fun r s' hq => ?_)
  match r, hq with
  | .error e, hq => exact passAt tk σ pins H s e s' I hq
  | .ok (.ret u), hq => exact I.after hq
/-- f(e, ..) -/
theorem pe_callG (F : FnG X.prog X.w X.K X.mg X.base k f fd ps sp) (hG : X.A.guards = some []) (hr : Room k X.A) (hg : Gl X x) (hm : X.mg x = some (.ref f)) (hk : PySem.W.keepIn X.K (.ref f) = true) (hb : Binds X.K fd ps []) (tk : Takes X W) (ha : PA X (e :: es) t)
    (hdb : (x == ("__debug__" : Str)) = false := by decide) (he : starEach (e :: es) X.env = (false, eval e X.env) :: starEach es X.env := by rfl) (hpl : (backTo pos (starEach es X.env)).any (·.1) = false := by rfl) :
    PE X (.Call (.Name x p) (e :: es) [] pos) (tCallS sp (WE W) t) := by
  refine ⟨fun pins s σ H Q I h => wpAny_Call_Name_kw (ld_glob I hg hm ?_ hdb)⟩
  refine PySem.W.callWith_K (h₀ := X.base) I.ok.mod.kin hk (wpAny_mono (ha.run pos pins s σ H _ I h) (fun us s1 q => ?_) fun _ _ z => z) he hpl
  obtain ⟨vs, H1, I1, r, q⟩ := q
  have hl : (us ++ []).length = ps.length := by
    rw [List.append_nil, ← r.length]
    exact F.len _ _ _ _ q
  have z := hb s1 us I1.kIn hl
  rw [List.append_nil] at z
  exact ⟨I1.kIn, go_fn F hG hr tk z I1 r q⟩
theorem pe_callG0 (F : FnG X.prog X.w X.K X.mg X.base k f fd ps sp) (hG : X.A.guards = some []) (hr : Room k X.A) (hg : Gl X x) (hm : X.mg x = some (.ref f)) (hk : PySem.W.keepIn X.K (.ref f) = true) (hb : Binds X.K fd ps []) (tk : Takes X W)
    (hdb : (x == ("__debug__" : Str)) = false := by decide) : PE X (.Call (.Name x p) [] [] pos) (tCallS sp (WE W) tNil) := by
  refine ⟨fun pins s σ H Q I h => wpAny_Call_Name_kw (ld_glob I hg hm ?_ hdb)⟩
  have hl : (([] : List Value) ++ []).length = ps.length := (F.len _ _ _ _ h).symm ▸ rfl
  exact PySem.W.callWith_K0 I.kIn hk (go_fn (us := []) F hG hr tk (hb s [] I.kIn hl) I .nil h)
/-- f(k = e, ..), all by their names -/
theorem pe_callGK {kws : List Keyword} {ns : List Str} {g : List Value → List Value → List Value} {gV : List V → List V → List V} {tk' : TA} (F : FnG X.prog X.w X.K X.mg X.base k f fd ps sp) (hG : X.A.guards = some []) (hr : Room k X.A) (hg : Gl X x) (hm : X.mg x = some (.ref f))
    (hk : PySem.W.keepIn X.K (.ref f) = true) (hb : KBinds X.K fd ps ns g gV) (tk : Takes X W) (hkw : PK X kws tk')
    (hall : (backToKw pos (keywordEach kws X.env)).all (·.1.isSome) = true := by rfl) (hks : (backToKw pos (keywordEach kws X.env)).filterMap (·.1) = ns := by rfl)
    (hno : (backToKw pos (keywordEach kws X.env)).any (·.1.isNone) = false := by rfl) (hdb : (x == ("__debug__" : Str)) = false := by decide) : PE X (.Call (.Name x p) [] kws pos) (fun σ H Q => tk' σ H fun zs H1 => sp (gV [] zs) H1 Q (WE W σ)) := by
  refine ⟨fun pins s σ H Q I h => wpAny_Call_Name_kw (ld_glob I hg hm ?_ hdb)⟩
  refine PySem.W.callWith_KW0 (h₀ := X.base) I.ok.mod.kin hk hall (wpAny_mono (hkw.run pos pins s σ H _ I h) (fun ws s1 q => ?_) fun _ _ z => z) hno
  obtain ⟨zs, H1, I1, r, q⟩ := q
  rw [hks]
  have r2 := hb.rel (vs := []) (us := []) .nil r
  have hl : (g [] ws).length = ps.length := by
    rw [← r2.length]
    exact F.len _ _ _ _ q
  exact ⟨I1.kIn, go_fn (us := []) F hG hr tk (hb.to s1 [] ws I1.kIn hl) I1 r2 q⟩
end

theorem guards_deeper (A : Around) (env : Env) : (A.deeper env).guards = A.guards := by
  first
    | rfl
    | (unfold Around.deeper; simp)

/-- a def by its body, where no repr is under way -/
theorem fng_of {P : Program} {w : World} {K : PySem.W.Frag} {mg : Str → Option Value} {base : Heap} {k : Nat} {x qual : Str} {st : Stmt} {f : Addr} {fd : FuncData} {N ps : List Str} {sp : Sp} (F : Fun K x qual st f fd) (S : FnScope N ps (defScope st))
    (len : ∀ vs H Q E, sp vs H Q E → vs.length = ps.length)
    (hbody : ∀ (cdv : Value) (A : Around) (outer : List Env) (s : Shared) (H : Hp) (vs : List V) (Q : VK) (E : XK), A.guards = some [] → Room k (A.deeper (PyProof.Rows.envOfC qual (defScope st) s.heap.objs.size f cdv)) → sp vs H Q E →
      ∃ t, PSs (cxOf (L2.CX P w) P w K mg base N qual (defScope st) f cdv A outer s H E) (defBody st) t ∧ t { nx := fun _ H' => Q .non H', rt := Q } (L2.start N vs) H) : FnG P w K mg base (k + 1) f fd ps sp := by
  obtain ⟨oc, od, kV, doc, pm, an, cdv, ct, osl, rfl, lk, hcd⟩ := F.ex
  refine ⟨len, fun A outer s H args us vs Q E hg hr e0 hb r hsp => ?_⟩
  have keep : ∀ b o, base.get? b = some o → s.heap.get? b = some o := fun b o e => (e0.bs b o e).1
  have KX : K.In s.heap := e0.mod.kin.keeps keep
  have kinds : ∀ y ∈ ps.zip us, (defScope st).names.lookup y.1 = some .local ∨ ((defScope st).names.lookup y.1 = some .cell ∧ ((cellsFrom (s.heap.objs.size + 1) (defScope st).names []).lookup y.1).isSome = true) := fun y hy => by
    rcases S.par y.1 (List.of_mem_zip (a := y.1) (b := y.2) hy).1 with q | q
    · exact .inl q
    · exact .inr ⟨q, PySem.W.cellsFrom_some _ _ _ (.inl q)⟩
  refine codeAny_call_function hr.depth (KX _ _ lk) rfl S.co S.gen rfl (PySem.W.codeRec_of KX hcd) (hb _ _ _ _ (wpAny_newFunctionEnv_cells S.kind kinds fun env he s1 z => ?_))
  subst he
  refine ⟨(e0.mod.nolimit.keeps keep).keeps z.toInCall.keep, codeAny_func ?_⟩
  obtain ⟨t, ht, hq⟩ := hbody cdv A outer s H vs Q E hg (hr.deeper _) hsp
  have I := inv_start (CX := L2.CX P w) (E := E) (N := N) (qual := qual) (f := f) (cd := cdv) S hr.hd e0 (len _ _ _ _ hsp) r z
  refine wpAny_mono (ht.run [] s1 _ H _ I hq) (fun fl s' hs => ?_) fun _ _ hs => hs
  match fl, hs with
  | .ret u, hs =>
    obtain ⟨v, σ', H', J, rv, q⟩ := hs
    exact ⟨v, H', J.os, J.bare, J.base, J.hok, rv, q⟩
  | .next, hs =>
    obtain ⟨σ', H', J, q⟩ := hs
    exact ⟨V.non, H', J.os, J.bare, J.base, J.hok, rfl, q⟩
  | .brk, hs =>
    obtain ⟨_, _, _, q⟩ := hs
    exact q.elim
  | .cont, hs =>
    obtain ⟨_, _, _, q⟩ := hs
    exact q.elim

/-! ### what a def of plain values promises -/
inductive OutF where
  | ok (d : D) (F : Fd)
  | exc (x : Xc) (F : Fd)
  | bad
abbrev Fn := List D → Fd → OutF
structure CallExt (fa ca : Addr) (H B H' B' : Hp) : Prop where
  fr : ∀ b o, ¬ Foot fa ca b → H b = some o → H' b = some o
  bb : Same B B'
  bh : Same B' H'
  nb : ∀ b o, B' b = some o → B b = some o ∨ H b = none
  nof : ∀ b, Foot fa ca b → B' b = none
def spG (K : PySem.W.Frag) (ks : FK) (mg : Str → Option Value) (n : Nat) (m : Fn) : Sp := fun vs H Q E => vs.length = n ∧ ∃ fa ca B F ds, fa ≠ ca ∧ Same B H ∧ (∀ b, Foot fa ca b → B b = none) ∧ FeedOk ks fa ca H F ∧ DdA K fa B vs ds ∧
  match m ds F with
  | .ok d F' => ∀ v H' B', CallExt fa ca H B H' B' → FeedOk ks fa ca H' F' → Dd K fa B' v d → Q v H'
  | .exc x F' => ∀ cls dd H' B', CallExt fa ca H B H' B' → FeedOk ks fa ca H' F' → XcOk mg K fa B' H' cls dd x → E cls dd H'
  | .bad => False
def sto0 (n : Nat) (ds : List D) (F : Fd) : Sto := ⟨ds.map SV.val ++ List.replicate (n - ds.length) .un, F⟩
/-- the def as a function, by its body -/
def fnM (n : Nat) (m : MS) : Fn := fun ds F => match m (sto0 n ds F) with
  | .rt d s => .ok d s.F
  | .nx s => .ok .non s.F
  | .exc x s => .exc x s.F
  | _ => .bad
section
variable {K : PySem.W.Frag} {ks : FK} {mg : Str → Option Value}
theorem DdA.getN {fa : Addr} {B : Hp} {vs : List V} {ds : List D} (h : DdA K fa B vs ds) (i : Nat) : (∃ v d, vs[i]? = some v ∧ ds[i]? = some d ∧ Dd K fa B v d) ∨ (vs[i]? = none ∧ ds[i]? = none) := by
  by_cases c : i < vs.length
  · obtain ⟨d, h1, h2⟩ := h.getV (List.getElem?_eq_getElem c)
    exact .inl ⟨_, d, List.getElem?_eq_getElem c, h1, h2⟩
  · refine .inr ⟨List.getElem?_eq_none (by omega), List.getElem?_eq_none ?_⟩
    rw [← h.len]
    omega
theorem start_rp {fa ca : Addr} {H B : Hp} {F : Fd} {vs : List V} {ds : List D} {N : List Str} (ne : fa ≠ ca) (sb : Same B H) (nof : ∀ b, Foot fa ca b → B b = none) (fo : FeedOk ks fa ca H F) (hd : DdA K fa B vs ds) :
    Rp (K := K) (ks := ks) ⟨fa, ca, ne, H, B⟩ (fun _ => 0) (L2.start N vs) H B (sto0 N.length ds F) := by
  have hat : ∀ i, (sto0 N.length ds F).at i = match ds[i]? with
      | some d => .val d
      | none => .un := fun i => by
    unfold Sto.at sto0
    by_cases c : i < ds.length
    · rw [List.getElem?_append_left (by simpa using c), List.getElem?_map]
      rw [List.getElem?_eq_getElem c]
      rfl
    · rw [List.getElem?_append_right (by simpa using c), List.getElem?_replicate, List.getElem?_eq_none (by omega)]
      split <;> rfl
  have noown : ∀ i es, (sto0 N.length ds F).at i ≠ .own es := fun i es z => by
    rw [hat i] at z
    split at z <;> cases z
  refine ⟨sb, nof, fo, fun _ _ _ h => h, fun _ _ h => .inl h, Same.refl _, ?_, fun i => ?_, fun i j es fs e => absurd e (noown i es)⟩
  · unfold L2.start sto0
    simp only [List.length_append, List.length_map, List.length_replicate]
    rw [hd.len]
  · rw [hat i]
    rcases hd.getN i with ⟨v, d, h1, h2, h3⟩ | ⟨h1, h2⟩
    · rw [h2]
      refine ⟨v, ?_, h3⟩
      have c : i < vs.length := by
        by_cases c : i < vs.length
        · exact c
        · rw [List.getElem?_eq_none (by omega)] at h1
          cases h1
      unfold L2.start
      rw [List.getElem?_append_left (by simpa using c), List.getElem?_map, h1]
      rfl
    · rw [h2]
      trivial
theorem Rp.ext {Z : Zt K ks} {ad : Nat → Addr} {σ : L2.St} {H B : Hp} {s : Sto} (r : Rp Z ad σ H B s) : CallExt Z.fa Z.ca Z.H0 Z.B0 H B := ⟨r.fr0, r.b0, r.bh, r.nb0, r.nof⟩
/-- THE RULE for a def: its body does what m says -/
theorem fn_mk {P : Program} {w : World} {base : Heap} {k : Nat} {x qual : Str} {st : Stmt} {f : Addr} {fd : FuncData} {N ps : List Str} {m : MS} (F : Fun K x qual st f fd) (S : FnScope N ps (defScope st))
    (hbody : ∀ (cdv : Value) (A : Around) (outer : List Env) (s : Shared) (H : Hp) (E : XK), A.guards = some [] → Room k (A.deeper (PyProof.Rows.envOfC qual (defScope st) s.heap.objs.size f cdv)) →
      ∃ t, PSs (cxOf (L2.CX P w) P w K mg base N qual (defScope st) f cdv A outer s H E) (defBody st) t ∧ IS K ks mg (fun cls d _ H => E cls d H) t m) : FnG P w K mg base (k + 1) f fd ps (spG K ks mg ps.length (fnM N.length m)) := by
  refine fng_of F S (fun vs H Q E h => h.1) fun cdv A outer s H vs Q E hg hr h => ?_
  obtain ⟨hl, fa, ca, B, Fd0, ds, ne, sb, nof, fo, hd, hq⟩ := h
  obtain ⟨t, ht, hi⟩ := hbody cdv A outer s H E hg hr
  refine ⟨t, ht, hi ⟨fa, ca, ne, H, B⟩ (fun _ => 0) _ H B (sto0 N.length ds Fd0) _ (start_rp ne sb nof fo hd) ?_⟩
  unfold fnM at hq
  cases e : m (sto0 N.length ds Fd0) with
  | nx s1 =>
    rw [e] at hq
    exact fun ad σ H' B' rp _ => hq .non H' B' rp.ext rp.res .non
  | rt d s1 =>
    rw [e] at hq
    exact fun ad σ H' B' v rp _ hv => hq v H' B' rp.ext rp.res hv
  | exc x s1 =>
    rw [e] at hq
    exact fun ad σ H' B' cls dd rp _ hx => hq cls dd H' B' rp.ext rp.res hx
  | bk s1 => rw [e] at hq; exact hq.elim
  | ct s1 => rw [e] at hq; exact hq.elim
  | bad => rw [e] at hq; exact hq.elim
/-- .. and its call -/
def callM (n : Nat) (fn : Fn) (m : M (List D)) : M D := bindM m fun ds s => if ds.length = n then (match fn ds s.F with
  | .ok d F' => .ok d { s with F := F' }
  | .exc x F' => .exc x { s with F := F' }
  | .bad => .bad) else .bad
theorem Rp.called {Z : Zt K ks} {ad : Nat → Addr} {σ : L2.St} {H B H' B' : Hp} {s : Sto} {F' : Fd} (r : Rp Z ad σ H B s) (c : CallExt Z.fa Z.ca H B H' B') (fo : FeedOk ks Z.fa Z.ca H' F') :
    Rp Z ad σ H' B' { s with F := F' } ∧ Stp Z ad s { s with F := F' } H B H' B' := by
  refine ⟨⟨c.bh, c.nof, fo, fun b o n h => c.fr b o n (r.fr0 b o n h), fun b o h => ?_, r.b0.trans c.bb, r.len, fun i => ?_, r.inj⟩, c.fr, c.bb, fun b o h => ?_, fun b h => ?_, fun _ _ h => h⟩
  · rcases c.nb b o h with h | h
    · exact r.nb0 b o h
    · exact .inr (r.h0 h)
  · have z := r.sl i
    show SlOk Z ad σ H' B' i (s.at i)
    cases e : s.at i with
    | un => trivial
    | val d =>
      rw [e] at z
      obtain ⟨v, h1, h2⟩ := z
      exact ⟨v, h1, h2.mono c.bb⟩
    | own ds =>
      rw [e] at z
      obtain ⟨h1, h2, h3, h4, xs, h5, h6⟩ := z
      refine ⟨h1, h2, ?_, h4, xs, c.fr _ _ h4 h5, h6.mono c.bb⟩
      cases q : B' (ad i) with
      | none => rfl
      | some o =>
        rcases c.nb _ o q with z | z
        · rw [h3] at z
          cases z
        · rw [h5] at z
          cases z
    | dic kvs =>
      rw [e] at z
      obtain ⟨h1, h2, h3, h4, xs, h5, h6, h7⟩ := z
      refine ⟨h1, h2, ?_, h4, xs, c.fr _ _ h4 h5, h6, h7.mono c.bb⟩
      cases q : B' (ad i) with
      | none => rfl
      | some o =>
        rcases c.nb _ o q with z | z
        · rw [h3] at z
          cases z
        · rw [h5] at z
          cases z
  · rcases c.nb b o h with h | h
    · exact .inl h
    · exact .inr (.inl h)
  · cases q : H b with
    | none => rfl
    | some o =>
      by_cases f : Foot Z.fa Z.ca b
      · exact absurd h (fo.fok f)
      · rw [c.fr b o f q] at h
        cases h
theorem im_call {W : WX} {n : Nat} {fn : Fn} {t : TA} {m : M (List D)} (h : IA K ks mg W t m) : IV K ks mg W (fun σ H Q => t σ H fun vs H1 => spG K ks mg n fn vs H1 Q (WE W σ)) (callM n fn m) := by
  intro Z ad σ H B s Q rp q
  refine h Z ad σ H B s _ rp ?_
  simp only [callM, bindM] at q
  cases e : m s with
  | exc x s1 => rw [e] at q; exact q
  | bad => rw [e] at q; exact q
  | ok ds s1 =>
    rw [e] at q
    intro vs H1 B1 rp1 st hv
    have q := Post.shift rV_mono st q
    have hv : DdA K Z.fa B1 vs ds := hv
    by_cases hn : ds.length = n
    · simp only [if_pos hn] at q
      refine ⟨hv.len.trans hn, Z.fa, Z.ca, B1, s1.F, ds, Z.ne, rp1.bh, rp1.nof, rp1.res, hv, ?_⟩
      cases e2 : fn ds s1.F with
      | ok d F' =>
        simp only [e2] at q
        intro v H2 B2 c fo hd
        obtain ⟨r2, st2⟩ := rp1.called c fo
        exact q v H2 B2 r2 st2 hd
      | exc x F' =>
        simp only [e2] at q
        intro cls dd H2 B2 c fo hx
        obtain ⟨r2, st2⟩ := rp1.called c fo
        exact q cls dd H2 B2 r2 st2 hx
      | bad =>
        simp only [e2] at q
        exact q.elim
    · simp only [if_neg hn] at q
      exact q.elim
end

/-! ### what a caller knows of a def -/
structure FnX (P : Program) (w : World) (K : PySem.W.Frag) (mg : Str → Option Value) (base : Heap) (ks : FK) (x : Str) (k n : Nat) (fn : Fn) : Prop where
  ex : ∃ f fd ps, FnG P w K mg base k f fd ps (spG K ks mg n fn) ∧ mg x = some (.ref f) ∧ PySem.W.keepIn K (.ref f) = true ∧ Binds K fd ps []
/-- all by name, nothing by place -/
def gKw {α : Type} : List α → List α → List α
  | [], ws => ws
  | _ :: _, _ => []
structure FnXK (P : Program) (w : World) (K : PySem.W.Frag) (mg : Str → Option Value) (base : Heap) (ks : FK) (x : Str) (ns : List Str) (k n : Nat) (fn : Fn) : Prop where
  ex : ∃ f fd ps, FnG P w K mg base k f fd ps (spG K ks mg n fn) ∧ mg x = some (.ref f) ∧ PySem.W.keepIn K (.ref f) = true ∧ KBinds K fd ps ns gKw gKw
theorem FnX.up {P : Program} {w : World} {K : PySem.W.Frag} {mg : Str → Option Value} {base : Heap} {ks : FK} {x : Str} {j k n : Nat} {fn : Fn} (h : FnX P w K mg base ks x j n fn) (e : j ≤ k) : FnX P w K mg base ks x k n fn := by
  obtain ⟨f, fd, ps, h1, h2⟩ := h.ex
  exact ⟨f, fd, ps, h1.up e, h2⟩
end Og

set_option Elab.async false
set_option linter.all false
set_option maxRecDepth 100000
set_option maxHeartbeats 1000000
namespace Og
open PySem L2
section
variable {K : PySem.W.Frag} {ks : FK} {mg : Str → Option Value} {W : WX} {β α γ δ : Type}
variable {Z : Zt K ks} {ad : Nat → Addr} {σ : L2.St} {s s1 : Sto} {H B H1 B1 Hs : Hp}

/-! what is walked -/
def asL : D → M (List D)
  | .lst ds => retM ds
  | _ => fun _ => .bad
def asT : D → M (List D)
  | .tup ds => retM ds
  | _ => fun _ => .bad
def chars (z : Str) : List D := z.cps.toList.map fun c => .str ⟨#[c]⟩
def asC : D → M (List D)
  | .str z => retM (chars z)
  | _ => fun _ => .bad
def rngD (n : Nat) : List D := (List.range n).map fun i => .int (i : Nat)
def asR : D → M (List D)
  | .int j => if -(2 ^ 62) ≤ j ∧ j < 2 ^ 62 then retM (rngD j.toNat) else fun _ => .bad
  | _ => fun _ => .bad
theorem iw_list {t : TE} {m : M D} (h : IV K ks mg W t m) : IW K ks mg W (iList K t) (bindM m asL) := by
  refine im_bind (t2 := fun x σ H R => ∃ a, x = V.ref a ∧ (∃ xs, SqL K H a xs) ∧ R (Itl K a) H) rW_mono h fun a x Z ad σ s H B Hs Q rp hx q => ?_
  cases a with
  | lst ds =>
    cases hx with
    | lst hq hr =>
      rename_i a xs
      refine ⟨a, rfl, ⟨xs, SqL.of (rp.bh _ _ hq)⟩, q _ H B rp Stp.refl ⟨fun H => SqL K H a xs, YAt xs, ?_, fun H e => SqL.of (e _ _ hq), fun i H x H' d e y hd => ?_⟩⟩
      · rw [← hr.len]
        exact walk_list
      · obtain ⟨rfl, y⟩ := y
        obtain ⟨d', h1, h2⟩ := hr.getV y
        rw [hd] at h1
        cases h1
        exact .inl ⟨rfl, h2⟩
  | _ => exact q.elim
theorem iw_tup {t : TE} {m : M D} (h : IV K ks mg W t m) : IW K ks mg W (iTup K t) (bindM m asT) := by
  refine im_bind (t2 := fun x σ H R => ∃ a, x = V.ref a ∧ (∃ xs, SqT K H a xs) ∧ R (Itt K a) H) rW_mono h fun a x Z ad σ s H B Hs Q rp hx q => ?_
  cases a with
  | tup ds =>
    cases hx with
    | tup hq hr =>
      rename_i a xs
      refine ⟨a, rfl, ⟨xs, sqt_mono rp.bh hq⟩, q _ H B rp Stp.refl ⟨fun H => SqT K H a xs, YAt xs, ?_, fun H e => sqt_mono e hq, fun i H x H' d e y hd => ?_⟩⟩
      · rw [← hr.len]
        exact walk_tup
      · obtain ⟨rfl, y⟩ := y
        obtain ⟨d', h1, h2⟩ := hr.getV y
        rw [hd] at h1
        cases h1
        exact .inl ⟨rfl, h2⟩
  | _ => exact q.elim
theorem iw_str {t : TE} {m : M D} (h : IP K ks mg W t m) : IW K ks mg W (iStr t) (bindM m asC) := by
  refine im_bind (t2 := fun x σ H R => ∃ z, x = V.str z ∧ R (Its z) H) rW_mono h fun a x Z ad σ s H B Hs Q rp hx q => ?_
  cases a with
  | str z =>
    refine ⟨z, rP_str hx, q _ H B rp Stp.refl ⟨fun _ => True, fun i H v H' => H' = H ∧ ∃ c, z.cps[i]? = some c ∧ v = V.str ⟨#[c]⟩, ?_, fun _ _ => trivial, fun i H x H' d e y hd => ?_⟩⟩
    · have e : (chars z).length = z.cps.size := by
        unfold chars
        rw [List.length_map, Array.length_toList]
      rw [e]
      exact walk_str
    · obtain ⟨rfl, c, h1, rfl⟩ := y
      unfold chars at hd
      rw [List.getElem?_map, Array.getElem?_toList, h1] at hd
      cases hd
      exact .inl ⟨rfl, .str _⟩
  | _ => exact q.elim
theorem pka_one {xs : List V} {d : D} (h : PkA Z H B xs [d]) : ∃ v, xs = [v] ∧ rP Z ad s H B Hs v d := by
  cases h with
  | cons h t =>
    cases t
    exact ⟨_, rfl, h⟩
theorem iw_range {t : TE} {m : M D} (h : IP K ks mg W t m) : IW K ks mg W (iRng1 (tCons t tNil)) (bindM m asR) := by
  refine im_bind (t2 := fun x σ H R => ∃ j : Int, [x] = [V.int j] ∧ -(2 ^ 62) ≤ j ∧ j < 2 ^ 62 ∧ R (Itr 0 j.toNat) H) rW_mono h fun a x Z ad σ s H B Hs Q rp hx q => ?_
  cases a with
  | int j =>
    simp only [asR] at q
    by_cases c : -(2 ^ 62) ≤ j ∧ j < 2 ^ 62
    · rw [if_pos c] at q
      refine ⟨j, by rw [rP_int hx], c.1, c.2, q _ H B rp Stp.refl ⟨fun _ => True, YFn fun i => .int (0 + (i : Nat)), ?_, fun _ _ => trivial, fun i H x H' d e y hd => ?_⟩⟩
      · have e : (rngD j.toNat).length = j.toNat := by
          unfold rngD
          rw [List.length_map, List.length_range]
        rw [e]
        exact walk_range
      · obtain ⟨rfl, rfl⟩ := y
        unfold rngD at hd
        rw [List.getElem?_map] at hd
        by_cases l : i < j.toNat
        · rw [List.getElem?_range l] at hd
          cases hd
          refine .inl ⟨rfl, ?_⟩
          show Dd K Z.fa B (V.int (0 + ((i : Nat) : Int))) (D.int ((i : Nat) : Int))
          rw [Int.zero_add]
          exact .int _
        · rw [List.getElem?_eq_none (by simpa using l)] at hd
          cases hd
    · rw [if_neg c] at q
      exact q.elim
  | _ => exact q.elim

/-! list comprehensions -/
def Sto.wipe (s : Sto) : List Nat → Sto
  | [] => s
  | v :: vs => (s.wipe vs).put v .un
theorem wipe_F (s : Sto) : ∀ vs, (s.wipe vs).F = s.F
  | [] => rfl
  | v :: vs => wipe_F s vs
theorem wipe_own {s : Sto} : ∀ {vs : List Nat} {i : Nat} {ds : List D}, (s.wipe vs).at i = .own ds → s.at i = .own ds
  | [], _, _, h => h
  | v :: vs, i, ds, h => by
    unfold Sto.wipe at h
    by_cases c : i = v
    · subst c
      by_cases l : i < (s.wipe vs).sl.length
      · rw [Sto.at_put l] at h
        cases h
      · rw [Sto.at_put_out l] at h
        cases h
    · rw [Sto.at_put_ne c] at h
      exact wipe_own h
theorem Rp.forget (rp : Rp Z ad σ H B s) (v : Nat) (o : Option V) : Rp Z ad (σ.set v o) H B (s.put v .un) := by
  have ow : ∀ j es, (s.put v .un).at j = .own es → j ≠ v ∧ s.at j = .own es := fun j es e => by
    by_cases q : j = v
    · subst q
      by_cases l : j < s.sl.length
      · rw [Sto.at_put l] at e
        cases e
      · rw [Sto.at_put_out l] at e
        cases e
    · rw [Sto.at_put_ne q] at e
      exact ⟨q, e⟩
  refine ⟨rp.bh, rp.nof, rp.res, rp.fr0, rp.nb0, rp.b0, ?_, fun j => ?_, fun j k es fs e e' z => rp.inj j k es fs (ow j es e).2 (ow k fs e').2 z⟩
  · unfold Sto.put
    rw [List.length_set, List.length_set, rp.len]
  · by_cases q : j = v
    · subst q
      by_cases l : j < s.sl.length
      · rw [Sto.at_put l]
        trivial
      · rw [Sto.at_put_out l]
        trivial
    · rw [Sto.at_put_ne q]
      have z := rp.sl j
      unfold SlOk at z ⊢
      rw [List.getElem?_set_ne (Ne.symm q)]
      exact z
theorem Rp.wipe (rp : Rp Z ad σ H B s) : ∀ vs : List Nat, Rp Z ad (L2.wipe σ vs) H B (s.wipe vs)
  | [] => rp
  | v :: vs => (rp.wipe vs).forget v none
/-- .. and back: what is forgotten may be anything -/
theorem wipe_un {s : Sto} : ∀ {vs : List Nat} {i : Nat}, i ∈ vs → (s.wipe vs).at i = .un
  | v :: vs, i, h => by
    unfold Sto.wipe
    by_cases c : i = v
    · subst c
      by_cases l : i < (s.wipe vs).sl.length
      · rw [Sto.at_put l]
      · rw [Sto.at_put_out l]
    · rw [Sto.at_put_ne c]
      exact wipe_un (by
        rcases List.mem_cons.mp h with z | z
        · exact absurd z c
        · exact z)
theorem wipe_at {σ : L2.St} : ∀ {vs : List Nat} {i : Nat}, i ∉ vs → (L2.wipe σ vs)[i]? = σ[i]?
  | [], _, _ => rfl
  | v :: vs, i, h => by
    unfold L2.wipe
    have c : v ≠ i := fun z => by
      subst z
      exact h List.mem_cons_self
    rw [List.getElem?_set_ne c, wipe_at (fun z => h (List.mem_cons_of_mem _ z))]
theorem wipe_len (s : Sto) : ∀ vs : List Nat, (s.wipe vs).sl.length = s.sl.length
  | [] => rfl
  | v :: vs => by
    unfold Sto.wipe Sto.put
    rw [List.length_set]
    exact wipe_len s vs
theorem Rp.unwipe {vs : List Nat} {σ' : L2.St} (rp : Rp Z ad σ' H B (s.wipe vs)) (e : L2.wipe σ' vs = L2.wipe σ vs) : Rp Z ad σ H B (s.wipe vs) := by
  refine ⟨rp.bh, rp.nof, rp.res, rp.fr0, rp.nb0, rp.b0, ?_, fun j => ?_, rp.inj⟩
  · have h1 := congrArg List.length e
    rw [wipe_length, wipe_length] at h1
    rw [← h1, rp.len]
  · by_cases c : j ∈ vs
    · rw [wipe_un c]
      trivial
    · have z := rp.sl j
      have e1 : σ'[j]? = σ[j]? := by
        rw [← wipe_at (σ := σ') c, ← wipe_at (σ := σ) c, e]
      unfold SlOk at z ⊢
      rw [← e1]
      exact z
def lcGo (vs : List Nat) (f : D → Sto → Option Sto) (tt : M Bool) (te : M D) : List D → List D → M (List D)
  | [], acc => fun s => .ok acc s
  | d :: ds, acc => fun s => match f d s with
    | none => .bad
    | some s1 => match tt s1 with
      | .ok true s2 => (match te s2 with
        | .ok y s3 => if acc.length < sizeLine then lcGo vs f tt te ds (acc ++ [y]) (s3.wipe vs) else .bad
        | _ => .bad)
      | .ok false s2 => lcGo vs f tt te ds acc (s2.wipe vs)
      | _ => .bad
def lcM (vs : List Nat) (f : D → Sto → Option Sto) (tt : M Bool) (te : M D) (m : M (List D)) : M D := bindM m fun ds s => match lcGo vs f tt te ds [] (s.wipe vs) with
  | .ok acc s1 => .ok (.lst acc) s1
  | _ => .bad
/-- a list of ours, no name's, is changed -/
theorem Rp.poke (rp : Rp Z ad σ H B s) {a : Addr} (ys : List V) (hf : ¬ Foot Z.fa Z.ca a) (hb : B a = none) (h0 : Z.H0 a = none) (ho : ∀ i es, s.at i = .own es → ad i ≠ a) {zs : List V} (ha : H a = some (.lst zs)) : Rp Z ad σ (upd H a (.lst ys)) B s := by
  have nb : ∀ b o, B b = some o → b ≠ a := fun b o q z => by
    rw [z, hb] at q
    cases q
  have hfoot : ∀ b, Foot Z.fa Z.ca b → upd H a (.lst ys) b = H b := fun b f => upd_ne fun z => hf (z ▸ f)
  refine ⟨fun b o q => by rw [upd_ne (nb b o q)]; exact rp.bh b o q, rp.nof, rp.res.rst hfoot, fun b o n q => ?_, rp.nb0, rp.b0, rp.len, fun j => ?_, rp.inj⟩
  · have n2 : b ≠ a := fun z => by
      rw [z, h0] at q
      cases q
    rw [upd_ne n2]
    exact rp.fr0 b o n q
  · have z := rp.sl j
    cases w : s.at j with
    | un => trivial
    | val d =>
      rw [w] at z
      exact z
    | own fs =>
      rw [w] at z
      obtain ⟨g1, g2, g3, g4, zs, g5, g6⟩ := z
      exact ⟨g1, g2, g3, g4, zs, by rw [upd_ne (ho j fs w)]; exact g5, g6⟩
    | dic kvs =>
      rw [w] at z
      obtain ⟨g1, g2, g3, g4, zs, g5, g6, g7⟩ := z
      have n : ad j ≠ a := fun w => by
        rw [w, ha] at g5
        cases g5
      exact ⟨g1, g2, g3, g4, zs, by rw [upd_ne n]; exact g5, g6, g7⟩
abbrev W0 : WX := fun _ _ _ _ => False
theorem wipe_idem (σ : L2.St) (vs : List Nat) : L2.wipe (L2.wipe σ vs) vs = L2.wipe σ vs := by
  have un : ∀ (ws : List Nat) (i : Nat), i ∈ ws → ∀ τ : L2.St, i < τ.length → (L2.wipe τ ws)[i]? = some none := by
    intro ws
    induction ws with
    | nil => intro i h; cases h
    | cons v ws ih =>
      intro i h τ l
      unfold L2.wipe
      by_cases c : i = v
      · subst c
        rw [List.getElem?_set_self (by rw [wipe_length]; exact l)]
      · rw [List.getElem?_set_ne (Ne.symm c)]
        rcases List.mem_cons.mp h with z | z
        · exact absurd z c
        · exact ih i z τ l
  refine List.ext_getElem? fun i => ?_
  by_cases c : i ∈ vs
  · by_cases l : i < σ.length
    · rw [un vs i c _ (by rw [wipe_length]; exact l), un vs i c _ l]
    · rw [List.getElem?_eq_none (by rw [wipe_length, wipe_length]; omega), List.getElem?_eq_none (by rw [wipe_length]; omega)]
  · rw [wipe_at c]
/-- a target of a comprehension -/
structure TgLc (K : PySem.W.Frag) (ks : FK) (vs : List Nat) (g : TG) (f : D → Sto → Option Sto) : Prop where
  ow : ∀ d s s', f d s = some s' → ∀ i es, s'.at i = .own es → s.at i = .own es
  go : ∀ (Z : Zt K ks) ad σ H B s v d s' Q, Rp Z ad (L2.wipe σ vs) H B s → Dd K Z.fa B v d → f d s = some s' → (∀ σ', Rp Z ad σ' H B s' → L2.wipe σ' vs = L2.wipe σ vs → Q σ' H) → g v (L2.wipe σ vs) H Q
theorem put_own {s : Sto} {v i : Nat} {d : D} {es : List D} (h : (s.put v (.val d)).at i = .own es) : s.at i = .own es := by
  by_cases c : i = v
  · subst c
    by_cases l : i < s.sl.length
    · rw [Sto.at_put l] at h
      cases h
    · rw [Sto.at_put_out l] at h
      cases h
  · rw [Sto.at_put_ne c] at h
    exact h
theorem lc_name (i : Nat) : TgLc K ks [i] (gName i) (tgN i) := by
  refine ⟨fun d s s' e j es h => ?_, fun Z ad σ H B s v d s' Q rp h e q => ?_⟩
  · simp only [tgN, Option.some.injEq] at e
    subst e
    exact put_own h
  · simp only [tgN, Option.some.injEq] at e
    subst e
    refine q _ (rp.put i h) ?_
    simp only [L2.wipe, List.set_set]
theorem lc_two (i j : Nat) (ne : i ≠ j) : TgLc K ks [i, j] (gTup K 2 (gCons (gName i) (gCons (gName j) gNil))) (tg2 i j) := by
  refine ⟨fun d s s' e k es h => ?_, fun Z ad σ H B s v d s' Q rp h e q => ?_⟩
  · unfold tg2 at e
    split at e
    · cases e
      exact put_own (put_own h)
    · cases e
  · unfold tg2 at e
    split at e
    · cases e
      cases h with
      | tup q1 r =>
        obtain ⟨x, y, rfl, h1, h2⟩ := dda2 r
        refine ⟨_, _, rfl, sqt_mono rp.bh q1, rfl, x, [y], rfl, y, [], rfl, rfl, q _ ((rp.put i h1).put j h2) ?_⟩
        simp only [L2.wipe]
        refine List.ext_getElem? fun k => ?_
        by_cases c1 : i = k
        · subst c1
          simp [List.getElem?_set]
        · by_cases c2 : j = k
          · subst c2
            simp [List.getElem?_set, c1]
          · simp [List.getElem?_set, c1, c2]
    · cases e
theorem Stp.sto {s' : Sto} (h : ∀ i es, s'.at i = .own es → s.at i = .own es) : Stp Z ad s s' H B H B := ⟨fun _ _ _ h => h, fun _ _ h => h, fun _ _ h => .inl h, fun _ h => h, h⟩
theorem im_lc {wi : TI} {g : TG} {tt : TT} {te : TE} {vs : List Nat} {m : M (List D)} {f : D → Sto → Option Sto} {mt : M Bool} {me : M D} (hw : IW K ks mg W wi m) (hg : TgLc K ks vs g f) (ht : IB K ks mg W0 tt mt) (he : IV K ks mg W0 te me) : IL K ks mg W (tLc wi g tt te vs) (lcM vs f mt me m) := by
  intro Z ad σ H B s Q rp q
  refine hw Z ad σ H B s _ rp ?_
  simp only [lcM, bindM] at q
  cases e : m s with
  | exc x s1 => rw [e] at q; exact q
  | bad => rw [e] at q; exact q
  | ok ds s1 =>
    rw [e] at q
    intro J H1 B1 rp1 st hJ L hL
    obtain ⟨G, Y, wk, hG, hY⟩ := hJ
    have hLf := rp1.nofoot hL
    have hL0 := rp1.h0 hL
    refine lc_it wk (fun i Hi => ∃ Bi si acc xs, Rp Z ad (L2.wipe σ vs) Hi Bi (si.wipe vs) ∧ Stp Z ad s1 (si.wipe vs) H1 B1 Hi Bi ∧ Bi L = none ∧ Hi L = some (.lst xs) ∧ DdA K Z.fa Bi xs acc ∧
      Post mg rL Z ad σ s H B (match lcGo vs f mt me (ds.drop i) acc (si.wipe vs) with
        | .ok acc s1 => .ok (.lst acc) s1
        | _ => .bad) Q W) ⟨B1, s1, [], [], ?_, ?_, rp1.bn hL, upd_same, .nil, by simpa using q⟩ (fun i Hi _ h => ?_) (fun i x Hi H' hi h y => ?_) fun Hi h => ?_
    · exact (rp1.made (.lst []) hL).1.wipe vs
    · obtain ⟨_, st2⟩ := rp1.made (.lst []) hL
      exact ⟨st2.fr, st2.bb, st2.nw, st2.hn, fun i ds e => wipe_own e⟩
    · obtain ⟨Bi, si, acc, xs, r, sti, _⟩ := h
      exact hG Hi (r.b_sub sti.bb)
    · obtain ⟨Bi, si, acc, xs, r, sti, hBL, hHL, hd, q⟩ := h
      have ei : ds.drop i = ds[i] :: ds.drop (i + 1) := List.drop_eq_getElem_cons hi
      rw [ei] at q
      obtain ⟨B2, rp2, st2, hx⟩ := wk_item r sti.bb (hY i Hi x H' ds[i] (r.b_sub sti.bb) y (List.getElem?_eq_getElem hi))
      simp only [lcGo] at q
      cases e2 : f ds[i] (si.wipe vs) with
      | none => simp only [e2] at q; exact q.elim
      | some s2 =>
        simp only [e2] at q
        have st3 : Stp Z ad (si.wipe vs) s2 H' B2 H' B2 := .sto (hg.ow _ _ _ e2)
        refine hg.go Z ad σ H' B2 (si.wipe vs) x ds[i] s2 _ rp2 hx e2 fun σ2 rp3 ew => ⟨ew, ?_⟩
        refine ht Z ad σ2 H' B2 s2 _ rp3 ?_
        have noL : ∀ {s4 : Sto} {H4 B4 : Hp}, Stp Z ad (si.wipe vs) s4 Hi Bi H4 B4 → B4 L = none ∧ H4 L = some (.lst xs) ∧ ∀ j es, s4.at j = .own es → ad j ≠ L := fun {s4 H4 B4} c => by
          refine ⟨?_, c.fr _ _ hLf hHL, fun j es z => rp1.adne (sti.ow j es (c.ow j es z)) hL⟩
          cases z : B4 L with
          | none => rfl
          | some o =>
            rcases c.nw L o z with z | z | ⟨j, es, z, z2⟩
            · rw [hBL] at z
              cases z
            · rw [hHL] at z
              cases z
            · exact absurd z2 (rp1.adne (sti.ow j es z) hL)
        cases e3 : mt s2 with
        | exc x s3 => simp only [e3] at q; exact q.elim
        | bad => simp only [e3] at q; exact q.elim
        | ok b s3 =>
          intro b' H3 B3 rp4 st4 hb
          have hb : b' = b := hb
          subst hb
          have c4 := (st2.trans st3).trans st4
          cases b' with
          | false =>
            simp only [e3] at q
            refine iteF ⟨B3, s3, acc, xs, ?_, ?_, (noL c4).1, (noL c4).2.1, hd.mono c4.bb, q⟩
            · rw [← ew]
              exact rp4.wipe vs
            · exact (sti.trans c4).trans (.sto fun j es z => wipe_own z)
          | true =>
            simp only [e3] at q
            refine iteT (he Z ad σ2 H3 B3 s3 _ rp4 ?_)
            cases e4 : me s3 with
            | exc x s4 => simp only [e4] at q; exact q.elim
            | bad => simp only [e4] at q; exact q.elim
            | ok d s4 =>
              simp only [e4] at q
              intro v H4 B4 rp5 st5 hv
              have c5 := c4.trans st5
              obtain ⟨n1, n2, n3⟩ := noL c5
              by_cases l : acc.length < sizeLine
              · rw [if_pos l] at q
                have hd4 := hd.mono c5.bb
                refine ⟨xs, n2, by rw [hd4.len]; exact l, B4, s4, acc ++ [d], xs ++ [v], ?_, ?_, n1, upd_same, hd4.app (.cons hv .nil), q⟩
                · rw [← ew]
                  exact (rp5.poke (xs ++ [v]) hLf n1 hL0 n3 n2).wipe vs
                · have c6 := (sti.trans c5).trans (Stp.sto (s' := s4.wipe vs) fun j es z => wipe_own z)
                  refine ⟨fun b o n z => ?_, c6.bb, c6.nw, fun b z => ?_, c6.ow⟩
                  · have nb : b ≠ L := fun w => by
                      rw [w, hL] at z
                      cases z
                    rw [upd_ne nb]
                    exact c6.fr b o n z
                  · by_cases nb : b = L
                    · rw [nb, upd_same] at z
                      cases z
                    · rw [upd_ne nb] at z
                      exact c6.hn b z
              · rw [if_neg l] at q
                exact q.elim
    · obtain ⟨Bi, si, acc, xs, r, sti, hBL, hHL, hd, q⟩ := h
      rw [List.drop_length] at q
      simp only [lcGo] at q
      refine q (.ref L) Hi Bi (r.unwipe (wipe_idem σ vs)) (st.trans sti) ⟨acc, L, xs, rfl, rfl, hLf, hHL, hd, hBL, hL0, st.hn L hL, fun j es z => rp1.adne (sti.ow j es z) hL⟩
end
end Og

set_option Elab.async false
set_option linter.all false
set_option maxRecDepth 100000
set_option maxHeartbeats 1000000
namespace Og
open PySem L2
section
variable {K : PySem.W.Frag} {ks : FK} {mg : Str → Option Value} {W : WX} {β α γ δ : Type}
variable {Z : Zt K ks} {ad : Nat → Addr} {σ : L2.St} {s s1 : Sto} {H B H1 B1 Hs : Hp}

/-! isinstance(x, T) -/
def tyN : D → Option String
  | .non => some "NoneType"
  | .bl _ => some "bool"
  | .int _ => some "int"
  | .str _ => some "str"
  | .tup _ => some "tuple"
  | .lst _ => some "list"
  | .fd => none
def isiO (T : String) (d : D) : Option D := (tyN d).bind fun a => (kitB a T).map .bl
theorem tyx_of {v : V} {d : D} {a : String} (rp : Rp Z ad σ H B s) (h : rP Z ad s H B Hs v d) (e : tyN d = some a) : TyX K H v (.type a) := by
  cases d <;> simp only [tyN, Option.some.injEq, reduceCtorEq] at e <;> subst e
  · rw [rP_non h]
    exact .base .non
  · rw [rP_bl h]
    exact .base (.bl _)
  · rw [rP_int h]
    exact .base (.int _)
  · rw [rP_str h]
    exact .base (.str _)
  · obtain ⟨a, xs, rfl, _, ha, _⟩ := rP_tup rp h
    rcases ha with (ha | ⟨o, ha⟩) | ⟨o, its, n, h1, h2, _⟩
    · exact .base (.tup ha)
    · exact .fTuple ha
    · exact .kTuple h1 h2
  · obtain ⟨a, xs, rfl, ha, _⟩ := rP_lst rp h
    exact .base (.lst ha)
theorem im_isi {T : String} {t : TE} {m : M D} (h : IP K ks mg W t m) : IV K ks mg W (tCB (rIsi K) (tCons t (tCons (tC (.ty T)) tNil))) (m1 (isiO T) m) := by
  refine im_op1 (r := fun x H Q => rIsi K [x, .ty T] H Q) rV_mono (fun Z ad σ H B s x dx d Q rp hx e q => ?_) h
  unfold isiO at e
  cases c : tyN dx with
  | none => rw [c] at e; cases e
  | some a =>
    rw [c] at e
    simp only [Option.bind_some, Option.map_eq_some_iff] at e
    obtain ⟨b, e1, rfl⟩ := e
    exact ⟨x, .ty T, .type a, .type T, b, rfl, .ty T, tyx_of rp hx c, kit_ty e1, q _ H B rp Stp.refl (.bl _)⟩

/-! methods of texts -/
def OpM (ρ : Rl K ks V D) (r : V → List V → Hp → VK → Prop) (f : D → List D → Option D) : Prop := ∀ Z ad σ H B s x xs dx ds d Q, Rp Z ad σ H B s → rP Z ad s H B H x dx → PkA Z H B xs ds → f dx ds = some d →
  (∀ v H' B', Rp Z ad σ H' B' s → Stp Z ad s s H B H' B' → ρ Z ad s H' B' H v d → Q v H') → r x xs H Q
def isStr : D → Bool
  | .str _ => true
  | _ => false
def mMt (f : D → List D → Option D) (mo : M D) (ma : M (List D)) : M D := bindM mo fun o => match o with
  | .str z => bindM ma fun ds => optM (f (.str z) ds)
  | _ => fun _ => .bad
theorem im_bm {ρ : Rl K ks V D} {r : V → List V → Hp → VK → Prop} {f : D → List D → Option D} {to : TE} {t : TA} {mo : M D} {ma : M (List D)} (hm : Mono ρ) (o : OpM ρ r f) (ho : IP K ks mg W to mo) (ha : IPA K ks mg W t ma) :
    Im mg W ρ (tBM K "str" r to t) (mMt f mo ma) := by
  refine im_bind (t2 := fun x σ H Q => tyV K "str" x H ∧ t σ H fun xs H2 => r x xs H2 Q) hm ho fun a x Z ad σ s H B Hs Q rp hx h => ?_
  cases a with
  | str z =>
    have ex := rP_str hx
    subst ex
    refine ⟨rfl, ha Z ad σ H B s _ rp ?_⟩
    simp only [bindM] at h
    cases e : ma s with
    | exc x s1 => rw [e] at h; exact h
    | bad => rw [e] at h; exact h
    | ok ds s1 =>
      rw [e] at h
      intro xs H1 B1 rp1 st hy
      have h := Post.shift hm st h
      unfold optM at h
      cases q : f (.str z) ds with
      | none => simp only [q] at h; exact h.elim
      | some d =>
        simp only [q] at h
        exact o Z ad σ H1 B1 s1 _ xs (.str z) ds d Q rp1 (.inl (.str z)) hy q h
  | _ => exact h.elim
theorem pka_str {xs : List V} {z : Str} (h : PkA Z H B xs [.str z]) : xs = [.str z] := by
  obtain ⟨v, rfl, h2⟩ := pka_one (ad := fun _ => 0) (s := ⟨[], ⟨[], 0, 0, 0⟩⟩) (Hs := H) h
  rw [rP_str h2]
def lstripO : D → List D → Option D
  | .str a, [.str b] => if a.length ≤ sizeLine then some (.str (Txt.lstripChars a b)) else none
  | _, _ => none
theorem o_lstrip : OpM (@rV K ks) (fun x xs H Q => ∃ (a b : Str), x = .str a ∧ xs = [.str b] ∧ a.length ≤ sizeLine ∧ Q (.str (Txt.lstripChars a b)) H) lstripO := by
  intro Z ad σ H B s x xs dx ds d Q rp hx hy e q
  unfold lstripO at e
  split at e
  · split at e
    · rename_i c
      cases e
      exact ⟨_, _, rP_str hx, pka_str hy, c, q _ H B rp Stp.refl (.str _)⟩
    · cases e
  · cases e
def stripO : D → List D → Option D
  | .str a, [.str b] => if a.length ≤ sizeLine then some (.str (Txt.stripChars a b)) else none
  | _, _ => none
theorem o_strip : OpM (@rV K ks) (fun x xs H Q => ∃ (a b : Str), x = .str a ∧ xs = [.str b] ∧ a.length ≤ sizeLine ∧ Q (.str (Txt.stripChars a b)) H) stripO := by
  intro Z ad σ H B s x xs dx ds d Q rp hx hy e q
  unfold stripO at e
  split at e
  · split at e
    · rename_i c
      cases e
      exact ⟨_, _, rP_str hx, pka_str hy, c, q _ H B rp Stp.refl (.str _)⟩
    · cases e
  · cases e
/-- the texts of a list -/
def strsOf : List D → Option (List Str)
  | [] => some []
  | .str z :: ds => (strsOf ds).map (z :: ·)
  | _ => none
theorem strsOf_v {fa : Addr} : ∀ {xs : List V} {ds : List D} {zs : List Str}, DdA K fa B xs ds → strsOf ds = some zs → xs = zs.map V.str
  | _, [], _, .nil, e => by
    simp only [strsOf, Option.some.injEq] at e
    subst e
    rfl
  | _, .str z :: ds, _, .cons h t, e => by
    simp only [strsOf, Option.map_eq_some_iff] at e
    obtain ⟨zs, e1, rfl⟩ := e
    cases h
    rw [strsOf_v t e1]
    rfl
  | _, .non :: _, _, _, e => by simp [strsOf] at e
  | _, .bl _ :: _, _, _, e => by simp [strsOf] at e
  | _, .int _ :: _, _, _, e => by simp [strsOf] at e
  | _, .tup _ :: _, _, _, e => by simp [strsOf] at e
  | _, .lst _ :: _, _, _, e => by simp [strsOf] at e
  | _, .fd :: _, _, _, e => by simp [strsOf] at e
def joinO : D → List D → Option D
  | .str a, [.lst ds] => (strsOf ds).bind fun ys => if (ys.map (·.length)).sum + ys.length * a.length ≤ 16777216 then some (.str (Txt.join a ys)) else none
  | _, _ => none
theorem o_join : OpM (@rV K ks) (fun x xs H Q => ∃ (a : Str) (p : Addr) (ys : List Str), x = .str a ∧ xs = [.ref p] ∧ (SqL K H p (ys.map V.str) ∨ SqT K H p (ys.map V.str)) ∧ (ys.map (·.length)).sum + ys.length * a.length ≤ 16777216 ∧ Q (.str (Txt.join a ys)) H) joinO := by
  intro Z ad σ H B s x xs dx ds d Q rp hx hy e q
  unfold joinO at e
  split at e
  · rename_i a es
    cases c : strsOf es with
    | none => rw [c] at e; cases e
    | some ys =>
      rw [c] at e
      simp only [Option.bind_some] at e
      split at e
      · rename_i l
        cases e
        obtain ⟨v, rfl, h⟩ := pka_one (ad := ad) (s := s) (Hs := H) hy
        obtain ⟨p, zs, rfl, hp, hr⟩ := rP_lst rp h
        rw [strsOf_v hr c] at hp
        exact ⟨a, p, ys, rP_str hx, rfl, .inl (SqL.of hp), l, q _ H B rp Stp.refl (.str _)⟩
      · cases e
  · cases e

/-! repr(x) -/
def reprO : List D → Option D
  | [d] => d.toP.bind fun p => if p.showable && decide (p.shown.length ≤ sizeLine) && decide (p.depth ≤ 64) && !p.hasDict then some (.str p.shown) else none
  | _ => none
def rRepr (K : PySem.W.Frag) : List V → Hp → VK → Prop := fun xs H Q => ∃ (x : V) (p : PyData), xs = [x] ∧ Dp K H x p ∧ p.showable = true ∧ p.shown.length ≤ sizeLine ∧ p.depth ≤ 64 ∧ p.hasDict = false ∧ Q (.str p.shown) H
theorem o_repr : OpA (@rV K ks) (rRepr K) reprO := by
  intro Z ad σ H B s xs dx d Q rp hx e q
  unfold reprO at e
  split at e
  · rename_i d'
    obtain ⟨v, rfl, h⟩ := pka1 (ad := ad) (s := s) (Hs := H) hx
    cases c : d'.toP with
    | none => rw [c] at e; cases e
    | some p =>
      rw [c] at e
      simp only [Option.bind_some] at e
      split at e
      · rename_i l
        cases e
        simp only [Bool.and_eq_true, decide_eq_true_eq, Bool.not_eq_true'] at l
        obtain ⟨⟨⟨l1, l2⟩, l3⟩, l4⟩ := l
        exact ⟨v, p, rfl, rP_dp rp h c, l1, l2, l3, l4, q _ H B rp Stp.refl (.str _)⟩
      · cases e
  · cases e
end
theorem call_repr {X : Cx} (hG : X.A.guards = some []) (hu : X.A.units + 66 < cLine) : CallR X (.builtin "repr") (rRepr X.K) := by
  intro pins s σ H xs us Q I r h
  obtain ⟨x, p, rfl, hd, h1, h2, h3, h4, q⟩ := h
  obtain ⟨u, rfl, ru⟩ := vals1 r
  obtain ⟨as, rd⟩ := Dp.reads I p x u hd ru
  cases p with
  | none =>
    cases hd
    cases ru
    exact PySem.P.repr_of_none ⟨.str _, H, I.tok _, ⟨_, rfl⟩, q⟩
  | bool b =>
    cases hd
    cases ru
    exact PySem.P.repr_of_bool ⟨.str _, H, I.tok _, ⟨_, rfl⟩, q⟩
  | int i =>
    cases hd
    obtain ⟨t, rfl⟩ := ru
    simp only [PyData.showable, decide_eq_true_eq] at h1
    exact PySem.P.repr_of_int h1 ⟨.str _, H, I.tok _, ⟨_, rfl⟩, q⟩
  | str z =>
    cases hd
    obtain ⟨t, rfl⟩ := ru
    exact PySem.P.repr_of_str ⟨.str _, H, I.tok _, ⟨_, rfl⟩, q⟩ h2
  | list ps =>
    cases hd
    cases ru
    refine PySem.repr_of_reads' rd h1 (PyData.noDict_hsm h4) hG (by omega) (fun _ _ e => e) (fun h' u tk hk => ?_) h2
    exact ⟨.str _, H, I.kept (t' := tk) hk, ⟨_, rfl⟩, q⟩
  | tuple ps =>
    cases hd
    cases ru
    refine PySem.repr_of_reads' rd h1 (PyData.noDict_hsm h4) hG (by omega) (fun _ _ e => e) (fun h' u tk hk => ?_) h2
    exact ⟨.str _, H, I.kept (t' := tk) hk, ⟨_, rfl⟩, q⟩
  | dict kvs => cases hd
end Og

set_option Elab.async false
set_option linter.all false
set_option maxRecDepth 100000
set_option maxHeartbeats 1000000
namespace Og
open PySem L2
/-! ### errors of the program's own classes -/
/-- the class at CT hands on ValueError's __init__ -/
structure BaseC (K : PySem.W.Frag) (CT : Addr) : Prop where
  ga : PySem.W.specialIn K (.ref CT) "__getattribute__" = some (some (.builtin "type.__getattribute__"))
  rd : PySem.W.readsIn K CT (.type "type") = true
  ini : PySem.W.findCls K (.ref CT) (.type "type") "__init__" = some (.val (.builtin "ValueError.__init__"))
section
variable {X : Cx} {e : Expr} {es : List Expr} {ta : TA} {x : Str} {CT : Addr} {p1 p2 pos : Pos}
theorem pe_binit {pl : Sem Bool} (T : BaseC X.K CT) (hg : Gl X x) (hm : X.mg x = some (.ref CT)) (ha : PA X (e :: es) ta)
    (hc : eval (.Call (.Attribute (.Name x p1) "__init__" p2) (e :: es) [] pos) X.env = (do
      let ov ← eval (.Name x p1) X.env
      standAt p2.atName
      let (f, first) ← holding [ov] (getMethod ov "__init__" pl)
      callWith pos f first (backTo pos (starEach (e :: es) X.env)) (backToKw pos (keywordEach [] X.env))) := by rfl)
    (hd : (x == ("__debug__" : Str)) = false := by decide)
    (he : starEach (e :: es) X.env = (false, eval e X.env) :: starEach es X.env := by rfl) (hpl : (backTo pos (starEach es X.env)).any (·.1) = false := by rfl) :
    PE X (.Call (.Attribute (.Name x p1) "__init__" p2) (e :: es) [] pos) (tVeI X.K ta) := by
  refine ⟨fun pins s σ H Q I h => ?_⟩
  refine PySem.W.methodCall_KW (ld_glob I hg hm ?_ hd) hc
  refine PySem.W.method_cls I.kIn T.ga (PySem.W.cls_value I.kIn T.rd T.ini (by decide +kernel) ?_)
  refine PyProof.Rows.callWith_method1 (wpAny_mono (ha.run pos pins _ σ H _ (I.tok _) h) (fun us s1 z => ?_) fun _ _ z => z) he hpl
  obtain ⟨vs, H1, I1, r1, a, C, ws, ev, hl, TC, ea, q⟩ := z
  subst ev
  cases r1 with
  | cons ra rr =>
    cases ra
    refine oinit_ok TC I1 ea ?_ fun s' J => ⟨.non, H1, J, rfl, q⟩
    rw [← Paired.length rr]
    exact Nat.le_trans hl (by decide)
end
/-- what a message may show -/
def Fld (K : PySem.W.Frag) (H : Hp) (v : V) : Prop := (∃ i, v = .int i) ∨ (∃ z : Str, v = .str z ∧ z.length ≤ sizeLine ∧ ∀ c ∈ z.cps.toList, c < 16 ^ 8) ∨ ∃ a xs, v = .ref a ∧ SqT K H a xs
/-- what shown(field) gives: some text -/
def spShown (K : PySem.W.Frag) : Sp := fun vs H Q _ => ∃ v, vs = [v] ∧ Fld K H v ∧ ∀ y : Str, y.length ≤ 20000 → Q (.str y) H
/-- __init__(self, f, g) of an error -/
def spInit (K : PySem.W.Frag) (C : Addr) (f g : Str) : Sp := fun vs H Q _ => ∃ a v w, vs = [.ref a, v, w] ∧ H a = some (exo a C none) ∧ Fld K H v ∧ Fld K H w ∧
  ∀ d, H d = none → d ≠ a → Q .non (upd (upd (upd H d (exd d [(f, v)])) a (exo a C (some d))) d (exd d [(g, w), (f, v)]))
/-- what a raise of such an error wants to know -/
structure ErrC (P : Program) (w : World) (K : PySem.W.Frag) (mg : Str → Option Value) (base : Heap) (k : Nat) (x f g : Str) : Prop where
  ex : ∃ C fI fd ps, OexC K C ∧ PySem.W.findIn K (.ref C) "__init__" = some (some (.ref fI)) ∧ PySem.W.typeIn K (.ref fI) = some (.type "function") ∧ FnOk P w K mg base (L2.CX P w) k fI fd ps (spInit K C f g) ∧ Binds K fd ps [] ∧ mg x = some (.ref C)
def fldO : D → Bool
  | .int _ => true
  | .str z => decide (z.length ≤ sizeLine) && z.cps.toList.all fun c => decide (c < 16 ^ 8)
  | .tup _ => true
  | _ => false
section
variable {K : PySem.W.Frag} {ks : FK} {mg : Str → Option Value} {W : WX}
variable {Z : Zt K ks} {ad : Nat → Addr} {σ : L2.St} {s s1 : Sto} {H B H1 B1 Hs : Hp}
theorem fld_of {v : V} {d : D} {fa : Addr} (h : Dd K fa B v d) (sb : Same B H) (e : fldO d = true) : Fld K H v := by
  cases d <;> simp only [fldO, Bool.false_eq_true, Bool.and_eq_true, List.all_eq_true, decide_eq_true_eq] at e
  · cases h
    exact .inl ⟨_, rfl⟩
  · cases h
    exact .inr (.inl ⟨_, rfl, e.1, e.2⟩)
  · cases h with
    | tup q r => exact .inr (.inr ⟨_, _, rfl, sqt_mono sb q⟩)
def raiseS (x f g : Str) (m : M (List D)) : MS := bindS m fun ds s => match ds with
  | [a, b] => if fldO a && fldO b then .exc ⟨x, [(g, b), (f, a)]⟩ s else .bad
  | _ => .bad
theorem fld_up {v : V} {a : Addr} {o : HO} (n : H a = none) (h : Fld K H v) : Fld K (upd H a o) v := by
  rcases h with h | h | ⟨b, xs, rfl, h⟩
  · exact .inl h
  · exact .inr (.inl h)
  · exact .inr (.inr ⟨b, xs, rfl, sqt_mono (fun c u z => upd_keep n z) h⟩)
theorem is_raise {x f g : Str} {C : Addr} {t : TA} {m : M (List D)} (hm : mg x = some (.ref C)) (h : IA K ks mg W t m) : IS K ks mg W (fun _ σ H => tMkO C (spInit K C f g) [] t σ H fun cls d H' => W cls d σ H') (raiseS x f g m) :=
  is_bind (u := fun (vs : List V) (D : Ends) (σ : L2.St) (H1 : Hp) => vs.length ≤ 1000 ∧ ∀ a, H1 a = none → spInit K C f g (.ref a :: (vs ++ [])) (upd H1 a (exo a C none))
    (fun v H2 => v = .non ∧ ∃ (d : Addr) (fs : List (Str × V)), H2 a = some (exo a C (some d)) ∧ H2 d = some (exd d fs) ∧ H1 d = none ∧ W (.ref C) (some d) σ (upd (del H2 a) d (.xd fs))) (fun _ _ _ => False)) h fun ds vs Z ad σ H B s D Hs rp hv q => by
    match ds, hv, q with
    | [p, r], hv, q =>
      have hv : DdA K Z.fa B vs [p, r] := hv
      obtain ⟨v, w, rfl, h1, h2⟩ := dda2 hv
      by_cases c : (fldO p && fldO r) = true
      · simp only [if_pos c] at q
        simp only [Bool.and_eq_true] at c
        refine ⟨by show 2 ≤ 1000; decide, fun a ha => ⟨a, v, w, rfl, upd_same, fld_up ha (fld_of h1 rp.bh c.1), fld_up ha (fld_of h2 rp.bh c.2), fun d hd nd => ⟨rfl, d, _, ?_, upd_same, ?_, ?_⟩⟩⟩
        · rw [upd_ne (Ne.symm nd), upd_same]
        · rw [upd_ne nd] at hd
          exact hd
        · rw [upd_ne nd] at hd
          have eH : upd (del (upd (upd (upd (upd H a (exo a C none)) d (exd d [(f, v)])) a (exo a C (some d))) d (exd d [(g, w), (f, v)])) a) d (.xd [(g, w), (f, v)]) = upd H d (.xd [(g, w), (f, v)]) := by
            funext b
            by_cases b1 : b = d
            · subst b1
              rw [upd_same, upd_same]
            · rw [upd_ne b1, upd_ne b1]
              by_cases b2 : b = a
              · subst b2
                rw [del_same, ha]
              · rw [del_ne b2, upd_ne b1, upd_ne b2, upd_ne b1, upd_ne b2]
          rw [eH]
          obtain ⟨r2, st⟩ := rp.made (.xd [(g, w), (f, v)]) hd
          exact q ad σ _ B (.ref C) (some d) r2 (Same.refl _) ⟨hm, d, _, rfl, upd_same, rfl, .cons h2 (.cons h1 .nil)⟩
      · simp only [if_neg c] at q
        exact q.elim

/-! try: .. except X: .. -/
def tryS (x : Str) (mb : MS) (ms : Xc → MS) : MS := fun s => match mb s with
  | .exc e s1 => if e.cls = x then ms e s1 else .bad
  | o => o
/-- the suite, for an error of ours -/
def ISx (K : PySem.W.Frag) (ks : FK) (mg : Str → Option Value) (W : WX) (ts : Addr → Value → Option Addr → TS) (ms : Xc → MS) : Prop := ∀ (Z : Zt K ks) ad σ H B s D a cls dd e, Rp Z ad σ H B s → H a = none → XcOk mg K Z.fa B H cls dd e → PostS mg Z B D W (ms e s) → ts a cls dd D σ H
theorem is_try {x : Str} {c : Value} {tb : WX → TS} {ts : Addr → Value → Option Addr → TS} {mb : MS} {ms : Xc → MS} (hm : mg x = some c) (he : PySem.W.exmOne K c c = some true) (hb : ∀ W', IS K ks mg W' (tb W') mb) (hs : ISx K ks mg W ts ms) :
    IS K ks mg W (fun D σ H => tb (wOnly K c ts W D) D σ H) (tryS x mb ms) := by
  intro Z ad σ H B s D rp q
  refine hb (wOnly K c ts W D) Z ad σ H B s D rp ?_
  unfold tryS at q
  cases e : mb s with
  | nx s1 => rw [e] at q; exact q
  | rt d s1 => rw [e] at q; exact q
  | bk s1 => rw [e] at q; exact q
  | ct s1 => rw [e] at q; exact q
  | bad => rw [e] at q; exact q
  | exc y s1 =>
    simp only [e] at q
    by_cases cx : y.cls = x
    · rw [if_pos cx] at q
      intro ad' σ' H' B' cls dd rp' sb hx
      have ec : cls = c := by
        have z := hx.1
        rw [cx, hm] at z
        cases z
        rfl
      subst ec
      exact ⟨true, he, fun _ a ha => hs Z ad' σ' H' B' s1 D a cls dd y rp' ha hx (q.up sb), fun z => nomatch z⟩
    · rw [if_neg cx] at q
      exact q.elim
/-- except X as n: the name holds the error within; the suite returns -/
def tryA (x : Str) (i : Nat) (mb : MS) (ms : Xc → MS) : MS := fun s => match mb s with
  | .exc e s1 => if e.cls = x ∧ i < s1.sl.length then (match ms e (s1.put i .un) with
    | .rt d s2 => .rt d s2
    | _ => .bad) else .bad
  | o => o
def ISa (K : PySem.W.Frag) (ks : FK) (mg : Str → Option Value) (W : WX) (i : Nat) (ts : Addr → Value → Option Addr → TS) (ms : Xc → MS) : Prop := ∀ (Z : Zt K ks) (ad : Nat → Addr) (σ : L2.St) (H B : Hp) (s : Sto) (D : Ends) (a : Addr) (cls : Value) (dd : Option Addr) (e : Xc),
  Rp Z ad σ H B s → σ[i]? = some (some (.ref a)) → H a = none → XcOk mg K Z.fa B H cls dd e → PostS mg Z B D W (ms e s) → (∃ d s', ms e s = .rt d s') → ts a cls dd D σ H
theorem is_tryAs {x : Str} {c : Value} {i : Nat} {tb : WX → TS} {ts : Addr → Value → Option Addr → TS} {mb : MS} {ms : Xc → MS} (hm : mg x = some c) (he : PySem.W.exmOne K c c = some true) (hb : ∀ W', IS K ks mg W' (tb W') mb) (hs : ISa K ks mg W i ts ms) :
    IS K ks mg W (fun D σ H => tb (wAs K c i ts W D) D σ H) (tryA x i mb ms) := by
  intro Z ad σ H B s D rp q
  refine hb (wAs K c i ts W D) Z ad σ H B s D rp ?_
  unfold tryA at q
  cases e : mb s with
  | nx s1 => rw [e] at q; exact q
  | rt d s1 => rw [e] at q; exact q
  | bk s1 => rw [e] at q; exact q
  | ct s1 => rw [e] at q; exact q
  | bad => rw [e] at q; exact q
  | exc y s1 =>
    simp only [e] at q
    by_cases cx : y.cls = x ∧ i < s1.sl.length
    · rw [if_pos cx] at q
      intro ad' σ' H' B' cls dd rp' sb hx
      have ec : cls = c := by
        have z := hx.1
        rw [cx.1, hm] at z
        cases z
        rfl
      subst ec
      refine ⟨true, he, fun _ a ha => ?_, fun z => nomatch z⟩
      cases e2 : ms y (s1.put i .un) with
      | rt d s2 =>
        simp only [e2] at q
        refine hs Z ad' (σ'.set i (some (.ref a))) H' B' (s1.put i .un) _ a cls dd y (rp'.forget i _) (by rw [List.getElem?_set_self (by rw [rp'.len]; exact cx.2)]) ha hx ?_ ⟨d, s2, e2⟩
        rw [e2]
        exact q.up sb
      | nx s2 => simp only [e2] at q; exact q.elim
      | bk s2 => simp only [e2] at q; exact q.elim
      | ct s2 => simp only [e2] at q; exact q.elim
      | exc z s2 => simp only [e2] at q; exact q.elim
      | bad => simp only [e2] at q; exact q.elim
    · rw [if_neg cx] at q
      exact q.elim
/-- return (w, n.f, n.g) in such a suite: an error of two fields, as raiseS keeps them -/
def sufS (w : Str) : Xc → MS := fun e s => match e.fs with
  | [(_, b), (_, a)] => .rt (.tup [.str w, a, b]) s
  | _ => .bad
theorem isa_fields {i : Nat} {w f g : Str} {C : Addr} {x : Str} (hfg : f ≠ g) (hm : mg x = some (.ref C)) :
    ISa K ks mg W i (fun a cls d => tRet (tTup (tCons (tC (.str w)) (tCons (tXf a cls d C f (tVar i)) (tCons (tXf a cls d C g (tVar i)) tNil))))) (fun e s => if e.cls = x ∧ e.fs.map (·.1) = [g, f] then sufS w e s else .bad) := by
  intro Z ad σ H B s D a cls dd e rp hi ha hx q hr
  dsimp only at q hr
  by_cases c : e.cls = x ∧ e.fs.map (·.1) = [g, f]
  · rw [if_pos c] at q
    obtain ⟨h1, d, fs, rfl, h3, h4, h5⟩ := hx
    have ec : cls = .ref C := by
      rw [c.1, hm] at h1
      cases h1
      rfl
    subst ec
    obtain ⟨ec, efs⟩ := e
    match efs, c, q, h4, h5 with
    | [(g', b), (f', a')], c, q, h4, h5 =>
      have c2 : g' = g ∧ f' = f := by
        have z := c.2
        simp at z
        exact z
      obtain ⟨rfl, rfl⟩ := c2
      match fs, h3, h4, h5 with
      | [(g1, v1), (f1, v2)], h3, h4, h5 =>
        simp at h4
        obtain ⟨rfl, rfl⟩ := h4
        obtain ⟨v, w', e1, k1, k2⟩ := dda2 h5
        simp at e1
        obtain ⟨rfl, rfl⟩ := e1
        refine ⟨_, hi, rfl, rfl, d, _, v2, rfl, h3, ?_, _, hi, rfl, rfl, d, _, v1, rfl, h3, ?_, ?_⟩
        · have z : (f1 == g1) = false := beq_eq_false_iff_ne.mpr hfg
          simp [List.lookup, z]
        · simp [List.lookup]
        · refine ⟨by show 3 ≤ sizeLine; decide, fun p hp => ?_⟩
          obtain ⟨r2, st⟩ := rp.laid (.tup [.str w, v2, v1]) hp
          exact q ad σ _ _ _ r2 st.bb (.tup (.inl (.inl upd_same)) (.cons (.str w) (.cons (k2.mono st.bb) (.cons (k1.mono st.bb) .nil))))
  · rw [if_neg c] at hr
    obtain ⟨d, s', z⟩ := hr
    cases z
/-- return c in a suite without a name -/
theorem isx_ret {v : V} {d : D} (h : ∀ (fa : Addr) (B : Hp), Dd K fa B v d) : ISx K ks mg W (fun _ _ _ => tRet (tC v)) (fun _ s => .rt d s) := by
  intro Z ad σ H B s D a cls dd e rp ha hx q
  exact q ad σ H B v rp (Same.refl _) (h _ _)
end
end Og

set_option Elab.async false
set_option linter.all false
set_option maxRecDepth 100000
set_option maxHeartbeats 1000000
namespace Og
open PySem L2
/-! ### syntax and mirror together -/
def EV (ks : FK) (X : Cx) (W : WX) (e : Expr) (m : M D) : Prop := ∃ t, PE X e t ∧ IV X.K ks X.mg W t m
def EP' (ks : FK) (X : Cx) (W : WX) (e : Expr) (m : M D) : Prop := ∃ t, PE X e t ∧ IP X.K ks X.mg W t m
def EL (ks : FK) (X : Cx) (W : WX) (e : Expr) (m : M D) : Prop := ∃ t, PE X e t ∧ IL X.K ks X.mg W t m
def EA (ks : FK) (X : Cx) (W : WX) (es : List Expr) (m : M (List D)) : Prop := ∃ t, PA X es t ∧ IA X.K ks X.mg W t m
def EPA (ks : FK) (X : Cx) (W : WX) (es : List Expr) (m : M (List D)) : Prop := ∃ t, PA X es t ∧ IPA X.K ks X.mg W t m
def ET (ks : FK) (X : Cx) (W : WX) (e : Expr) (m : M Bool) : Prop := ∃ t, PT X e t ∧ IB X.K ks X.mg W t m
def EO (ks : FK) (X : Cx) (W : WX) (e : Option Expr) (m : M (Option Int)) : Prop := ∃ t, PO X e t ∧ IO' X.K ks X.mg W t m
def ES (ks : FK) (X : Cx) (W : WX) (st : Stmt) (m : MS) : Prop := ∃ t, PS X st t ∧ IS X.K ks X.mg W t m
def ESs (ks : FK) (X : Cx) (W : WX) (st : List Stmt) (m : MS) : Prop := ∃ t, PSs X st t ∧ IS X.K ks X.mg W t m
def EW (ks : FK) (X : Cx) (W : WX) (tg e : Expr) (m : M (List D)) : Prop := ∃ t, PI X tg e t ∧ IW X.K ks X.mg W t m
section
variable {ks : FK} {X : Cx} {W : WX} {e a b c : Expr} {es : List Expr} {m ma mb mc : M D} {x : Str} {q1 pos p2 p3 : Pos}
theorem EV.p (h : EV ks X W e m) : EP' ks X W e m := let ⟨t, h1, h2⟩ := h; ⟨t, h1, IV.p h2⟩
theorem EL.p (h : EL ks X W e m) : EP' ks X W e m := let ⟨t, h1, h2⟩ := h; ⟨t, h1, IL.p h2⟩
theorem EL.v (h : EL ks X W e m) : EV ks X W e m := let ⟨t, h1, h2⟩ := h; ⟨t, h1, IL.v h2⟩
theorem ev_var (i : Nat) (hN : X.N[i]? = some x := by rfl) (hv : Vis X.env.scope x := by first | exact Or.inl rfl | exact Or.inr (Or.inl rfl) | exact Or.inr (Or.inr rfl)) (hd : (x == ("__debug__" : Str)) = false := by decide) (hcd : (x == ("__classdict__" : Str)) = false := by decide) :
    EV ks X W (.Name x pos) (mVar i) := ⟨_, pe_var hN hv hd hcd, im_var i⟩
theorem ep_var (i : Nat) (hN : X.N[i]? = some x := by rfl) (hv : Vis X.env.scope x := by first | exact Or.inl rfl | exact Or.inr (Or.inl rfl) | exact Or.inr (Or.inr rfl)) (hd : (x == ("__debug__" : Str)) = false := by decide) (hcd : (x == ("__classdict__" : Str)) = false := by decide) :
    EP' ks X W (.Name x pos) (mPk i) := ⟨_, pe_var hN hv hd hcd, im_pk i⟩
theorem ev_int {i : Int} {j : Nat} : EV ks X W (.Constant (.int i) j pos) (retM (.int i)) := ⟨_, pe_int, im_c fun _ _ => .int i⟩
theorem ev_str {z : Str} {j : Nat} : EV ks X W (.Constant (.str z) j pos) (retM (.str z)) := ⟨_, pe_str, im_c fun _ _ => .str z⟩
theorem ev_bl {v : Bool} {j : Nat} : EV ks X W (.Constant (.bool v) j pos) (retM (.bl v)) := ⟨_, pe_bl, im_c fun _ _ => .bl v⟩
theorem ev_non {j : Nat} : EV ks X W (.Constant .none j pos) (retM .non) := ⟨_, pe_non, im_c fun _ _ => .non⟩
theorem ev_globI {i : Int} {t : Tok} (hm : X.mg x = some (.int i t)) (hg : Gl X x := by rfl) (hd : (x == ("__debug__" : Str)) = false := by decide) : EV ks X W (.Name x pos) (retM (.int i)) := ⟨_, pe_glob (v := .int i) hg hm ⟨t, rfl⟩ hd, im_c fun _ _ => .int i⟩
theorem ev_globS {z : Str} {t : Tok} (hm : X.mg x = some (.str z t)) (hg : Gl X x := by rfl) (hd : (x == ("__debug__" : Str)) = false := by decide) : EV ks X W (.Name x pos) (retM (.str z)) := ⟨_, pe_glob (v := .str z) hg hm ⟨t, rfl⟩ hd, im_c fun _ _ => .str z⟩
/-- a way that is never gone -/
theorem ev_never : EV ks X W e (fun _ => .bad) := ⟨fun _ _ _ => False, ⟨fun _ _ _ _ _ _ h => h.elim⟩, fun _ _ _ _ _ _ _ _ h => h⟩
/-! operators -/
theorem ev_bin {op : Operator} {r : R2} {f : D → D → Option D} (o : OpR X (binaryOp op) r) (i : Op2 (@rV X.K ks) r f) (ha : EP' ks X W a ma) (hb : EP' ks X W b mb) : EV ks X W (.BinOp a op b pos) (m2 f ma mb) :=
  let ⟨_, h1, h2⟩ := ha; let ⟨_, g1, g2⟩ := hb; ⟨_, pe_op o h1 g1, im_op rV_mono i h2 g2⟩
def addO := or2 (or2 addI addS) addT
theorem ev_add (ha : EP' ks X W a ma) (hb : EP' ks X W b mb) : EV ks X W (.BinOp a .Add b pos) (m2 addO ma mb) := ev_bin (opr_or (opr_or op_add op_add_str) op_catA) ((o_addI.or o_addS).or o_addT) ha hb
theorem ev_sub (ha : EP' ks X W a ma) (hb : EP' ks X W b mb) : EV ks X W (.BinOp a .Sub b pos) (m2 subI ma mb) := ev_bin op_sub o_subI ha hb
theorem ev_mul (ha : EP' ks X W a ma) (hb : EP' ks X W b mb) : EV ks X W (.BinOp a .Mult b pos) (m2 mulI ma mb) := ev_bin op_mul o_mulI ha hb
theorem ev_div (ha : EP' ks X W a ma) (hb : EP' ks X W b mb) : EV ks X W (.BinOp a .FloorDiv b pos) (m2 divI ma mb) := ev_bin op_fdiv o_divI ha hb
theorem ev_mod (ha : EP' ks X W a ma) (hb : EP' ks X W b mb) : EV ks X W (.BinOp a .Mod b pos) (m2 modI ma mb) := ev_bin op_mod o_modI ha hb
theorem ev_pow (ha : EP' ks X W a ma) (hb : EP' ks X W b mb) : EV ks X W (.BinOp a .Pow b pos) (m2 powI ma mb) := ev_bin op_pow o_powI ha hb
theorem el_cat (ha : EP' ks X W a ma) (hb : EP' ks X W b mb) : EL ks X W (.BinOp a .Add b pos) (m2 addL ma mb) :=
  let ⟨_, h1, h2⟩ := ha; let ⟨_, g1, g2⟩ := hb; ⟨_, pe_op op_cat h1 g1, im_op rL_mono o_addL h2 g2⟩
theorem ev_neg (ha : EP' ks X W a ma) : EV ks X W (.UnaryOp .USub a pos) (m1 negO ma) := let ⟨_, h1, h2⟩ := ha; ⟨_, pe_un un_neg h1, im_op1 (r := rU fun i => V.int (-i)) rV_mono o_neg h2⟩
theorem ev_cmp {op : CmpOp} {r : R2} {f : D → D → Option D} (o : OpR X (compareOp op) r) (i : Op2 (@rV X.K ks) r f) (ha : EP' ks X W a ma) (hb : EP' ks X W b mb) (hk : behindInMarks op b = false) : EV ks X W (.Compare a [op] [b] pos) (m2 f ma mb) :=
  let ⟨_, h1, h2⟩ := ha; let ⟨_, g1, g2⟩ := hb; ⟨_, pe_cmpR o h1 g1 hk, im_op rV_mono i h2 g2⟩
def ltO := or2 ltI ltS
def leO := or2 leI leS
def gtO := or2 gtI gtS
def geO := or2 geI geS
theorem ev_lt (ha : EP' ks X W a ma) (hb : EP' ks X W b mb) : EV ks X W (.Compare a [.Lt] [b] pos) (m2 ltO ma mb) := ev_cmp (opr_or op_lt op_lt_str) (o_ltI.or o_ltS) ha hb (nomark _)
theorem ev_le (ha : EP' ks X W a ma) (hb : EP' ks X W b mb) : EV ks X W (.Compare a [.LtE] [b] pos) (m2 leO ma mb) := ev_cmp (opr_or op_le op_le_str) (o_leI.or o_leS) ha hb (nomark _)
theorem ev_gt (ha : EP' ks X W a ma) (hb : EP' ks X W b mb) : EV ks X W (.Compare a [.Gt] [b] pos) (m2 gtO ma mb) := ev_cmp (opr_or op_gt op_gt_str) (o_gtI.or o_gtS) ha hb (nomark _)
theorem ev_ge (ha : EP' ks X W a ma) (hb : EP' ks X W b mb) : EV ks X W (.Compare a [.GtE] [b] pos) (m2 geO ma mb) := ev_cmp (opr_or op_ge op_ge_str) (o_geI.or o_geS) ha hb (nomark _)
theorem ev_eq (hu : X.A.units + 64 < cLine) (ha : EP' ks X W a ma) (hb : EP' ks X W b mb) : EV ks X W (.Compare a [.Eq] [b] pos) (m2 (eqO false) ma mb) := ev_cmp (op_eqD hu) o_eqD ha hb (nomark _)
theorem ev_ne (hu : X.A.units + 64 < cLine) (ha : EP' ks X W a ma) (hb : EP' ks X W b mb) : EV ks X W (.Compare a [.NotEq] [b] pos) (m2 (eqO true) ma mb) := ev_cmp (op_neD hu) o_neD ha hb (nomark _)
theorem ev_isN (ha : EP' ks X W a ma) (hb : EP' ks X W b mb) : EV ks X W (.Compare a [.Is] [b] pos) (m2 (isNO false) ma mb) := ev_cmp op_isN o_isN ha hb (nomark _)
theorem ev_notN (ha : EP' ks X W a ma) (hb : EP' ks X W b mb) : EV ks X W (.Compare a [.IsNot] [b] pos) (m2 (isNO true) ma mb) := ev_cmp op_notN o_notN ha hb (nomark _)
theorem ev_in (ha : EP' ks X W a ma) (hb : EP' ks X W b mb) (hk : behindInMarks .In b = false := by rfl) : EV ks X W (.Compare a [.In] [b] pos) (m2 (inS false) ma mb) := ev_cmp op_in_sign o_inS ha hb hk
theorem ev_notIn (ha : EP' ks X W a ma) (hb : EP' ks X W b mb) (hk : behindInMarks .NotIn b = false := by rfl) : EV ks X W (.Compare a [.NotIn] [b] pos) (m2 (inS true) ma mb) := ev_cmp op_notIn_sign o_notInS ha hb hk
theorem ev_chain {op op' : CmpOp} {r r' : R2} {f g : D → D → Option D} (o : OpR X (compareOp op) r) (o' : OpR X (compareOp op') r') (i : Op2 (@rV X.K ks) r f) (i' : Op2 (@rV X.K ks) r' g) (ha : EP' ks X W a ma) (hb : EP' ks X W b mb) (hc : EP' ks X W c mc) (hl : lastMarks [op, op'] [b, c] = false := by rfl) :
    EV ks X W (.Compare a [op, op'] [b, c] pos) (mCh f g ma mb mc) := let ⟨_, h1, h2⟩ := ha; let ⟨_, g1, g2⟩ := hb; let ⟨_, k1, k2⟩ := hc; ⟨_, pe_chain o o' h1 g1 k1 hl, im_chain i i' h2 g2 k2⟩
/-! items, slices -/
theorem ev_ix (ha : EP' ks X W a ma) (hb : EP' ks X W b mb) (hp : PlainIx b := by exact fun _ _ => rfl) : EV ks X W (.Subscript a b pos) (m2 ixO ma mb) := let ⟨_, h1, h2⟩ := ha; let ⟨_, g1, g2⟩ := hb; ⟨_, pe_ix ix_seq h1 g1 hp, im_op rV_mono o_ix h2 g2⟩
theorem eo_some (h : EP' ks X W e m) : EO ks X W (some e) (bindM m asInt) := let ⟨_, h1, h2⟩ := h; ⟨_, po_some h1, im_part h2⟩
theorem eo_none : EO ks X W none (retM none) := ⟨_, po_none, im_nopart⟩
variable {lo hi : Option Expr} {ml mh : M (Option Int)}
theorem ev_sl (ha : EP' ks X W a ma) (hl : EO ks X W lo ml) (hh : EO ks X W hi mh) : EV ks X W (.Subscript a (.Slice lo hi none p2) pos) (m3 slO ma ml mh) := let ⟨_, h1, h2⟩ := ha; let ⟨_, g1, g2⟩ := hl; let ⟨_, k1, k2⟩ := hh; ⟨_, pe_slice (sl_str.or sl_tupA) h1 g1 k1, im_sl rV_mono o_sl h2 g2 k2⟩
theorem el_sl (ha : EP' ks X W a ma) (hl : EO ks X W lo ml) (hh : EO ks X W hi mh) : EL ks X W (.Subscript a (.Slice lo hi none p2) pos) (m3 slL ma ml mh) := let ⟨_, h1, h2⟩ := ha; let ⟨_, g1, g2⟩ := hl; let ⟨_, k1, k2⟩ := hh; ⟨_, pe_slice sl_list h1 g1 k1, im_sl rL_mono o_slL h2 g2 k2⟩
/-! tests -/
variable {na nb : M Bool}
theorem et_val (h : EP' ks X W e m) (hw : ∀ whole : Sem Value, PySem.isTrue e X.env whole = (do
    let v ← whole
    standAt e.pos
    holding [v] (truthy v)) := by intro _; rfl) : ET ks X W e (bindM m asB) := by
  obtain ⟨u, h1, h2⟩ := h
  exact ⟨_, pt_val h1 hw, im_tB h2⟩
theorem et_cmp {op : CmpOp} {r : R2} {f : D → D → Option D} (o : OpR X (compareOp op) r) (i : Op2 (@rV X.K ks) r f) (ha : EP' ks X W a ma) (hb : EP' ks X W b mb) (hk : behindInMarks op b = false) : ET ks X W (.Compare a [op] [b] pos) (bindM (m2 f ma mb) asB) :=
  let ⟨_, h1, h2⟩ := ha; let ⟨_, g1, g2⟩ := hb; ⟨_, pt_cmpR o h1 g1 hk, im_tTest (IV.p (im_op rV_mono i h2 g2))⟩
theorem et_truth (h : EP' ks X W e m) (hw : ∀ whole : Sem Value, PySem.isTrue e X.env whole = (do
    let v ← whole
    standAt e.pos
    holding [v] (truthy v)) := by intro _; rfl) : ET ks X W e (bindM m fun d => optM (truD d)) := by
  obtain ⟨u, h1, h2⟩ := h
  exact ⟨_, pt_truth h1 hw, im_truth h2⟩
theorem et_not (h : ET ks X W a na) : ET ks X W (.UnaryOp .Not a pos) (bindM na fun v => retM (!v)) := let ⟨_, h1, h2⟩ := h; ⟨_, pt_not h1, im_not h2⟩
/-- and, or: a row of tests -/
def EWt (ks : FK) (X : Cx) (W : WX) (e : Expr) (m : M Bool) : Prop := ∃ t, PW X e t ∧ IB X.K ks X.mg W t m
theorem ew_t (h : EWt ks X W e na) : ET ks X W e na := by
  obtain ⟨u, h1, h2⟩ := h
  exact ⟨u, h1.pt, h2⟩
theorem ew_and (ha : ET ks X W a na) (hb : EWt ks X W (.BoolOp .And (b :: es) pos) nb) : EWt ks X W (.BoolOp .And (a :: b :: es) pos) (mIf na nb (retM false)) := let ⟨_, h1, h2⟩ := ha; let ⟨_, g1, g2⟩ := hb; ⟨_, pw_and h1 g1, im_and h2 g2⟩
theorem ew_and1 (ha : ET ks X W a na) : EWt ks X W (.BoolOp .And [a] pos) na := let ⟨_, h1, h2⟩ := ha; ⟨_, pw_and1 h1, h2⟩
theorem ew_or (ha : ET ks X W a na) (hb : EWt ks X W (.BoolOp .Or (b :: es) pos) nb) : EWt ks X W (.BoolOp .Or (a :: b :: es) pos) (mIf na (retM true) nb) := let ⟨_, h1, h2⟩ := ha; let ⟨_, g1, g2⟩ := hb; ⟨_, pw_or h1 g1, im_or h2 g2⟩
theorem ew_or1 (ha : ET ks X W a na) : EWt ks X W (.BoolOp .Or [a] pos) na := let ⟨_, h1, h2⟩ := ha; ⟨_, pw_or1 h1, h2⟩
theorem ev_and (ha : EP' ks X W a ma) (hb : EV ks X W (.BoolOp .And (b :: es) pos) mb) : EV ks X W (.BoolOp .And (a :: b :: es) pos) (mIf (bindM ma asB) mb (retM (.bl false))) := let ⟨_, h1, h2⟩ := ha; let ⟨_, g1, g2⟩ := hb; ⟨_, pe_and h1 g1, im_andV h2 g2⟩
theorem ev_or (ha : EP' ks X W a ma) (hb : EV ks X W (.BoolOp .Or (b :: es) pos) mb) : EV ks X W (.BoolOp .Or (a :: b :: es) pos) (mIf (bindM ma asB) (retM (.bl true)) mb) := let ⟨_, h1, h2⟩ := ha; let ⟨_, g1, g2⟩ := hb; ⟨_, pe_or h1 g1, im_orV h2 g2⟩
theorem ev_one {op : BoolOp} (ha : EV ks X W a ma) : EV ks X W (.BoolOp op [a] pos) ma := let ⟨_, h1, h2⟩ := ha; ⟨_, pe_one h1, h2⟩
theorem ev_not (ha : EP' ks X W a ma) : EV ks X W (.UnaryOp .Not a pos) (m1 notO ma) := let ⟨_, h1, h2⟩ := ha; ⟨_, pe_not h1, im_notV h2⟩
theorem ev_if (hc : ET ks X W c na) (ha : EV ks X W a ma) (hb : EV ks X W b mb) : EV ks X W (.IfExp c a b pos) (mIf na ma mb) := let ⟨_, k1, k2⟩ := hc; let ⟨_, h1, h2⟩ := ha; let ⟨_, g1, g2⟩ := hb; ⟨_, pe_ifExp k1 h1 g1, im_if k2 h2 g2⟩
/-! arguments, displays, calls -/
variable {mas : M (List D)}
theorem ea_nil : EA ks X W [] (retM []) := ⟨_, pa_nil, im_anil⟩
theorem ea_cons (ha : EV ks X W e ma) (hr : EA ks X W es mas) (hs : starEach (e :: es) X.env = (false, eval e X.env) :: starEach es X.env := by rfl) : EA ks X W (e :: es) (mCons ma mas) := let ⟨_, h1, h2⟩ := ha; let ⟨_, g1, g2⟩ := hr; ⟨_, pa_cons h1 g1 hs, im_acons h2 g2⟩
theorem epa_nil : EPA ks X W [] (retM []) := ⟨_, pa_nil, im_panil⟩
theorem epa_cons (ha : EP' ks X W e ma) (hr : EPA ks X W es mas) (hs : starEach (e :: es) X.env = (false, eval e X.env) :: starEach es X.env := by rfl) : EPA ks X W (e :: es) (mCons ma mas) := let ⟨_, h1, h2⟩ := ha; let ⟨_, g1, g2⟩ := hr; ⟨_, pa_cons h1 g1 hs, im_pacons h2 g2⟩
theorem ev_tup {j : Nat} (h : EA ks X W es mas) : EV ks X W (.Tuple es j pos) (bindM mas fun ds => optM (tupO ds)) := let ⟨_, h1, h2⟩ := h; ⟨_, pe_tup h1, im_tup h2⟩
theorem el_lst (h : EA ks X W es mas) : EL ks X W (.List es pos) (bindM mas fun ds => optM (lstO ds)) := let ⟨_, h1, h2⟩ := h; ⟨_, pe_lst h1, im_lst h2⟩
theorem ev_len (hm : X.mg "len" = none) (h : EPA ks X W (e :: es) mas) (hg : Gl X "len" := by rfl) (hs : starEach (e :: es) X.env = (false, eval e X.env) :: starEach es X.env := by rfl) (hpl : (backTo pos (starEach es X.env)).any (·.1) = false := by rfl) :
    EV ks X W (.Call (.Name "len" q1) (e :: es) [] pos) (mA lenO mas) := let ⟨_, h1, h2⟩ := h; ⟨_, pe_callB call_len hg hm PySem.boot_len h1 (by decide) (by decide) hs hpl, im_cb rV_mono o_len h2⟩
theorem ev_toInt (hm : X.mg "int" = none) (h : EPA ks X W (e :: es) mas) (hg : Gl X "int" := by rfl) (hs : starEach (e :: es) X.env = (false, eval e X.env) :: starEach es X.env := by rfl) (hpl : (backTo pos (starEach es X.env)).any (·.1) = false := by rfl) :
    EV ks X W (.Call (.Name "int" q1) (e :: es) [] pos) (mA intO mas) := let ⟨_, h1, h2⟩ := h; ⟨_, pe_callTy call_int1 hg hm (by decide +kernel) h1 (by decide) (by decide) hs hpl, im_cb rV_mono o_int h2⟩
theorem ev_tuple (hm : X.mg "tuple" = none) (h : EPA ks X W (e :: es) mas) (hg : Gl X "tuple" := by rfl) (hs : starEach (e :: es) X.env = (false, eval e X.env) :: starEach es X.env := by rfl) (hpl : (backTo pos (starEach es X.env)).any (·.1) = false := by rfl) :
    EV ks X W (.Call (.Name "tuple" q1) (e :: es) [] pos) (mA tupleO mas) := let ⟨_, h1, h2⟩ := h; ⟨_, pe_callTy call_tuple_of hg hm (by decide +kernel) h1 (by decide) (by decide) hs hpl, im_cb rV_mono o_tuple h2⟩
theorem el_list (hm : X.mg "list" = none) (h : EPA ks X W (e :: es) mas) (hg : Gl X "list" := by rfl) (hs : starEach (e :: es) X.env = (false, eval e X.env) :: starEach es X.env := by rfl) (hpl : (backTo pos (starEach es X.env)).any (·.1) = false := by rfl) :
    EL ks X W (.Call (.Name "list" q1) (e :: es) [] pos) (mA listO mas) := let ⟨_, h1, h2⟩ := h; ⟨_, pe_callTy call_list_of hg hm (by decide +kernel) h1 (by decide) (by decide) hs hpl, im_cb rL_mono o_list h2⟩
theorem ev_repr (hG : X.A.guards = some []) (hu : X.A.units + 66 < cLine) (hm : X.mg "repr" = none) (h : EPA ks X W (e :: es) mas) (hg : Gl X "repr" := by rfl) (hs : starEach (e :: es) X.env = (false, eval e X.env) :: starEach es X.env := by rfl) (hpl : (backTo pos (starEach es X.env)).any (·.1) = false := by rfl) :
    EV ks X W (.Call (.Name "repr" q1) (e :: es) [] pos) (mA reprO mas) := let ⟨_, h1, h2⟩ := h; ⟨_, pe_callB (call_repr hG hu) hg hm (by decide +kernel) h1 (by decide) (by decide) hs hpl, im_cb rV_mono o_repr h2⟩
theorem ev_isi {y : Str} {T : String} (hm : X.mg "isinstance" = none) (hy : X.mg y = none) (hb : bootBuiltins y = some (.type T)) (ha : EP' ks X W e ma) (hg : Gl X "isinstance" := by rfl) (hgy : Gl X y := by rfl) (n1 : y ≠ "__name__" := by decide) (n2 : (y == ("__debug__" : Str)) = false := by decide)
    (hs : starEach [e, .Name y p2] X.env = (false, eval e X.env) :: starEach [.Name y p2] X.env := by rfl) (hs2 : starEach [.Name y p2] X.env = (false, eval (.Name y p2) X.env) :: starEach [] X.env := by rfl) (hpl : (backTo pos (starEach [.Name y p2] X.env)).any (·.1) = false := by rfl) :
    EV ks X W (.Call (.Name "isinstance" q1) [e, .Name y p2] [] pos) (m1 (isiO T) ma) := let ⟨_, h1, h2⟩ := ha; ⟨_, pe_callB call_isi hg hm (by decide +kernel) (pa_cons h1 (pa_cons (pe_bltn (v := .ty T) hgy hy hb rfl n1 n2) pa_nil hs2) hs) (by decide) (by decide) hs hpl, im_isi h2⟩
variable {k n : Nat} {fn : Fn}
theorem ev_call (F : FnX X.prog X.w X.K X.mg X.base ks x k n fn) (hG : X.A.guards = some []) (hr : Room k X.A) (tk : Takes X W) (h : EA ks X W (e :: es) mas) (hg : Gl X x := by rfl) (hdb : (x == ("__debug__" : Str)) = false := by decide)
    (hs : starEach (e :: es) X.env = (false, eval e X.env) :: starEach es X.env := by rfl) (hpl : (backTo pos (starEach es X.env)).any (·.1) = false := by rfl) : EV ks X W (.Call (.Name x q1) (e :: es) [] pos) (callM n fn mas) := by
  obtain ⟨f, fd, ps, G, g1, g2, g3⟩ := F.ex
  obtain ⟨t, h1, h2⟩ := h
  exact ⟨_, pe_callG G hG hr hg g1 g2 g3 tk h1 hdb hs hpl, im_call h2⟩
theorem ev_callK {kws : List Keyword} {ns : List Str} (F : FnXK X.prog X.w X.K X.mg X.base ks x ns k n fn) (hG : X.A.guards = some []) (hr : Room k X.A) (tk : Takes X W) (h : ∃ t, PK X kws t ∧ IA X.K ks X.mg W t mas) (hg : Gl X x := by rfl) (hdb : (x == ("__debug__" : Str)) = false := by decide)
    (hall : (backToKw pos (keywordEach kws X.env)).all (·.1.isSome) = true := by rfl) (hks : (backToKw pos (keywordEach kws X.env)).filterMap (·.1) = ns := by rfl)
    (hno : (backToKw pos (keywordEach kws X.env)).any (·.1.isNone) = false := by rfl) : EV ks X W (.Call (.Name x q1) [] kws pos) (callM n fn mas) := by
  obtain ⟨f, fd, ps, G, g1, g2, g3⟩ := F.ex
  obtain ⟨t, h1, h2⟩ := h
  exact ⟨_, pe_callGK G hG hr hg g1 g2 g3 tk h1 hall hks hno hdb, im_call h2⟩
theorem ek_one {nm : Option Str} (ha : EV ks X W e ma) : ∃ t, PK X [⟨nm, e, q1⟩] t ∧ IA X.K ks X.mg W t (mCons ma (retM [])) := let ⟨_, h1, h2⟩ := ha; ⟨_, pk_cons h1 pk_nil, im_acons h2 im_anil⟩
/-! methods of texts -/
theorem ev_mt {name : Str} {id : String} {r : V → List V → Hp → VK → Prop} {f : D → List D → Option D} {apos cpos : Pos} (hs0 : Slot "str" name id) (ht : typeOf (Value.builtin id) = pure (Value.type "method_descriptor")) (o : MtR X id r) (i : OpM (@rV X.K ks) r f) (ho : EP' ks X W a ma) (h : EPA ks X W (e :: es) mas)
    (h1 : attributeBase a name X.env (eval a X.env) = eval a X.env := by rfl)
    (h2 : ((((backTo cpos (starEach (e :: es) X.env)).all fun x => !x.fst) && (backToKw cpos (keywordEach [] X.env)).all fun x => x.fst.isSome) && decide (((e :: es).length + ([] : List Keyword).length + if ([] : List Keyword).isEmpty = true then 0 else 1) < 30)) = true := by rfl)
    (h3 : (apos.endLine == cpos.line) = true := by rfl) (hs : starEach (e :: es) X.env = (false, eval e X.env) :: starEach es X.env := by rfl) (hpl : (backTo cpos (starEach es X.env)).any (·.1) = false := by rfl) :
    EV ks X W (.Call (.Attribute a name apos) (e :: es) [] cpos) (mMt f ma mas) := let ⟨_, g1, g2⟩ := ho; let ⟨_, k1, k2⟩ := h; ⟨_, pe_bm PySem.F.plainAttrs_str hs0 ht o g1 k1 h1 h2 h3 hs hpl, im_bm rV_mono i g2 k2⟩
end
end Og

set_option Elab.async false
set_option linter.all false
set_option maxRecDepth 100000
set_option maxHeartbeats 1000000
namespace Og
open PySem L2
section
variable {ks : FK} {X : Cx} {W : WX} {e a b c : Expr} {es : List Expr} {m ma mb mc : M D} {x y : Str} {q1 pos p2 p3 : Pos} {n1 n2 : MS} {na nb : M Bool} {mas : M (List D)} {st : Stmt} {sts : List Stmt}
/-! one reading for many contexts -/
theorem uni_e {ι : Type} {Y : ι → Cx} {K : PySem.W.Frag} {mg : Str → Option Value} (h : ∀ i, ∃ t, PE (Y i) e t ∧ IV K ks mg W t m) : ∃ t, (∀ i, PE (Y i) e t) ∧ IV K ks mg W t m := by
  refine ⟨fun σ H Q => ∀ i, Classical.choose (h i) σ H Q, fun i => ⟨fun pins s σ H Q I z => (Classical.choose_spec (h i)).1.run pins s σ H Q I (z i)⟩, ?_⟩
  exact fun Z ad σ H B s Q rp q i => (Classical.choose_spec (h i)).2 Z ad σ H B s Q rp q
theorem uni_t {ι : Type} {Y : ι → Cx} {K : PySem.W.Frag} {mg : Str → Option Value} {ifs : List Expr} (h : ∀ i, ∃ t, PTs (Y i) ifs t ∧ IB K ks mg W t na) : ∃ t, (∀ i, PTs (Y i) ifs t) ∧ IB K ks mg W t na := by
  refine ⟨fun σ H Q => ∀ i, Classical.choose (h i) σ H Q, fun i => ⟨fun pins s σ H Q I z => (Classical.choose_spec (h i)).1.run pins s σ H Q I (z i)⟩, ?_⟩
  exact fun Z ad σ H B s Q rp q i => (Classical.choose_spec (h i)).2 Z ad σ H B s Q rp q
theorem uni_s {ι : Type} {Y : ι → Cx} {K : PySem.W.Frag} {mg : Str → Option Value} (h : ∀ i, ∃ t, PSs (Y i) sts t ∧ IS K ks mg W t n1) : ∃ t, (∀ i, PSs (Y i) sts t) ∧ IS K ks mg W t n1 := by
  refine ⟨fun D σ H => ∀ i, Classical.choose (h i) D σ H, fun i => ⟨fun pins s σ H D I z => (Classical.choose_spec (h i)).1.run pins s σ H D I (z i)⟩, ?_⟩
  exact fun Z ad σ H B s D rp q i => (Classical.choose_spec (h i)).2 Z ad σ H B s D rp q
/-! blocks -/
theorem ess_nil : ESs ks X W [] (fun s => .nx s) := ⟨_, pss_nil, is_nil⟩
theorem ess_cons (h : ES ks X W st n1) (r : ESs ks X W sts n2) : ESs ks X W (st :: sts) (seqS n1 n2) := let ⟨_, h1, h2⟩ := h; let ⟨_, g1, g2⟩ := r; ⟨_, pss_cons h1 g1, is_seq h2 g2⟩
theorem es_ret (h : EV ks X W e m) : ES ks X W (.Return (some e) pos) (bindS m fun d s => .rt d s) := let ⟨_, h1, h2⟩ := h; ⟨_, ps_ret h1, is_ret h2⟩
theorem es_if (hc : ET ks X W c na) (h : ESs ks X W sts n1) {sts2 : List Stmt} (h2 : ESs ks X W sts2 n2) : ES ks X W (.If c sts sts2 pos) (ifS na n1 n2) := let ⟨_, k1, k2⟩ := hc; let ⟨_, h1, h3⟩ := h; let ⟨_, g1, g2⟩ := h2; ⟨_, ps_if k1 h1 g1, is_if k2 h3 g2⟩
theorem es_while (n : Nat) (hp : PassesOwn (model X.prog X.w) X.A X.env X.xe) (hc : ET ks X W c na) (h : ESs ks X W sts n1) : ES ks X W (.While c sts [] pos) (whileS na n1 n) := let ⟨_, k1, k2⟩ := hc; let ⟨_, h1, h3⟩ := h; ⟨_, ps_while hp k1 h1, is_while n k2 h3⟩
theorem es_brk : ES ks X W (.Break pos) (fun s => .bk s) := ⟨_, ps_break, is_brk⟩
theorem es_cont : ES ks X W (.Continue pos) (fun s => .ct s) := ⟨_, ps_continue, is_cont⟩
theorem es_set (i : Nat) (nd : X.N.Nodup) (h : EV ks X W e m) (hN : X.N[i]? = some x := by rfl) (hl : L2.Loc X.env.scope x := by first | exact Or.inl rfl | exact Or.inr rfl) (hs : swapsWith e (some (Expr.Name x p2)) pos.line X.env = pure false := by rfl) (hf : X.fn x = true ∨ List.lookup x X.env.scope.names = some NameKind.local := by first | exact Or.inl rfl | exact Or.inr rfl) :
    ES ks X W (.Assign [.Name x p2] e pos) (asgV i m) := let ⟨_, h1, h2⟩ := h; ⟨_, ps_set nd hN hl h1 hs hf, is_asg i h2⟩
theorem es_setL (i : Nat) (nd : X.N.Nodup) (h : EL ks X W e m) (hN : X.N[i]? = some x := by rfl) (hl : L2.Loc X.env.scope x := by first | exact Or.inl rfl | exact Or.inr rfl) (hs : swapsWith e (some (Expr.Name x p2)) pos.line X.env = pure false := by rfl) (hf : X.fn x = true ∨ List.lookup x X.env.scope.names = some NameKind.local := by first | exact Or.inl rfl | exact Or.inr rfl) :
    ES ks X W (.Assign [.Name x p2] e pos) (asgL i m) := let ⟨_, h1, h2⟩ := h; ⟨_, ps_set nd hN hl h1 hs hf, is_asgL i h2⟩
theorem es_par (i j : Nat) {px py pt pt2 : Pos} {kt k2 : Nat} (hc : X.calm = true) (nd : X.N.Nodup) (ne : i ≠ j) (h : EA ks X W [a, b] mas) (hi : X.N[i]? = some x := by rfl) (hj : X.N[j]? = some y := by rfl) (l1 : X.env.scope.names.lookup x = some .local := by rfl) (l2 : X.env.scope.names.lookup y = some .local := by rfl)
    (hs : swappedStores [Expr.Tuple [Expr.Name x px, Expr.Name y py] kt pt] (Expr.Tuple [a, b] k2 pt2) X.env = pure (some [x, y]) := by rfl) (hs2 : swapsWithSole [Expr.Tuple [Expr.Name x px, Expr.Name y py] kt pt] (Expr.Tuple [a, b] k2 pt2) pos.line X.env = pure false := by rfl) :
    ES ks X W (.Assign [.Tuple [.Name x px, .Name y py] kt pt] (.Tuple [a, b] k2 pt2) pos) (parS i j mas) := let ⟨_, h1, h2⟩ := h; ⟨_, ps_par hc nd hi hj ne l1 l2 h1 hs hs2, is_par i j h2⟩

/-! the first of several is a new list -/
def rLA {K : PySem.W.Frag} : Rl K ks (List V) (List D) := fun Z ad s H B Hs vs ds => ∃ v vr d dr, vs = v :: vr ∧ ds = d :: dr ∧ rL Z ad s H B Hs v d ∧ DdA K Z.fa B vr dr
theorem rLA_mono {K : PySem.W.Frag} : Mono (@rLA ks K) := fun _ _ _ _ _ _ _ _ _ f h => by
  obtain ⟨v, vr, d, dr, h1, h2, h3, h4⟩ := h
  exact ⟨v, vr, d, dr, h1, h2, rL_mono _ _ _ _ _ _ _ _ _ f h3, h4⟩
theorem rL_step {K : PySem.W.Frag} {Z : Zt K ks} {ad : Nat → Addr} {s s' : Sto} {H B H' B' Hs : Hp} {v : V} {d : D} (st : Stp Z ad s s' H B H' B') (h : rL Z ad s H B Hs v d) : rL Z ad s' H' B' Hs v d := by
  obtain ⟨ds, a, xs, h1, h2, h3, h4, h5, h6, h7, h8, h9⟩ := h
  refine ⟨ds, a, xs, h1, h2, h3, st.fr _ _ h3 h4, h5.mono st.bb, ?_, h7, h8, fun i es e => h9 i es (st.ow i es e)⟩
  cases q : B' a with
  | none => rfl
  | some o =>
    rcases st.nw a o q with z | z | ⟨i, es, z, z2⟩
    · rw [h6] at z
      cases z
    · rw [h4] at z
      cases z
    · exact absurd z2 (h9 i es z)
theorem im_lacons {K : PySem.W.Frag} {mg : Str → Option Value} {ta : TE} {tr : TA} (ha : IL K ks mg W ta ma) (hr : IA K ks mg W tr mas) : Im mg W (@rLA ks K) (tCons ta tr) (mCons ma mas) := by
  intro Z ad σ H B s Q rp h
  refine ha Z ad σ H B s _ rp ?_
  simp only [mCons, bindM] at h
  cases e : ma s with
  | exc x s1 => rw [e] at h; exact h
  | bad => rw [e] at h; exact h
  | ok d s1 =>
    rw [e] at h
    intro v H1 B1 rp1 st hx
    refine hr Z ad σ H1 B1 s1 _ rp1 ?_
    cases e2 : mas s1 with
    | exc x s2 =>
      simp only [e2] at h
      exact fun cls dd H' B' rp' st' r => h cls dd H' B' rp' (st.trans st') r
    | bad => simp only [e2] at h; exact h
    | ok r s2 =>
      simp only [e2] at h
      intro vr H2 B2 rp2 st2 hy
      exact h (v :: vr) H2 B2 rp2 (st.trans st2) ⟨v, vr, d, r, rfl, rfl, rL_step st2 hx, hy⟩
/-- x, y = [..], e -/
def parLS (i j : Nat) (m : M (List D)) : MS := bindS m fun ds s => match ds with
  | [.lst as, b] => if i = j then .bad else .nx ((s.put i (.own as)).put j (.val b))
  | _ => .bad
theorem put_own_ne {s : Sto} {i j : Nat} {ds es : List D} (h : (s.put i (.own ds)).at j = .own es) (n : j ≠ i) : s.at j = .own es := by
  rw [Sto.at_put_ne n] at h
  exact h
theorem is_parL {K : PySem.W.Frag} {mg : Str → Option Value} {ta : TA} (i j : Nat) (h : Im mg W (@rLA ks K) ta mas) : IS K ks mg W (tPar i j ta) (parLS i j mas) :=
  is_bind (u := fun (vs : List V) (D : Ends) (σ : L2.St) (H : Hp) => ∃ v w, vs = [v, w] ∧ D.nx ((σ.set i (some v)).set j (some w)) H) h fun ds x Z ad σ H B s D Hs rp r q => by
    obtain ⟨v, vr, d, dr, rfl, rfl, h3, h4⟩ := r
    obtain ⟨as, a, xs, rfl, rfl, g3, g4, g5, g6, g7, g8, g9⟩ := h3
    match dr, h4, q with
    | [b], h4, q =>
      cases h4 with
      | cons k1 k2 =>
        cases k2
        by_cases c : i = j
        · simp only [if_pos c] at q
          exact q.elim
        · simp only [if_neg c] at q
          have r1 := rp.putOwn i g3 g4 g5 g6 g7 fun k es _ z => g9 k es z
          exact ⟨_, _, rfl, q _ _ H B (r1.put j k1) (Same.refl _)⟩
theorem es_parL (i j : Nat) {px py pt pt2 : Pos} {kt k2 : Nat} (hc : X.calm = true) (nd : X.N.Nodup) (ne : i ≠ j) (ha : EL ks X W a ma) (hb : EV ks X W b mb) (hi : X.N[i]? = some x := by rfl) (hj : X.N[j]? = some y := by rfl) (l1 : X.env.scope.names.lookup x = some .local := by rfl) (l2 : X.env.scope.names.lookup y = some .local := by rfl)
    (hs : swappedStores [Expr.Tuple [Expr.Name x px, Expr.Name y py] kt pt] (Expr.Tuple [a, b] k2 pt2) X.env = pure (some [x, y]) := by rfl) (hs2 : swapsWithSole [Expr.Tuple [Expr.Name x px, Expr.Name y py] kt pt] (Expr.Tuple [a, b] k2 pt2) pos.line X.env = pure false := by rfl)
    (s1 : starEach [a, b] X.env = (false, eval a X.env) :: starEach [b] X.env := by rfl) (s2 : starEach [b] X.env = (false, eval b X.env) :: starEach [] X.env := by rfl) :
    ES ks X W (.Assign [.Tuple [.Name x px, .Name y py] kt pt] (.Tuple [a, b] k2 pt2) pos) (parLS i j (mCons ma (mCons mb (retM [])))) := by
  obtain ⟨_, h1, h2⟩ := ha
  obtain ⟨_, g1, g2⟩ := hb
  exact ⟨_, ps_par hc nd hi hj ne l1 l2 (pa_cons h1 (pa_cons g1 pa_nil s2) s1) hs hs2, is_parL i j (im_lacons h2 (im_acons g2 im_anil))⟩
/-- x, y, z, w = [..], e, f, g: a tuple is made and taken apart -/
def par4S (i j k l : Nat) (m : M (List D)) : MS := bindS m fun ds s => match ds with
  | [.lst as, b, c, d] => if j ≠ i ∧ k ≠ i ∧ l ≠ i then .nx ((((s.put i (.own as)).put j (.val b)).put k (.val c)).put l (.val d)) else .bad
  | _ => .bad
theorem is_par4 {K : PySem.W.Frag} {mg : Str → Option Value} {ta : TA} (i j k l : Nat) (h : Im mg W (@rLA ks K) ta mas) :
    IS K ks mg W (tAsg (tTup ta) (gTup K 4 (gCons (gName i) (gCons (gName j) (gCons (gName k) (gCons (gName l) gNil)))))) (par4S i j k l mas) :=
  is_bind (u := fun (vs : List V) (D : Ends) (σ : L2.St) (H : Hp) => vs.length ≤ sizeLine ∧ ∀ p, H p = none → (gTup K 4 (gCons (gName i) (gCons (gName j) (gCons (gName k) (gCons (gName l) gNil))))) (.ref p) σ (upd H p (.tup vs)) D.nx) h fun ds x Z ad σ H B s D Hs rp r q => by
    obtain ⟨v, vr, d, dr, rfl, rfl, h3, h4⟩ := r
    obtain ⟨as, a, xs, rfl, rfl, g3, g4, g5, g6, g7, g8, g9⟩ := h3
    match dr, h4, q with
    | [d1, d2, d3], h4, q =>
      cases h4 with
      | cons k1 h4 =>
        cases h4 with
        | cons k2 h4 =>
          cases h4 with
          | cons k3 h4 =>
            cases h4
            by_cases c : j ≠ i ∧ k ≠ i ∧ l ≠ i
            · simp only [if_pos c] at q
              refine ⟨by show 4 ≤ sizeLine; decide, fun p hp => ?_⟩
              obtain ⟨rp2, st⟩ := rp.made (.tup _) hp
              have r1 := rp2.putOwn i g3 (upd_keep hp g4) g5 g6 g7 fun k es _ z => g9 k es z
              exact ⟨p, _, rfl, .inl (.inl upd_same), rfl, _, _, rfl, _, _, rfl, _, _, rfl, _, _, rfl, rfl, q _ _ _ B (((r1.put j k1).put k k2).put l k3) (Same.refl _)⟩
            · simp only [if_neg c] at q
              exact q.elim
theorem es_par4 (i j k l : Nat) {z w : Str} {d : Expr} {px py pz pw pt pt2 : Pos} {kt k2 : Nat} {md : M D} (hc : X.calm = true) (nd : X.N.Nodup) (ha : EL ks X W a ma) (hb : EV ks X W b mb) (h3 : EV ks X W c mc) (h4 : EV ks X W d md)
    (hi : X.N[i]? = some x := by rfl) (hj : X.N[j]? = some y := by rfl) (hk : X.N[k]? = some z := by rfl) (hl : X.N[l]? = some w := by rfl)
    (l1 : L2.Loc X.env.scope x := by first | exact Or.inl rfl | exact Or.inr rfl) (l2 : L2.Loc X.env.scope y := by first | exact Or.inl rfl | exact Or.inr rfl) (l3 : L2.Loc X.env.scope z := by first | exact Or.inl rfl | exact Or.inr rfl) (l4 : L2.Loc X.env.scope w := by first | exact Or.inl rfl | exact Or.inr rfl)
    (f1 : X.fn x = true ∨ X.env.scope.names.lookup x = some .local := by first | exact Or.inl rfl | exact Or.inr rfl) (f2 : X.fn y = true ∨ X.env.scope.names.lookup y = some .local := by first | exact Or.inl rfl | exact Or.inr rfl) (f3 : X.fn z = true ∨ X.env.scope.names.lookup z = some .local := by first | exact Or.inl rfl | exact Or.inr rfl) (f4 : X.fn w = true ∨ X.env.scope.names.lookup w = some .local := by first | exact Or.inl rfl | exact Or.inr rfl)
    (s1 : starEach [a, b, c, d] X.env = (false, eval a X.env) :: starEach [b, c, d] X.env := by rfl) (s2 : starEach [b, c, d] X.env = (false, eval b X.env) :: starEach [c, d] X.env := by rfl) (s3 : starEach [c, d] X.env = (false, eval c X.env) :: starEach [d] X.env := by rfl) (s4 : starEach [d] X.env = (false, eval d X.env) :: starEach [] X.env := by rfl)
    (t1 : swapsWithSole [Expr.Tuple [.Name x px, .Name y py, .Name z pz, .Name w pw] kt pt] (Expr.Tuple [a, b, c, d] k2 pt2) pos.line X.env = pure false := by rfl) (t2 : swappedStores [Expr.Tuple [.Name x px, .Name y py, .Name z pz, .Name w pw] kt pt] (Expr.Tuple [a, b, c, d] k2 pt2) X.env = pure none := by rfl) :
    ES ks X W (.Assign [.Tuple [.Name x px, .Name y py, .Name z pz, .Name w pw] kt pt] (.Tuple [a, b, c, d] k2 pt2) pos) (par4S i j k l (mCons ma (mCons mb (mCons mc (mCons md (retM [])))))) := by
  obtain ⟨_, h1, h2⟩ := ha
  obtain ⟨_, g1, g2⟩ := hb
  obtain ⟨_, u1, u2⟩ := h3
  obtain ⟨_, w1, w2⟩ := h4
  refine ⟨_, ps_asg (pe_tup (pa_cons h1 (pa_cons g1 (pa_cons u1 (pa_cons w1 pa_nil s4) s3) s2) s1)) (pg_tup (n := 4) hc (pgs_cons (pg_name (i := i) nd hi l1 f1) (pgs_cons (pg_name (i := j) nd hj l2 f2) (pgs_cons (pg_name (i := k) nd hk l3 f3) (pgs_cons (pg_name (i := l) nd hl l4 f4) pgs_nil)))) rfl rfl) t1 t2 rfl, ?_⟩
  exact is_par4 i j k l (im_lacons h2 (im_acons g2 (im_acons u2 (im_acons w2 im_anil))))
/-! loops -/
theorem ew_list {tg : Expr} (h : EV ks X W e m) : EW ks X W tg e (bindM m asL) := let ⟨_, h1, h2⟩ := h; ⟨_, pi_list h1, iw_list h2⟩
theorem ew_tup {tg : Expr} (h : EV ks X W e m) : EW ks X W tg e (bindM m asT) := let ⟨_, h1, h2⟩ := h; ⟨_, pi_tup h1, iw_tup h2⟩
theorem ew_str {tg : Expr} (h : EP' ks X W e m) : EW ks X W tg e (bindM m asC) := let ⟨_, h1, h2⟩ := h; ⟨_, pi_str h1, iw_str h2⟩
theorem ew_range {tg : Expr} (hm : X.mg "range" = none) (h : EP' ks X W e m) (hg : Gl X "range" := by rfl) (hs : starEach [e] X.env = [(false, eval e X.env)] := by rfl) (hs2 : starEach [e] X.env = (false, eval e X.env) :: starEach [] X.env := by rfl) :
    EW ks X W tg (.Call (.Name "range" q1) [e] [] pos) (bindM m asR) := let ⟨_, h1, h2⟩ := h; ⟨_, pi_range1 hg hm (pa_cons h1 pa_nil hs2) hs, iw_range h2⟩
theorem es_for (i : Nat) (hp : PassesOwn (model X.prog X.w) X.A X.env X.xe) (hc : X.calm = true) (nd : X.N.Nodup) (hw : EW ks X W (.Name x p2) e mas) (hb : ESs ks X W sts n1) (hN : X.N[i]? = some x := by rfl) (hl : L2.Loc X.env.scope x := by first | exact Or.inl rfl | exact Or.inr rfl)
    (hf : X.fn x = true ∨ X.env.scope.names.lookup x = some .local := by first | exact Or.inl rfl | exact Or.inr rfl) (hs : ∀ v : Value, foldedSetIterable e X.env v = pure v := by intro _; rfl) : ES ks X W (.For (.Name x p2) e sts [] pos) (mFor (tgN i) mas n1) :=
  let ⟨_, h1, h2⟩ := hw; let ⟨_, g1, g2⟩ := hb; ⟨_, ps_for hp hc h1 (pg_name (i := i) nd hN hl hf) g1 hs, is_for h2 (tg_name i) g2⟩
theorem es_for2 (i j : Nat) {pt px py : Pos} {kt : Nat} (hp : PassesOwn (model X.prog X.w) X.A X.env X.xe) (hc : X.calm = true) (nd : X.N.Nodup) (hw : EW ks X W (.Tuple [.Name x px, .Name y py] kt pt) e mas) (hb : ESs ks X W sts n1) (hi : X.N[i]? = some x := by rfl) (hj : X.N[j]? = some y := by rfl)
    (l1 : L2.Loc X.env.scope x := by first | exact Or.inl rfl | exact Or.inr rfl) (l2 : L2.Loc X.env.scope y := by first | exact Or.inl rfl | exact Or.inr rfl)
    (f1 : X.fn x = true ∨ X.env.scope.names.lookup x = some .local := by first | exact Or.inl rfl | exact Or.inr rfl) (f2 : X.fn y = true ∨ X.env.scope.names.lookup y = some .local := by first | exact Or.inl rfl | exact Or.inr rfl)
    (hs : ∀ v : Value, foldedSetIterable e X.env v = pure v := by intro _; rfl) : ES ks X W (.For (.Tuple [.Name x px, .Name y py] kt pt) e sts [] pos) (mFor (tg2 i j) mas n1) :=
  let ⟨_, h1, h2⟩ := hw; let ⟨_, g1, g2⟩ := hb; ⟨_, ps_for hp hc h1 (pg_tup (n := 2) hc (pgs_cons (pg_name (i := i) nd hi l1 f1) (pgs_cons (pg_name (i := j) nd hj l2 f2) pgs_nil)) rfl rfl) g1 hs, is_for h2 (tg_two i j) g2⟩
/-! x.append(e), x.extend(e) -/
theorem es_append (i : Nat) {apos cpos : Pos} (h : EV ks X W e m) (hN : X.N[i]? = some x := by rfl) (hv : Vis X.env.scope x := by first | exact Or.inl rfl | exact Or.inr (Or.inl rfl) | exact Or.inr (Or.inr rfl)) (hd : (x == ("__debug__" : Str)) = false := by decide) (hcd : (x == ("__classdict__" : Str)) = false := by decide)
    (h1 : attributeBase (.Name x p2) "append" X.env (eval (.Name x p2) X.env) = eval (.Name x p2) X.env := by rfl)
    (h2 : ((((backTo cpos (starEach [e] X.env)).all fun x => !x.fst) && (backToKw cpos (keywordEach [] X.env)).all fun x => x.fst.isSome) && decide (([e].length + ([] : List Keyword).length + if ([] : List Keyword).isEmpty = true then 0 else 1) < 30)) = true := by rfl)
    (h3 : (apos.endLine == cpos.line) = true := by rfl) (hs : starEach [e] X.env = (false, eval e X.env) :: starEach [] X.env := by rfl) (hpl : (backTo cpos (starEach [] X.env)).any (·.1) = false := by rfl)
    (hw : swapsWith (.Call (.Attribute (.Name x p2) "append" apos) [e] [] cpos) none pos.line X.env = pure false := by rfl) : ES ks X W (.Expr (.Call (.Attribute (.Name x p2) "append" apos) [e] [] cpos) pos) (appS i m) :=
  let ⟨_, g1, g2⟩ := h; ⟨_, ps_expr (pe_bm PySem.F.plainAttrs_list PySem.F.slot_list_append PySem.F.type_list_append mt_append (pe_var hN hv hd hcd) (pa_cons g1 pa_nil hs) h1 h2 h3 hs hpl) hw, is_append i g2⟩
theorem es_extend (i : Nat) {apos cpos : Pos} (h : EP' ks X W e m) (hN : X.N[i]? = some x := by rfl) (hv : Vis X.env.scope x := by first | exact Or.inl rfl | exact Or.inr (Or.inl rfl) | exact Or.inr (Or.inr rfl)) (hd : (x == ("__debug__" : Str)) = false := by decide) (hcd : (x == ("__classdict__" : Str)) = false := by decide)
    (h1 : attributeBase (.Name x p2) "extend" X.env (eval (.Name x p2) X.env) = eval (.Name x p2) X.env := by rfl)
    (h2 : ((((backTo cpos (starEach [e] X.env)).all fun x => !x.fst) && (backToKw cpos (keywordEach [] X.env)).all fun x => x.fst.isSome) && decide (([e].length + ([] : List Keyword).length + if ([] : List Keyword).isEmpty = true then 0 else 1) < 30)) = true := by rfl)
    (h3 : (apos.endLine == cpos.line) = true := by rfl) (hs : starEach [e] X.env = (false, eval e X.env) :: starEach [] X.env := by rfl) (hpl : (backTo cpos (starEach [] X.env)).any (·.1) = false := by rfl)
    (hw : swapsWith (.Call (.Attribute (.Name x p2) "extend" apos) [e] [] cpos) none pos.line X.env = pure false := by rfl) : ES ks X W (.Expr (.Call (.Attribute (.Name x p2) "extend" apos) [e] [] cpos) pos) (extS i m) :=
  let ⟨_, g1, g2⟩ := h; ⟨_, ps_expr (pe_bm PySem.F.plainAttrs_list PySem.F.slot_list_extend PySem.F.type_list_extend mt_extend (pe_var hN hv hd hcd) (pa_cons g1 pa_nil hs) h1 h2 h3 hs hpl) hw, is_extend i g2⟩
/-! comprehensions -/
abbrev BlkE (ks : FK) (X : Cx) (scope : Scope) (e : Expr) (m : M D) : Prop := ∀ (s : Shared) (H : Hp) (C : Addr) (cl : List (Str × Addr)) (fp : List Addr), EV ks (X.blk s H scope (compEnvC scope cl C X.env) fp) W0 e m
abbrev BlkT (ks : FK) (X : Cx) (scope : Scope) (e : Expr) (m : M Bool) : Prop := ∀ (s : Shared) (H : Hp) (C : Addr) (cl : List (Str × Addr)) (fp : List Addr), ET ks (X.blk s H scope (compEnvC scope cl C X.env) fp) W0 e m
theorem el_lc (i : Nat) {scope : Scope} (hc : X.calm = true) (nd : X.N.Nodup) (hw : EW ks X W (.Name x p2) e mas) (hk : blkC X.N X.env.scope scope [(x, i)] = true) (he : BlkE ks X scope a ma)
    (hN : X.N[i]? = some x := by rfl) (hl : ∀ (s : Shared) (H : Hp) (C : Addr) (cl : List (Str × Addr)) (fp : List Addr), L2.Loc (X.blk s H scope (compEnvC scope cl C X.env) fp).env.scope x := by intros; first | exact Or.inl rfl | exact Or.inr rfl)
    (hf : ∀ (s : Shared) (H : Hp) (C : Addr) (cl : List (Str × Addr)) (fp : List Addr), (X.blk s H scope (compEnvC scope cl C X.env) fp).fn x = true ∨ (X.blk s H scope (compEnvC scope cl C X.env) fp).env.scope.names.lookup x = some .local := by intros; first | exact Or.inr rfl | exact Or.inl rfl)
    (hs : ∀ v : Value, foldedSetIterable e X.env v = pure v := by intro _; rfl) : EL ks X W (.ListComp a [{ target := .Name x p2, iter := e, ifs := [], is_async := 0 }] scope pos) (lcM [i] (tgN i) (retM true) ma mas) := by
  obtain ⟨_, h1, h2⟩ := hw
  obtain ⟨te, g1, g2⟩ := uni_e (ι := Shared × Hp × Addr × List (Str × Addr) × List Addr) (Y := fun z => X.blk z.1 z.2.1 scope (compEnvC scope z.2.2.2.1 z.2.2.1 X.env) z.2.2.2.2) fun z => he z.1 z.2.1 z.2.2.1 z.2.2.2.1 z.2.2.2.2
  exact ⟨_, pe_lc (own := [(x, i)]) (g := gName i) (tt := tYes) hc nd h1 (blkOk_by hk) (fun s H C cl fp => pg_name (i := i) nd hN (hl s H C cl fp) (hf s H C cl fp)) (fun _ _ _ _ _ => pts_nil) (fun s H C cl fp => g1 (s, H, C, cl, fp)) hs, im_lc h2 (lc_name i) im_yes g2⟩
theorem el_lcIf (i : Nat) {scope : Scope} (hc : X.calm = true) (nd : X.N.Nodup) (hw : EW ks X W (.Name x p2) e mas) (hk : blkC X.N X.env.scope scope [(x, i)] = true) (ht : BlkT ks X scope b na) (he : BlkE ks X scope a ma)
    (hN : X.N[i]? = some x := by rfl) (hl : ∀ (s : Shared) (H : Hp) (C : Addr) (cl : List (Str × Addr)) (fp : List Addr), L2.Loc (X.blk s H scope (compEnvC scope cl C X.env) fp).env.scope x := by intros; first | exact Or.inl rfl | exact Or.inr rfl)
    (hf : ∀ (s : Shared) (H : Hp) (C : Addr) (cl : List (Str × Addr)) (fp : List Addr), (X.blk s H scope (compEnvC scope cl C X.env) fp).fn x = true ∨ (X.blk s H scope (compEnvC scope cl C X.env) fp).env.scope.names.lookup x = some .local := by intros; first | exact Or.inr rfl | exact Or.inl rfl)
    (hs : ∀ v : Value, foldedSetIterable e X.env v = pure v := by intro _; rfl) : EL ks X W (.ListComp a [{ target := .Name x p2, iter := e, ifs := [b], is_async := 0 }] scope pos) (lcM [i] (tgN i) na ma mas) := by
  obtain ⟨_, h1, h2⟩ := hw
  obtain ⟨te, g1, g2⟩ := uni_e (ι := Shared × Hp × Addr × List (Str × Addr) × List Addr) (Y := fun z => X.blk z.1 z.2.1 scope (compEnvC scope z.2.2.2.1 z.2.2.1 X.env) z.2.2.2.2) fun z => he z.1 z.2.1 z.2.2.1 z.2.2.2.1 z.2.2.2.2
  obtain ⟨tt, k1, k2⟩ := uni_t (ι := Shared × Hp × Addr × List (Str × Addr) × List Addr) (ifs := [b]) (Y := fun z => X.blk z.1 z.2.1 scope (compEnvC scope z.2.2.2.1 z.2.2.1 X.env) z.2.2.2.2) fun z => let ⟨t, r1, r2⟩ := ht z.1 z.2.1 z.2.2.1 z.2.2.2.1 z.2.2.2.2; ⟨t, pts_one r1, r2⟩
  exact ⟨_, pe_lc (own := [(x, i)]) (g := gName i) (tt := tt) hc nd h1 (blkOk_by hk) (fun s H C cl fp => pg_name (i := i) nd hN (hl s H C cl fp) (hf s H C cl fp)) (fun s H C cl fp => k1 (s, H, C, cl, fp)) (fun s H C cl fp => g1 (s, H, C, cl, fp)) hs, im_lc h2 (lc_name i) k2 g2⟩
/-! raise, try -/
theorem es_raise {k : Nat} {f g : Str} (E : ErrC X.prog X.w X.K X.mg X.base k x f g) (hc : X.calm = true) (hr : Room (k + 1) X.A) (tk : Takes X W) (h : EA ks X W (e :: es) mas) (hg : Gl X x := by rfl) (hdb : (x == ("__debug__" : Str)) = false := by decide)
    (hs : starEach (e :: es) X.env = (false, eval e X.env) :: starEach es X.env := by rfl) (hpl : (backTo p3 (starEach es X.env)).any (·.1) = false := by rfl) : ES ks X W (.Raise (some (.Call (.Name x q1) (e :: es) [] p3)) none pos) (raiseS x f g mas) := by
  obtain ⟨C, fI, fd, ps, h1, h2, h3, h4, h5, h6⟩ := E.ex
  obtain ⟨t, g1, g2⟩ := h
  exact ⟨_, ps_raise hc tk (pmk_oex h1 h2 h3 h4 hr h5 .nil passL hg h6 g1 hdb hs hpl), is_raise h6 g2⟩
theorem es_try {C : Addr} {st0 : Stmt} {suite : List Stmt} {np pos' : Pos} {ms : Xc → MS} {ts : Addr → Value → Option Addr → TS} (h1 : X.stack = X.env :: X.outer) (h2 : X.env.frame = some X.env.locals) (hm : X.mg x = some (.ref C)) (he : PySem.W.exmOne X.K (.ref C) (.ref C) = some true) (tk : Takes X W)
    (hb : ∀ (W' : WX) (pn : List (Addr × Obj)) (xe : Value → Shared → Prop), Takes (X.tr pn xe) W' → PassesOwn (model X.prog X.w) X.A X.env xe → ESs ks (X.tr pn xe) W' sts n1)
    (hs : ∀ (a : Addr) (oe : Obj) (cls : Value) (d : Option Addr) (pn : List (Addr × Obj)), Zc cls d oe → (∃ vs, oe.data = Data.fields vs) → PSs (X.suite a ((a, oe) :: pn)) (st0 :: suite) (ts a cls d)) (hi : ISx X.K ks X.mg W ts ms)
    (hg : Gl X x := by rfl) (hd : (x == ("__debug__" : Str)) = false := by decide) : ES ks X W (.Try sts [ExceptHandler.ExceptHandler (some (.Name x np)) none (st0 :: suite) pos'] [] [] pos) (tryS x n1 ms) := by
  have hb2 : ∀ W' : WX, ∃ t, (∀ (pn : List (Addr × Obj)) (xe : Value → Shared → Prop), Takes (X.tr pn xe) W' → PassesOwn (model X.prog X.w) X.A X.env xe → PSs (X.tr pn xe) sts t) ∧ IS X.K ks X.mg W' t n1 := fun W' => by
    obtain ⟨t, r1, r2⟩ := uni_s (ks := ks) (W := W') (n1 := n1) (K := X.K) (mg := X.mg) (ι := { z : List (Addr × Obj) × (Value → Shared → Prop) // Takes (X.tr z.1 z.2) W' ∧ PassesOwn (model X.prog X.w) X.A X.env z.2 }) (Y := fun z => X.tr z.1.1 z.1.2) (sts := sts) fun z => hb W' z.1.1 z.1.2 z.2.1 z.2.2
    exact ⟨t, fun pn xe a b => r1 ⟨(pn, xe), a, b⟩, r2⟩
  exact ⟨_, ps_try_only (tb := fun W' => Classical.choose (hb2 W')) h1 h2 ⟨hg, hd, .inl hm⟩ tk (fun W' pn xe a b => (Classical.choose_spec (hb2 W')).1 pn xe a b) hs, is_try hm he (fun W' => (Classical.choose_spec (hb2 W')).2) hi⟩
theorem es_tryAs (i : Nat) {C : Addr} {st0 : Stmt} {suite : List Stmt} {np pos' : Pos} {ms : Xc → MS} {ts : Addr → Value → Option Addr → TS} {n : Str} (h1 : X.stack = X.env :: X.outer) (h2 : X.env.frame = some X.env.locals) (nd : X.N.Nodup) (hm : X.mg x = some (.ref C)) (he : PySem.W.exmOne X.K (.ref C) (.ref C) = some true) (tk : Takes X W)
    (hb : ∀ (W' : WX) (pn : List (Addr × Obj)) (xe : Value → Shared → Prop), Takes (X.tr pn xe) W' → PassesOwn (model X.prog X.w) X.A X.env xe → ESs ks (X.tr pn xe) W' sts n1)
    (hs : ∀ (a : Addr) (oe : Obj) (cls : Value) (d : Option Addr) (pn : List (Addr × Obj)), Zc cls d oe → (∃ vs, oe.data = Data.fields vs) → PSs (X.suite a ((a, oe) :: pn)) (st0 :: suite) (ts a cls d)) (hi : ISa X.K ks X.mg W i ts ms)
    (hN : X.N[i]? = some n := by rfl) (hk : X.env.kindOf n = some .local := by rfl) (hg : Gl X x := by rfl) (hd : (x == ("__debug__" : Str)) = false := by decide) : ES ks X W (.Try sts [ExceptHandler.ExceptHandler (some (.Name x np)) (some n) (st0 :: suite) pos'] [] [] pos) (tryA x i n1 ms) := by
  have hb2 : ∀ W' : WX, ∃ t, (∀ (pn : List (Addr × Obj)) (xe : Value → Shared → Prop), Takes (X.tr pn xe) W' → PassesOwn (model X.prog X.w) X.A X.env xe → PSs (X.tr pn xe) sts t) ∧ IS X.K ks X.mg W' t n1 := fun W' => by
    obtain ⟨t, r1, r2⟩ := uni_s (ks := ks) (W := W') (n1 := n1) (K := X.K) (mg := X.mg) (ι := { z : List (Addr × Obj) × (Value → Shared → Prop) // Takes (X.tr z.1 z.2) W' ∧ PassesOwn (model X.prog X.w) X.A X.env z.2 }) (Y := fun z => X.tr z.1.1 z.1.2) (sts := sts) fun z => hb W' z.1.1 z.1.2 z.2.1 z.2.2
    exact ⟨t, fun pn xe a b => r1 ⟨(pn, xe), a, b⟩, r2⟩
  exact ⟨_, ps_try_as (i := i) (tb := fun W' => Classical.choose (hb2 W')) h1 h2 nd hN hk ⟨hg, hd, .inl hm⟩ tk (fun W' pn xe a b => (Classical.choose_spec (hb2 W')).1 pn xe a b) hs, is_tryAs hm he (fun W' => (Classical.choose_spec (hb2 W')).2) hi⟩
end
end Og
namespace Og
open PySem L2
section
variable {ks : FK} {X : Cx} {W : WX} {e a b c : Expr} {ma mb mc : M D} {pos : Pos}
theorem et_chain {op op' : CmpOp} {r r' : R2} {f g : D → D → Option D} (o : OpR X (compareOp op) r) (o' : OpR X (compareOp op') r') (i : Op2 (@rV X.K ks) r f) (i' : Op2 (@rV X.K ks) r' g) (ha : EP' ks X W a ma) (hb : EP' ks X W b mb) (hc : EP' ks X W c mc) (hl : lastMarks [op, op'] [b, c] = false := by rfl) :
    ET ks X W (.Compare a [op, op'] [b, c] pos) (bindM (mCh f g ma mb mc) asB) := by
  obtain ⟨_, h1, h2⟩ := ha
  obtain ⟨_, g1, g2⟩ := hb
  obtain ⟨_, k1, k2⟩ := hc
  exact ⟨_, pt_chain o o' h1 g1 k1 hl, im_tB (IV.p (im_chain i i' h2 g2 k2))⟩
/-- THE RULE for a def -/
theorem fn_mkE {P : Program} {w : World} {K : PySem.W.Frag} {mg : Str → Option Value} {base : Heap} {k n : Nat} {x qual : Str} {st : Stmt} {f : Addr} {fd : FuncData} {N ps : List Str} {m : MS} (F : Fun K x qual st f fd) (S : FnScope N ps (defScope st)) (hmg : mg x = some (.ref f)) (hb : Binds K fd ps []) (hn : ps.length = n)
    (hbody : ∀ (cdv : Value) (A : Around) (outer : List Env) (s : Shared) (H : Hp) (E : XK), (cxOf (L2.CX P w) P w K mg base N qual (defScope st) f cdv A outer s H E).A.guards = some [] → Room k (cxOf (L2.CX P w) P w K mg base N qual (defScope st) f cdv A outer s H E).A →
      Takes (cxOf (L2.CX P w) P w K mg base N qual (defScope st) f cdv A outer s H E) (fun cls d _ H => E cls d H) → PassesOwn (model P w) (cxOf (L2.CX P w) P w K mg base N qual (defScope st) f cdv A outer s H E).A (cxOf (L2.CX P w) P w K mg base N qual (defScope st) f cdv A outer s H E).env (cxOf (L2.CX P w) P w K mg base N qual (defScope st) f cdv A outer s H E).xe →
      ESs ks (cxOf (L2.CX P w) P w K mg base N qual (defScope st) f cdv A outer s H E) (fun cls d _ H => E cls d H) (defBody st) m) : FnX P w K mg base ks x (k + 1) n (fnM N.length m) := by
  subst hn
  exact ⟨f, fd, ps, fn_mk F S fun cdv A outer s H E hg hr => hbody cdv A outer s H E ((guards_deeper A _).trans hg) hr (takes_of rfl rfl rfl rfl) (passes_of rfl), hmg, F.kp, hb⟩
end
end Og

set_option Elab.async false
set_option linter.all false
set_option maxRecDepth 100000
set_option maxHeartbeats 2000000
namespace PySem
/-! enumerate(t), t a tuple -/
theorem ogen_new {v : Value} {o : Obj} {G : Heap → Prop} (B : Begins v o G) :
    Meets (Builtin.«enumerate.__new__» ⟨[.type "enumerate", v], []⟩) (fun _ R s => G s.heap ∧
      R (.ok (.ret (.ref (s.heap.push o).objs.size)))
        { s with heap := (s.heap.push o).push { cls := .type "enumerate", data := .fields #[.none, .bool false, .ref s.heap.objs.size, rawInt 0, .none, .none] } }) :=
  .of_wp fun prog w A R s z => by
    obtain ⟨hp, g, d, tk, os⟩ := s
    obtain ⟨z1, z2⟩ := z
    have hsub := sub_enumerate
    have go : ∀ {A' : Around} {E : Value → Shared → Prop} {Q : Value → Shared → Prop}, Q (.ref hp.objs.size) ⟨hp.push o, g, d, tk, os⟩ → wpAny (model prog w) A' (pyIter v) Q E ⟨hp, g, d, tk, os⟩ :=
      fun q => B.iter prog w _ _ ⟨hp, g, d, tk, os⟩ _ z1 q
    wp_walk using go
    refine wpAny_stack_any fun st => wpAny_pure ?_
    split
    · rename_i c _ _ _ _ _
      cases (c == Value.type "enumerate") <;> (wp_walk using go; exact ⟨_, rfl, z2⟩)
    · wp_walk using go
      exact ⟨_, rfl, z2⟩
theorem ogen_call {prog : Program} {w : World} {A : Around} {E : Value → Shared → Prop} {s : Shared} {v : Value} {o : Obj} {G : Heap → Prop} {Q : Value → Shared → Prop} (B : Begins v o G) (z : G s.heap)
    (q : ∀ h', IsEnum h' (s.heap.objs.size + 1) s.heap.objs.size 0 .none → h'.get? s.heap.objs.size = some o → (∀ b o, s.heap.get? b = some o → h'.get? b = some o) → Q (.ref (s.heap.objs.size + 1)) { s with heap := h' }) :
    wpAny (model prog w) A (call (.type "enumerate") [v]) Q E s := by
  refine callType_new F.called_enumerate (by decide) (F.typeCall_enumerate_1 _) (F.newCall_enumerate_1 _) (fun obj => F.args_object_init_2 obj _) F.entry_enumerate_new (ogen_new B) ⟨z, ?_⟩
  have sz : (s.heap.push o).objs.size = s.heap.objs.size + 1 := Heap.size_push ..
  show _ ∧ _
  rw [sz]
  have he : IsEnum ((s.heap.push o).push { cls := .type "enumerate", data := .fields #[.none, .bool false, .ref s.heap.objs.size, rawInt 0, .none, .none] }) (s.heap.objs.size + 1) s.heap.objs.size 0 .none := by
    have k := Heap.get?_push_size (s.heap.push o) (o := { cls := .type "enumerate", data := .fields #[.none, .bool false, .ref s.heap.objs.size, rawInt 0, .none, .none] }) rfl
    rw [sz] at k
    exact k
  exact ⟨⟨_, he, rfl⟩, q _ he (Heap.get?_push_of_some _ (Heap.get?_push_size _ B.free)) fun b o x => Heap.get?_push_of_some _ (Heap.get?_push_of_some _ x)⟩
end PySem
namespace Og
open PySem L2
def IteT (K : PySem.W.Frag) (a : Addr) : It :=
  { go := fun i H => ∃ (xs : List V) (x : V), SqT K H a xs ∧ xs[i]? = some x
    yld := fun i H v H' => ∃ T x, v = .ref T ∧ H T = none ∧ H' = upd H T (.tup [.int (i : Nat), x]) ∧ ∀ xs, SqT K H a xs → xs[i]? = some x
    stop := fun i H => ∃ xs : List V, SqT K H a xs ∧ xs.length = i }
theorem tup_inj {X : Cx} {pins : List (Addr × Obj)} {σ : L2.St} {H : Hp} {s : Shared} {a : Addr} {xs ys : List V} (I : L2.Inv X pins σ H s) (h1 : SqT X.K H a xs) (h2 : SqT X.K H a ys) : xs = ys := I.tuple_inj h1 h2
theorem ogen_turn {P : Program} {w : World} {K : PySem.W.Frag} {elts : List Expr} {kk : Nat} {tpos : Pos} (a e it : Addr) :
    Turn P w K (.Tuple elts kk tpos) (IteT K a) [e, it] e (fun i h => (∃ old, IsEnum h e it ((i : Nat) : Int) old) ∧ h.IsTupleIter it a i ∧ e ≠ it) where
  mem := by simp
  obj := fun i h st b hb => by
    obtain ⟨⟨old, he⟩, ⟨o, ho, hc, hd⟩, _⟩ := st
    rcases List.mem_cons.mp hb with z | z
    · rw [z]
      exact ⟨_, he, fun v q => nomatch q⟩
    · rw [List.mem_singleton.mp z]
      exact ⟨o, ho, fun v q => by rw [hd] at q; cases q⟩
  keep := fun i h h' st k => let ⟨⟨old, he⟩, hi, hne⟩ := st; ⟨⟨old, k e (by simp) _ he⟩, hi.at fun o q => k it (by simp) o q, hne⟩
  item := by
    intro X hP hw hK hc i pins s σ H E I hf st hg
    subst hP hw hK
    obtain ⟨⟨old, he⟩, hit, hne⟩ := st
    obtain ⟨xs, x, hq, hx⟩ := hg
    obtain ⟨its, rv, tp, hz⟩ := I.tuple hq
    obtain ⟨u, hu, ru⟩ := rv.get hx
    have hel : e < s.heap.objs.size := Heap.lt_size he
    have hil : it < s.heap.objs.size := by
      obtain ⟨_, q, _⟩ := hit
      exact Heap.lt_size q
    have nai : a ≠ it := fun z => by
      obtain ⟨o1, q1, c1, _⟩ := hit
      obtain ⟨o2, q2, c2, _⟩ := tp
      rw [z, q1] at q2
      cases q2
      rw [c1] at c2
      exact absurd c2 (by decide)
    have nea : e ≠ a := fun z => by
      obtain ⟨o2, q2, c2, _⟩ := tp
      rw [← z] at q2
      have q3 := he.symm.trans q2
      cases q3
      have c3 : Value.type "enumerate" = Value.type "tuple" := c2
      exact absurd c3 (by decide)
    have hlt : i < its.toArray.size := by
      by_cases c : i < its.toArray.size
      · exact c
      · rw [List.getElem?_eq_none (by simpa using c)] at hu
        cases hu
    have D := Draws.tuple (prog := X.prog) (w := X.w) (A := X.A.in1) (I.ok.hd hc) it a nai its.toArray
    refine wpAny_pyNext_enum_itemD D he ⟨hit, tp⟩ hlt hne (by simp [hne, nea]) fun y h' tk hP ho hs' hT hsz hk => ⟨_, rfl, ?_⟩
    have hy : y = u := by
      have z : its[i]? = some y := by simpa using hP
      rw [hu] at z
      exact (Option.some.inj z).symm
    subst hy
    refine wpAny_letOwnedTupleGo_enum (s := { s with heap := h', toks := tk + 1 }) ho fun h'' he' sb => ?_
    have hT2 : h''.get? s.heap.objs.size = some { cls := .type "tuple", data := .seq #[.int i tk, y] } := (sb.2 _ (Nat.ne_of_gt hel)).trans hT
    have new : ObjOk X.prog X.w (upd H s.heap.objs.size (.tup [.int (i : Nat), x])) h'' s.heap.objs.size (.tup [.int (i : Nat), x]) :=
      ⟨by show 2 ≤ sizeLine; decide, [.int i tk, y], .cons ⟨tk, rfl⟩ (.cons ru .nil), _, hT2, rfl, _, rfl⟩
    have two : ∀ b, b ∉ [e, it] → b ≠ e ∧ b ≠ it := fun b n => ⟨fun z => n (by simp [z]), fun z => n (by simp [z])⟩
    have J := I.turnedNew (ch := [e, it]) (t' := tk + 1) (h' := h'') (fun b ob n q => (sb.2 b (two b n).1).trans (hk b ob (two b n).1 (two b n).2 q)) hf (Nat.le_refl _) new
    refine ⟨.ref s.heap.objs.size, _, J, rfl, ⟨_, x, rfl, I.hok.fresh (Nat.le_refl _), rfl, fun ys hy => ?_⟩, ⟨⟨y, ?_⟩, hs'.1.at fun o q => (sb.2 it (Ne.symm hne)).trans q, hne⟩, fun b hb => ?_⟩
    · rw [tup_inj I hy hq]
      exact hx
    · have e1 : ((i + 1 : Nat) : Int) = (i : Int) + 1 := by omega
      rw [e1]
      exact he'
    · have lt : b < s.heap.objs.size := by
        rcases List.mem_cons.mp hb with z | z
        · rw [z]
          exact hel
        · rw [List.mem_singleton.mp z]
          exact hil
      rw [upd_ne (Nat.ne_of_lt lt)]
      exact (hf b hb).1
  done := by
    intro X hP hw hK hc i pins s σ H E I hf st hg
    subst hP hw hK
    obtain ⟨⟨old, he⟩, hit, hne⟩ := st
    obtain ⟨xs, hq, hx⟩ := hg
    obtain ⟨its, rv, tp, hz⟩ := I.tuple hq
    have nai : a ≠ it := fun z => by
      obtain ⟨o1, q1, c1, _⟩ := hit
      obtain ⟨o2, q2, c2, _⟩ := tp
      rw [z, q1] at q2
      cases q2
      rw [c1] at c2
      exact absurd c2 (by decide)
    have D := Draws.tuple (prog := X.prog) (w := X.w) (A := X.A.in1) (I.ok.hd hc) it a nai its.toArray
    obtain ⟨f0, f1, f2, f3, f4, f5⟩ := hf it (by simp)
    have hl := rv.length
    have hsz : i = its.toArray.size := by
      rw [List.size_toArray]
      omega
    subst hsz
    exact wpAny_pyNext_enum_endD D he ⟨hit, tp⟩ fun h' eb => ⟨rfl, I.turned (t' := s.toks) (fun b o hb q => eb b o hb q) f0 f1 f3 f4 f5⟩
  self := fun A i s Q E st h => let ⟨⟨_, he⟩, _⟩ := st; wpAny_pyIter_enum he h
theorem walk_enumT {K : PySem.W.Frag} {a : Addr} {xs : List V} : Walk (IteT K a) xs.length (fun H => SqT K H a xs) (YPair (fun i => some (.int (i : Nat))) (fun i => xs[i]?)) := by
  refine ⟨fun i _ hi q => ⟨xs, xs[i], q, by simp [hi]⟩, fun _ q => ⟨xs, q, rfl⟩, fun i H v H' _ q y => ?_⟩
  obtain ⟨T, x, h1, h2, h3, h4⟩ := y
  exact ⟨T, .int (i : Nat), x, h1, h2, h3, rfl, h4 xs q⟩
def iEnumT (K : PySem.W.Frag) (t : TE) : TI := fun σ H R => t σ H fun x H1 => ∃ a xs, x = .ref a ∧ SqT K H1 a xs ∧ R (IteT K a) H1
theorem pi_enumT {X : Cx} {e : Expr} {t : TE} {p pos tpos : Pos} {elts : List Expr} {kk : Nat} (hg : Gl X "enumerate") (hm : X.mg "enumerate" = none) (ha : PE X e t) (hs : starEach [e] X.env = [(false, eval e X.env)] := by rfl) (hs2 : starEach [e] X.env = (false, eval e X.env) :: starEach [] X.env := by rfl) :
    PI X (.Tuple elts kk tpos) (.Call (.Name "enumerate" p) [e] [] pos) (iEnumT X.K t) := by
  refine ⟨fun pins s σ H R I h => ?_⟩
  have hA : PA X [e] (tCons t tNil) := pa_cons ha pa_nil hs2
  refine wpAny_Call_Name_kw (ld_blt I hg hm (show bootBuiltins "enumerate" = some (.type "enumerate") by decide +kernel) ?_ (by decide) (by decide))
  refine PyProof.Rows.callWith_type1 (wpAny_mono (hA.run pos pins s σ H (fun vs H1 => ∃ a xs, vs = [.ref a] ∧ SqT X.K H1 a xs ∧ R (IteT X.K a) H1) I ?_) (fun us s1 z => ?_) fun _ _ z => z) hs rfl
  · have h : t σ H fun x H1 => ∃ a xs, x = .ref a ∧ SqT X.K H1 a xs ∧ R (IteT X.K a) H1 := h
    have e1 : (fun (x : V) (H1 : Hp) => ∃ a xs, x = V.ref a ∧ SqT X.K H1 a xs ∧ R (IteT X.K a) H1) = fun x H1 => ∃ a xs, [x] = [V.ref a] ∧ SqT X.K H1 a xs ∧ R (IteT X.K a) H1 := by
      funext x H1
      simp
    rw [e1] at h
    exact h
  · obtain ⟨vs, H1, I1, r1, a, xs, rfl, hq, q⟩ := z
    cases r1 with
    | cons r rr =>
      cases rr
      cases r
      obtain ⟨its, rv, tp, hz⟩ := I1.tuple hq
      refine PySem.ogen_call (begins_tuple a its.toArray) tp fun h' he ho hk => wpAny_pyIter_enum he ?_
      have I2 : L2.Inv X pins σ H1 { s1 with heap := h' } := I1.kept (t' := s1.toks) hk
      refine ⟨s1.heap.objs.size + 1, [s1.heap.objs.size + 1, s1.heap.objs.size], _, _, H1, rfl, I2, ogen_turn a (s1.heap.objs.size + 1) s1.heap.objs.size, ⟨⟨.none, he⟩, ⟨_, ho, rfl, rfl⟩, Nat.succ_ne_self _⟩, fun b hb => ?_, q⟩
      have le : s1.heap.objs.size ≤ b := by
        rcases List.mem_cons.mp hb with z | z
        · rw [z]
          exact Nat.le_add_right _ _
        · rw [List.mem_singleton.mp z]
          exact Nat.le_refl _
      exact I1.fpOk le (I1.hok.fresh le)
section
variable {ks : FK} {X : Cx} {W : WX} {e : Expr} {m : M D} {q1 pos p1 p2 p3 : Pos}
def asE : D → M (List D)
  | .tup ds => retM (ds.zipIdx.map fun p => .tup [.int (p.2 : Nat), p.1])
  | _ => fun _ => .bad
theorem iw_enumT {K : PySem.W.Frag} {mg : Str → Option Value} {t : TE} (h : IV K ks mg W t m) : IW K ks mg W (iEnumT K t) (bindM m asE) := by
  refine im_bind (t2 := fun x σ H R => ∃ a xs, x = V.ref a ∧ SqT K H a xs ∧ R (IteT K a) H) rW_mono h fun a x Z ad σ s H B Hs Q rp hx q => ?_
  cases a with
  | tup ds =>
    cases hx with
    | tup hq hr =>
      rename_i a xs
      refine ⟨a, xs, rfl, sqt_mono rp.bh hq, q _ H B rp Stp.refl ⟨fun H => SqT K H a xs, YPair (fun i => some (.int (i : Nat))) (fun i => xs[i]?), ?_, fun H e => sqt_mono e hq, fun i H x H' d e y hd => ?_⟩⟩
      · rw [List.length_map, List.length_zipIdx, ← hr.len]
        exact walk_enumT
      · obtain ⟨T, u, v, rfl, hT, rfl, h1, h2⟩ := y
        cases h1
        obtain ⟨d', k1, k2⟩ := hr.getV h2
        rw [List.getElem?_map, List.getElem?_zipIdx, k1] at hd
        simp at hd
        subst hd
        exact .inr ⟨T, _, v, _, d', rfl, hT, rfl, rfl, .int _, k2⟩
  | _ => exact q.elim
theorem ew_enumT {elts : List Expr} {kk : Nat} {tpos : Pos} (hm : X.mg "enumerate" = none) (h : EV ks X W e m) (hg : Gl X "enumerate" := by rfl) (hs : starEach [e] X.env = [(false, eval e X.env)] := by rfl) (hs2 : starEach [e] X.env = (false, eval e X.env) :: starEach [] X.env := by rfl) :
    EW ks X W (.Tuple elts kk tpos) (.Call (.Name "enumerate" q1) [e] [] pos) (bindM m asE) := let ⟨_, h1, h2⟩ := h; ⟨_, pi_enumT hg hm h1 hs hs2, iw_enumT h2⟩
end
end Og

set_option Elab.async false
set_option linter.all false
set_option maxRecDepth 100000
set_option maxHeartbeats 1000000
namespace HT
open PySem PySem.Spec PyProof.Rows
section
variable {prog : Program} {w : World} {A : Around} {E : Value → Shared → Prop} {s : Shared}
theorem og_adjust (n : Nat) : Builtin.Slice.sliceAdjust none none (-1) (n : Int) = ((n : Int) - 1, -1) := by
  unfold Builtin.Slice.sliceAdjust
  simp
theorem og_places (n : Nat) : Builtin.Slice.slicePlaces ((n : Int) - 1) (-1) (-1) = n := by
  unfold Builtin.Slice.slicePlaces
  simp
  split <;> omega
theorem og_applied {sl : Addr} {vl vu vk : Value} {n : Nat} {Q : Int × Int × Nat → Shared → Prop} (hs : s.heap.IsSliceOf sl vl vu vk) (pl : IsPart vl none) (pu : IsPart vu none) (pk : IsPart vk (some (-1)))
    (h : Q ((n : Int) - 1, -1, n) s) : wpAny (model prog w) A (Builtin.Slice.sliceApplied (.ref sl) (pure (n : Int))) Q E s := by
  obtain ⟨os, hos, hcs, hds⟩ := id hs
  unfold Builtin.Slice.sliceApplied Builtin.Slice.sliceFields
  refine wpAny_bind (wpAny_bind (wpAny_field hos hds (x := vl) rfl (wpAny_bind (wpAny_field hos hds (x := vu) rfl (wpAny_bind (wpAny_field hos hds (x := vk) rfl (wpAny_pure ?_)))))))
  refine wpAny_bind (slicePart_ pk ?_)
  show wpAny _ _ (if ((-1 : Int) == 0) = true then _ else _) _ _ s
  rw [if_neg (by decide)]
  refine wpAny_bind (slicePart_ pl (wpAny_bind (slicePart_ pu (wpAny_bind (wpAny_pure ?_)))))
  show wpAny _ _ (match Builtin.Slice.sliceAdjust none none (-1) (n : Int) with | (lo, hi) => pure (lo, (-1 : Int), Builtin.Slice.slicePlaces lo hi (-1))) _ _ s
  rw [og_adjust n]
  show wpAny _ _ (pure ((n : Int) - 1, (-1 : Int), Builtin.Slice.slicePlaces ((n : Int) - 1) (-1) (-1))) _ _ s
  rw [og_places]
  exact wpAny_pure h
theorem og_pick (xs : Array Value) : ((List.range xs.size).filterMap fun (m : Nat) => xs[((xs.size : Int) - 1 + (m : Int) * (-1)).toNat]?).toArray = xs.toList.reverse.toArray := by
  have e : (List.range xs.size).filterMap (fun (m : Nat) => xs[((xs.size : Int) - 1 + (m : Int) * (-1)).toNat]?) = ((List.range xs.size).map fun k => xs.size - 1 - k).filterMap (xs[·]?) := by
    rw [List.filterMap_map]
    have key : ∀ (l : List Nat), (∀ m ∈ l, m < xs.size) → l.filterMap (fun (m : Nat) => xs[((xs.size : Int) - 1 + (m : Int) * (-1)).toNat]?) = l.filterMap ((fun x => xs[x]?) ∘ fun k => xs.size - 1 - k) := by
      intro l
      induction l with
      | nil => intro _; rfl
      | cons m l ih =>
        intro hl
        have hm := hl m (List.mem_cons_self ..)
        have e1 : ((xs.size : Int) - 1 + (m : Int) * (-1)).toNat = xs.size - 1 - m := by omega
        rw [List.filterMap_cons, List.filterMap_cons, ih fun k hk => hl k (List.mem_cons_of_mem _ hk), e1]
        rfl
    exact key _ fun m hm => List.mem_range.mp hm
  rw [e, PySem.W.krv_range, List.filterMap_reverse, PySem.W.krv_all]
theorem og_getrev {t sl : Addr} {items : Array Value} {vl vu vk : Value} {Q : Value → Shared → Prop} (ht : IsTup s.heap t items) (hs : s.heap.IsSliceOf sl vl vu vk) (pl : IsPart vl none) (pu : IsPart vu none) (pk : IsPart vk (some (-1)))
    (h : Q (.ref s.heap.objs.size) { s with heap := s.heap.push { cls := .type "tuple", data := .seq items.toList.reverse.toArray } })
    (hsz : items.size ≤ sizeLine) : wpAny (model prog w) A (getItem (.ref t) (.ref sl)) Q E s := by
  have htake : sizeOk (.seq items.toList.reverse.toArray) := by
    show items.toList.reverse.toArray.size ≤ sizeLine
    rw [List.size_toArray, List.length_reverse, Array.length_toList]
    exact hsz
  obtain ⟨os, hos, hcs, hds⟩ := id hs
  have hTs : s.TypeIs (.ref sl) "slice" := ⟨os, hos, hcs⟩
  unfold getItem
  try with_reducible refine wpAny_holding ?_
  first | refine wpAny_bind (wpAny_pure ?_) | skip
  refine wpAny_bind (wpAny_sequenceKey ht.typeIs (by decide) ?_)
  refine wpAny_bind (wpAny_callSpecial?_slot (name := Str.ofString "__getitem__") ht.typeIs PyProof.Rows.slot_tuple_getitem
    (wpAny_call_entry PyProof.Rows.slot_tuple_getitem ht.typeIs entry_tuple_getitem ?_ (args_tuple_getitem _ _)))
  show wpAny _ _ (Builtin.Tuple.tupleItemsOf (.ref t) >>= _) _ _ s
  refine wpAny_bind (tupleItemsOf_ ht ?_)
  refine wpAny_bind (wpAny_typeOf hTs ?_)
  rw [if_pos (by decide)]
  refine wpAny_bind (og_applied hs pl pu pk ?_)
  have hno : ¬ ((((items.size : Int) - 1) == 0 && (-1 : Int) == 1 && items.size == items.size) = true) := by
    simp
  show wpAny _ _ (if ((((items.size : Int) - 1) == 0 && (-1 : Int) == 1 && items.size == items.size) = true) then _ else _) _ _ s
  rw [if_neg hno, og_pick]
  first
    | exact wpAny_bind (m := Builtin.Tuple.tupleExact _) (wpAny_newObj_type (wpAny_pure ⟨_, rfl, wpAny_pure h⟩) htake)
    | exact wpAny_bind (m := Builtin.Tuple.tupleExact _) (wpAny_newObj_type (wpAny_bind (wpAny_pure (wpAny_pure ⟨_, rfl, wpAny_pure h⟩))) htake)
    | exact wpAny_bind (wpAny_bind (m := Builtin.Tuple.tupleExact _) (wpAny_newObj_type (wpAny_pure (wpAny_pure ⟨_, rfl, wpAny_pure h⟩)) htake))
    | exact wpAny_bind (wpAny_bind (m := Builtin.Tuple.tupleExact _) (wpAny_newObj_type (wpAny_pure ⟨_, rfl, wpAny_pure h⟩) htake))
end
end HT
namespace Og
open PySem L2 PyProof.Rows PySem.Spec
/-! ### t[::-1] -/
def tRevT (K : PySem.W.Frag) (te : TE) : TE := fun σ H Q => te σ H fun x H1 => ∃ a xs, x = .ref a ∧ SqT K H1 a xs ∧ ∀ p, H1 p = none → Q (.ref p) (upd H1 p (.tup xs.reverse))
section
variable {X : Cx}
theorem pe_revT {e : Expr} {te : TE} {k : Nat} {p1 p2 p3 pos : Pos} (he : PE X e te) : PE X (.Subscript e (.Slice none none (some (.UnaryOp .USub (.Constant (.int 1) k p1) p2)) p3) pos) (tRevT X.K te) := by
  refine ⟨fun pins s σ H Q I h => ?_⟩
  refine Subscript_ (thn (he.run pins s σ H _ I h) fun v s1 ⟨x, H1, I1, r1, q1⟩ => ?_)
  obtain ⟨a, xs, ex, hx, q⟩ := q1
  subst ex
  cases r1
  have hst : PO X (some (.UnaryOp .USub (.Constant (.int 1) k p1) p2)) (tPart (tUn (rU fun i => .int (-i)) (tC (.int 1)))) := po_some (pe_un un_neg pe_int)
  refine wpAny_Slice (thn (po_none.run pins s1 σ H1 (fun o H2 => o = none ∧ H2 = H1) I1 ⟨rfl, rfl⟩) fun vl s2 ⟨l, H2, I2, pl, el, e2⟩ => ?_)
  subst el e2
  refine thn (po_none.run pins s2 σ H2 (fun o H3 => o = none ∧ H3 = H2) I2 ⟨rfl, rfl⟩) fun vu s3 ⟨u, H3, I3, pu, eu, e3⟩ => ?_
  subst eu e3
  refine thn (hst.run pins s3 σ H3 (fun o H4 => o = some (-1) ∧ H4 = H3) I3 ⟨1, rfl, -1, rfl, rfl, rfl⟩) fun vs s4 ⟨o, H4, I4, ps, eo, e4⟩ => ?_
  subst eo e4
  have I5 : Inv X pins σ H4 { s4 with heap := s4.heap.push { cls := .type "slice", data := .fields #[vl, vu, vs] } } := I4.kept (t' := s4.toks) fun b ob q => Heap.get?_push_of_some _ q
  obtain ⟨its, r, ht, hz⟩ := I5.tuple hx
  have hlen := r.length
  show wpAny (model X.prog X.w) X.A (subscriptTail e (.Slice none none (some (.UnaryOp .USub (.Constant (.int 1) k p1) p2)) p3) (.ref a) (.ref s4.heap.objs.size)) (L2.EP X pins σ Q) X.xe { s4 with heap := s4.heap.push { cls := .type "slice", data := .fields #[vl, vu, vs] } }
  refine tail_any (ops := [.ref a, .ref s4.heap.objs.size]) ht.typeIs (PyProof.Rows.slot_tuple_getitem.lookup) ?_ (by with_unfolding_all rfl)
  refine HT.og_getrev ht (Heap.IsSliceOf.new _ vl vu vs) pl pu ps ?_ (by rw [List.size_toArray]; omega)
  refine ⟨.ref _, _, I5.laid (t' := s4.toks) (o := .tup xs.reverse) (fun b ob q => Heap.get?_push_of_some _ q) (Nat.le_refl _) ?_, rfl, q _ (I5.hok.fresh (Nat.le_refl _))⟩
  exact ⟨by rw [List.length_reverse]; exact hz, _, r.reverse, IsTup.new _ _⟩
end
def revO : D → Option D
  | .tup ds => some (.tup ds.reverse)
  | _ => none
section
variable {K : PySem.W.Frag} {ks : FK}
def rRev (K : PySem.W.Frag) : V → Hp → VK → Prop := fun x H Q => ∃ a xs, x = .ref a ∧ SqT K H a xs ∧ ∀ p, H p = none → Q (.ref p) (upd H p (.tup xs.reverse))
theorem o_rev : Op1 (@rV K ks) (rRev K) revO := by
  intro Z ad σ H B s x dx d Q rp hx e q
  unfold revO at e
  split at e
  · cases e
    obtain ⟨a, xs, rfl, hb, ha, ra⟩ := rP_tup rp hx
    refine ⟨a, xs, rfl, ha, fun p hp => ?_⟩
    obtain ⟨r2, st⟩ := rp.laid (.tup xs.reverse) hp
    exact q _ _ _ r2 st (.tup (.inl (.inl upd_same)) (ra.rev.mono st.bb))
  · cases e
end
section
variable {ks : FK} {X : Cx} {W : WX} {e : Expr} {m : M D} {q1 pos p1 p2 p3 : Pos}
theorem ev_revT {k : Nat} (h : EP' ks X W e m) : EV ks X W (.Subscript e (.Slice none none (some (.UnaryOp .USub (.Constant (.int 1) k p1) p2)) p3) pos) (m1 revO m) := let ⟨_, h1, h2⟩ := h; ⟨_, pe_revT h1, im_op1 (r := rRev X.K) rV_mono o_rev h2⟩
end
end Og

set_option Elab.async false
set_option linter.all false
set_option maxRecDepth 100000
set_option maxHeartbeats 1000000
namespace Og
open PySem L2
/-! ### the feed -/
def FK.ok (ks : FK) : Prop := ks.c ≠ ks.n ∧ ks.c ≠ ks.l ∧ ks.c ≠ ks.t ∧ ks.n ≠ ks.l ∧ ks.n ≠ ks.t ∧ ks.l ≠ ks.t
def getF (ks : FK) (k : Str) (F : Fd) : Option Int := if k = ks.n then some F.next else if k = ks.l then some F.left else if k = ks.t then some F.count else none
def putF (ks : FK) (k : Str) (i : Int) (F : Fd) : Option Fd := if k = ks.n then some { F with next := i } else if k = ks.l then some { F with left := i } else if k = ks.t then some { F with count := i } else none
theorem getF_val {ks : FK} (o : ks.ok) {ca : Addr} {F : Fd} {k : Str} {i : Int} (h : getF ks k F = some i) : valV (feedKv ks ca F) (.inr k) = some (.int i) := by
  obtain ⟨h1, h2, h3, h4, h5, h6⟩ := o
  unfold getF at h
  unfold valV feedKv
  by_cases c1 : k = ks.n
  · subst c1
    rw [if_pos rfl] at h
    cases h
    simp [List.find?, h1]
  · rw [if_neg c1] at h
    by_cases c2 : k = ks.l
    · subst c2
      rw [if_pos rfl] at h
      cases h
      simp [List.find?, h2, h4]
    · rw [if_neg c2] at h
      by_cases c3 : k = ks.t
      · subst c3
        rw [if_pos rfl] at h
        cases h
        simp [List.find?, h3, h5, h6]
      · rw [if_neg c3] at h
        cases h
theorem putF_val {ks : FK} (o : ks.ok) {ca : Addr} {F F' : Fd} {k : Str} {i : Int} (h : putF ks k i F = some F') : putK (feedKv ks ca F) (.inr k) (.int i) = feedKv ks ca F' ∧ F'.cells = F.cells := by
  obtain ⟨h1, h2, h3, h4, h5, h6⟩ := o
  unfold putF at h
  unfold putK feedKv
  by_cases c1 : k = ks.n
  · subst c1
    rw [if_pos rfl] at h
    cases h
    simp [h1, Ne.symm h4, Ne.symm h5]
  · rw [if_neg c1] at h
    by_cases c2 : k = ks.l
    · subst c2
      rw [if_pos rfl] at h
      cases h
      simp [h2, h4, Ne.symm h6]
    · rw [if_neg c2] at h
      by_cases c3 : k = ks.t
      · subst c3
        rw [if_pos rfl] at h
        cases h
        simp [h3, h5, h6]
      · rw [if_neg c3] at h
        cases h
def mGet (ks : FK) (k : Str) (m : M D) : M D := bindM m fun d s => match d with
  | .fd => (match getF ks k s.F with
    | some i => .ok (.int i) s
    | none => .bad)
  | _ => .bad
def asFd : D → M Unit := fun d s => match d with
  | .fd => .ok () s
  | _ => .bad
def cellsD (F : Fd) : D := .lst (F.cells.map D.int)
def putS (ks : FK) (k : Str) (mv mf : M D) : MS := bindS mv fun v => bindS mf fun d s => match v, d with
  | .int i, .fd => (match putF ks k i s.F with
    | some F' => .nx { s with F := F' }
    | none => .bad)
  | _, _ => .bad
section
variable {K : PySem.W.Frag} {ks : FK} {mg : Str → Option Value} {W : WX}
variable {Z : Zt K ks} {ad : Nat → Addr} {σ : L2.St} {s s1 : Sto} {H B H1 B1 Hs : Hp}
theorem Rp.feed (r : Rp Z ad σ H B s) {F' : Fd} (e : F'.cells = s.F.cells) : Rp Z ad σ (upd H Z.fa (.dK (feedKv ks Z.ca F'))) B { s with F := F' } := by
  have nf : ∀ b, ¬ Foot Z.fa Z.ca b → b ≠ Z.fa := fun b n z => n (.inl z)
  refine ⟨fun b o h => ?_, r.nof, ⟨upd_same, ?_⟩, fun b o n h => ?_, r.nb0, r.b0, r.len, fun i => ?_, r.inj⟩
  · have n : b ≠ Z.fa := fun z => by
      rw [r.nof b (.inl z)] at h
      cases h
    rw [upd_ne n]
    exact r.bh b o h
  · rw [upd_ne (Ne.symm Z.ne)]
    show H Z.ca = some (.lst (F'.cells.map V.int))
    rw [e]
    exact r.res.2
  · rw [upd_ne (nf b n)]
    exact r.fr0 b o n h
  · have h := r.sl i
    show SlOk Z ad σ _ B i (s.at i)
    cases q : s.at i with
    | un => trivial
    | val d => rw [q] at h; exact h
    | own ds =>
      rw [q] at h
      obtain ⟨h1, h2, h3, h4, xs, h5, h6⟩ := h
      exact ⟨h1, h2, h3, h4, xs, by rw [upd_ne (nf _ h4)]; exact h5, h6⟩
    | dic kvs =>
      rw [q] at h
      obtain ⟨h1, h2, h3, h4, xs, h5, h6, h7⟩ := h
      exact ⟨h1, h2, h3, h4, xs, by rw [upd_ne (nf _ h4)]; exact h5, h6, h7⟩
theorem rP_fd {v : V} (h : rP Z ad s H B Hs v .fd) : v = .ref Z.fa := by
  rcases h with h | ⟨ds, a, xs, e, _⟩
  · cases h
    rfl
  · cases e
theorem im_fget {k : Str} {te : TE} {m : M D} (o : ks.ok) (h : IP K ks mg W te m) : IV K ks mg W (tDGet te (tC (.str k))) (mGet ks k m) := by
  refine im_bind (t2 := fun x σ H Q => ∃ a v, x = V.ref a ∧ DGet H a (.str k) (some v) ∧ Q v H) rV_mono h fun a x Z ad σ s H B Hs Q rp hx q => ?_
  cases a with
  | fd =>
    dsimp only at q
    cases e : getF ks k s.F with
    | none => rw [e] at q; exact q.elim
    | some i =>
      rw [e] at q
      refine ⟨Z.fa, .int i, rP_fd hx, ?_, q _ H B rp Stp.refl (.int i)⟩
      rw [← getF_val o (ca := Z.ca) e]
      exact DGet.k (k := .inr k) rp.res.1
  | _ => exact q.elim
def rC : Rl K ks V Unit := fun Z _ _ _ _ _ v _ => v = .ref Z.ca
theorem rC_mono : Mono (K := K) (ks := ks) rC := fun _ _ _ _ _ _ _ _ _ _ h => h
theorem im_cells {te : TE} {m : M D} (h : IP K ks mg W te m) : Im mg W (@rC K ks) (tDGet te (tC (.str ks.c))) (bindM m asFd) := by
  refine im_bind (t2 := fun x σ H Q => ∃ a v, x = V.ref a ∧ DGet H a (.str ks.c) (some v) ∧ Q v H) rC_mono h fun a x Z ad σ s H B Hs Q rp hx q => ?_
  cases a with
  | fd =>
    refine ⟨Z.fa, .ref Z.ca, rP_fd hx, ?_, q _ H B rp Stp.refl rfl⟩
    have e : valV (feedKv ks Z.ca s.F) (.inr ks.c) = some (.ref Z.ca) := by
      unfold valV feedKv
      simp [List.find?]
    rw [← e]
    exact DGet.k (k := .inr ks.c) rp.res.1
  | _ => exact q.elim
theorem cells_dda (fa : Addr) (H : Hp) : ∀ xs : List Int, DdA K fa H (xs.map V.int) (xs.map D.int)
  | [] => .nil
  | x :: xs => .cons (.int x) (cells_dda fa H xs)
/-- len(cells), cells[i], cells != [] -/
def lenC (m : M Unit) : M D := bindM m fun _ s => .ok (.int s.F.cells.length) s
theorem im_lenC {te : TE} {m : M Unit} (h : Im mg W (@rC K ks) te m) : IV K ks mg W (tCB (fun xs H Q => ∃ x n, xs = [x] ∧ LenV K x H n ∧ Q (.int (n : Nat)) H) (tCons te tNil)) (lenC m) := by
  refine im_bind (t2 := fun x σ H Q => ∃ y n, [x] = [y] ∧ LenV K y H n ∧ Q (V.int (n : Nat)) H) rV_mono h fun a x Z ad σ s H B Hs Q rp hx q => ?_
  have hx : x = .ref Z.ca := hx
  subst hx
  exact ⟨_, s.F.cells.length, rfl, .inl ⟨_, SqL.of rp.res.2, by simp⟩, q _ H B rp Stp.refl (.int _)⟩
def ixC (m : M Unit) (mi : M D) : M D := bindM m fun _ => bindM mi fun d s => match ixO (cellsD s.F) d with
  | some x => .ok x s
  | none => .bad
theorem im_ixC {te ti : TE} {m : M Unit} {mi : M D} (h : Im mg W (@rC K ks) te m) (hi : IP K ks mg W ti mi) : IV K ks mg W (tOp (rIx K) te ti) (ixC m mi) := by
  refine im_bind (t2 := fun x σ H Q => ti σ H fun y H2 => rIx K x y H2 Q) rV_mono h fun a x Z ad σ s H B Hs Q rp hx q => ?_
  have hx : x = .ref Z.ca := hx
  subst hx
  refine hi Z ad σ H B s _ rp ?_
  unfold bindM at q
  cases e : mi s with
  | ok b s1 =>
    rw [e] at q
    intro y H1 B1 rp1 st hy
    replace q := Post.shift rV_mono st q
    dsimp only at q
    cases c : ixO (cellsD s1.F) b with
    | none => rw [c] at q; exact q.elim
    | some d =>
      rw [c] at q
      unfold cellsD ixO at c
      cases b with
      | int i =>
        obtain ⟨v, h1, h2⟩ := (cells_dda (K := K) Z.fa B1 s1.F.cells).atI c
        exact .inl ⟨Z.ca, _, i, v, rfl, rP_int hy, SqL.of rp1.res.2, h1, q _ H1 B1 rp1 Stp.refl h2⟩
      | _ => cases c
  | exc x s1 =>
    rw [e] at q
    exact q
  | bad =>
    rw [e] at q
    exact q
def neC (m : M Unit) (mi : M D) : M D := bindM m fun _ => bindM mi fun d s => match eqO true (cellsD s.F) d with
  | some x => .ok x s
  | none => .bad
theorem im_neC {te ti : TE} {m : M Unit} {mi : M D} (h : Im mg W (@rC K ks) te m) (hi : IP K ks mg W ti mi) : IV K ks mg W (tOp (rNeD K) te ti) (neC m mi) := by
  refine im_bind (t2 := fun x σ H Q => ti σ H fun y H2 => rNeD K x y H2 Q) rV_mono h fun a x Z ad σ s H B Hs Q rp hx q => ?_
  have hx : x = .ref Z.ca := hx
  subst hx
  refine hi Z ad σ H B s _ rp ?_
  unfold bindM at q
  cases e : mi s with
  | ok b s1 =>
    rw [e] at q
    intro y H1 B1 rp1 st hy
    replace q := Post.shift rV_mono st q
    dsimp only at q
    cases c : eqO true (cellsD s1.F) b with
    | none => rw [c] at q; exact q.elim
    | some d =>
      rw [c] at q
      obtain ⟨p, r, e1, e2, rfl⟩ := eqO_some c
      obtain ⟨a1, a2⟩ := shapedD_some e1
      obtain ⟨b1, b2⟩ := shapedD_some e2
      refine ⟨p, r, ?_, rP_dp rp1 hy b1, a2, b2, q _ H1 B1 rp1 Stp.refl (.bl _)⟩
      unfold cellsD at a1
      simp only [D.toP, Option.map_eq_some_iff] at a1
      obtain ⟨ps, f1, rfl⟩ := a1
      exact .lst (.inl (.inl rp1.res.2)) ((cells_dda Z.fa H1 s1.F.cells).dp _ _ ps f1)
  | exc x s1 =>
    rw [e] at q
    exact q
  | bad =>
    rw [e] at q
    exact q
theorem is_fput {k : Str} {tv tf : TE} {mv mf : M D} (o : ks.ok) (hv : IP K ks mg W tv mv) (hf : IP K ks mg W tf mf) : IS K ks mg W (sDPut tf (tC (.str k)) tv) (putS ks k mv mf) := by
  refine is_bind (u := fun v D σ H1 => tf σ H1 fun x H2 => ∃ a H4, x = V.ref a ∧ DPut H2 a (.str k) v H4 ∧ D.nx σ H4) hv fun a x Z ad σ H B s D Hs rp hx q => ?_
  refine hf Z ad σ H B s _ rp ?_
  unfold bindS at q
  cases e : mf s with
  | ok b s1 =>
    rw [e] at q
    intro y H1 B1 rp1 st hy
    dsimp only at q
    have hx := rP_step (Hs' := H) st hx
    match a, b, hx, hy, q with
    | .int i, .fd, hx, hy, q =>
      dsimp only at q
      cases c : putF ks k i s1.F with
      | none => rw [c] at q; exact q.elim
      | some F' =>
        rw [c] at q
        obtain ⟨c1, c2⟩ := putF_val o (ca := Z.ca) c
        refine ⟨Z.fa, _, rP_fd hy, ?_, q ad σ _ B1 (rp1.feed c2) st.bb⟩
        rw [← c1, rP_int hx]
        exact DPut.k (k := .inr k) rp1.res.1 (by show 4 < sizeLine; decide)
  | exc x s1 =>
    rw [e] at q
    intro cls dd H' B' rp' st hx
    exact q ad σ H' B' cls dd rp' st.bb hx
  | bad =>
    rw [e] at q
    exact q
end
section
variable {ks : FK} {X : Cx} {W : WX} {e a b : Expr} {m ma mb : M D} {mu : M Unit} {q1 pos p1 p2 : Pos} {k : Str} {j : Nat}
def EC (ks : FK) (X : Cx) (W : WX) (e : Expr) (m : M Unit) : Prop := ∃ t, PE X e t ∧ Im X.mg W (@rC X.K ks) t m
theorem ev_fget (hu : X.A.units + 1 < cLine) (o : ks.ok) (h : EP' ks X W e m) : EV ks X W (.Subscript e (.Constant (.str k) j p1) pos) (mGet ks k m) := let ⟨_, h1, h2⟩ := h; ⟨_, pe_dget hu h1 pe_str (fun _ _ => rfl), im_fget o h2⟩
theorem ec_get (hu : X.A.units + 1 < cLine) (h : EP' ks X W e m) (hk : k = ks.c := by rfl) : EC ks X W (.Subscript e (.Constant (.str k) j p1) pos) (bindM m asFd) := by
  subst hk
  obtain ⟨_, h1, h2⟩ := h
  exact ⟨_, pe_dget hu h1 pe_str (fun _ _ => rfl), im_cells h2⟩
theorem ev_lenC (hm : X.mg "len" = none) (h : EC ks X W e mu) (hg : Gl X "len" := by rfl) (hs : starEach [e] X.env = (false, eval e X.env) :: starEach [] X.env := by rfl) (hpl : (backTo pos (starEach [] X.env)).any (·.1) = false := by rfl) :
    EV ks X W (.Call (.Name "len" q1) [e] [] pos) (lenC mu) := let ⟨_, h1, h2⟩ := h; ⟨_, pe_callB call_len hg hm PySem.boot_len (pa_cons h1 pa_nil hs) (by decide) (by decide) hs hpl, im_lenC h2⟩
theorem ev_ixC (ha : EC ks X W a mu) (hb : EP' ks X W b mb) (hp : PlainIx b := by exact fun _ _ => rfl) : EV ks X W (.Subscript a b pos) (ixC mu mb) := let ⟨_, h1, h2⟩ := ha; let ⟨_, g1, g2⟩ := hb; ⟨_, pe_ix ix_seq h1 g1 hp, im_ixC h2 g2⟩
theorem et_neC (hu : X.A.units + 64 < cLine) (ha : EC ks X W a mu) (hb : EP' ks X W b mb) : ET ks X W (.Compare a [.NotEq] [b] pos) (bindM (neC mu mb) asB) := let ⟨_, h1, h2⟩ := ha; let ⟨_, g1, g2⟩ := hb; ⟨_, pt_cmpR (op_neD hu) h1 g1 (nomark _), im_tTest (IV.p (im_neC h2 g2))⟩
theorem es_fput (hu : X.A.units + 1 < cLine) (o : ks.ok) (hv : EP' ks X W b mb) (hf : EP' ks X W a ma) (hs : swapsWith b (some (.Subscript a (.Constant (.str k) j p1) p2)) pos.line X.env = pure false := by rfl) :
    ES ks X W (.Assign [.Subscript a (.Constant (.str k) j p1) p2] b pos) (putS ks k mb ma) := let ⟨_, h1, h2⟩ := hv; let ⟨_, g1, g2⟩ := hf; ⟨_, ps_dput hu g1 pe_str h1 hs, is_fput o h2 g2⟩
end
end Og

set_option Elab.async false
set_option linter.all false
set_option maxRecDepth 100000
set_option maxHeartbeats 1000000
namespace Og
open PySem PySem.Spec PyProof.Rows L2 LiI
/-! ### sorted(d.items()) -/
def encP (p : Str × Str) : PyData := .tuple [.str p.1, .str p.2]
def srtP (ps : List (Str × Str)) : List (Str × Str) := ps.mergeSort (PySem.W.dataLe false encP)
theorem paired_of {α β : Type} {G : α → β → Prop} : ∀ (xs : List α) (ys : List β), xs.length = ys.length → (∀ (j : Nat) (a : α) (b : β), xs[j]? = some a → ys[j]? = some b → G a b) → Paired G xs ys
  | [], [], _, _ => .nil
  | [], _ :: _, h, _ => by cases h
  | _ :: _, [], h, _ => by cases h
  | x :: xs, y :: ys, h, g => .cons (g 0 x y rfl rfl) (paired_of xs ys (Nat.succ.inj h) fun j a b e1 e2 => g (j + 1) a b e1 e2)
theorem paired_imp {α β : Type} {G G' : α → β → Prop} (f : ∀ a b, G a b → G' a b) : ∀ {xs : List α} {ys : List β}, Paired G xs ys → Paired G' xs ys
  | _, _, .nil => .nil
  | _, _, .cons r t => .cons (f _ _ r) (paired_imp f t)
theorem each_of {G : Addr → Str × Str → Prop} {S : List Addr} : ∀ {as : List Addr} {ps : List (Str × Str)}, (∀ t ∈ as, t ∈ S) → Paired G as ps → PySem.W.EachIs (fun (v : Value) b => ∃ t, v = .ref t ∧ t ∈ S ∧ G t b) (as.map Value.ref) ps
  | _, _, _, .nil => .nil
  | _, _, h, .cons r t => .cons ⟨_, rfl, h _ List.mem_cons_self, r⟩ (each_of (fun t ht => h t (List.mem_cons_of_mem _ ht)) t)
theorem each_back {G : Addr → Str × Str → Prop} {S : List Addr} : ∀ {out : List Value} {ps : List (Str × Str)}, PySem.W.EachIs (fun (v : Value) b => ∃ t, v = .ref t ∧ t ∈ S ∧ G t b) out ps → ∃ ts : List Addr, out = ts.map Value.ref ∧ (∀ t ∈ ts, t ∈ S) ∧ Paired G ts ps
  | _, _, .nil => ⟨[], rfl, (fun _ h => nomatch h), .nil⟩
  | _, _, .cons r t => by
    obtain ⟨x, rfl, h1, h2⟩ := r
    obtain ⟨ts, rfl, h3, h4⟩ := each_back t
    refine ⟨x :: ts, rfl, fun t ht => ?_, .cons h2 h4⟩
    rcases List.mem_cons.mp ht with e | ht
    · rw [e]; exact h1
    · exact h3 t ht
section
variable {X : Cx} {e : Expr} {te : TE} {p apos cpos pos : Pos}
theorem items_laid2 {pins : List (Addr × Obj)} {σ : L2.St} {H : Hp} {s : Shared} {h' : Heap} {tk : Nat} {kvs : List (Key × V)} {vs : List (Key × Value)} {out : Array Value} {c : Nat} {as : List Addr} {p : Addr} {xs : List V} (I : Inv X pins σ H s) (kv : KV kvs vs)
    (hk : ∀ b o, s.heap.get? b = some o → h'.get? b = some o) (hp : s.heap.objs.size ≤ p) (hpn : p ∉ as) (hS : h'.get? p = some { cls := .type "list", dict := none, data := .seq out c, slots := #[] }) (hl : as.length = vs.length) (hG : PySem.W.KdxG (mixKind X.prog X.w) vs s.heap.objs.size h' as) (hx : Vals xs out.toList) (hz : xs.length ≤ sizeLine) :
    (∀ b o, H b = some o → (putT (upd H p (.lst xs)) as kvs) b = some o) ∧ H p = none ∧ (∀ t ∈ as, H t = none) ∧ (putT (upd H p (.lst xs)) as kvs) p = some (.lst xs) ∧ Paired (fun (t : Addr) (q : Key × V) => (putT (upd H p (.lst xs)) as kvs) t = some (.tup [kV q.1, q.2])) as kvs ∧ Inv X pins σ (putT (upd H p (.lst xs)) as kvs) { s with heap := h', toks := tk } := by
  have lk : kvs.length = vs.length := Paired.length kv
  have nd : as.Nodup := List.Pairwise.imp (fun {a b} (h : a < b) => Nat.ne_of_lt h) hG.rise
  have new : ∀ t ∈ as, H t = none := fun t ht => I.hok.fresh (Nat.le_of_lt (hG.above t ht))
  have newS : H p = none := I.hok.fresh hp
  have atP := putT_at as kvs (upd H p (.lst xs)) (by omega) nd
  have off : ∀ b, b ∉ as → b ≠ p → putT (upd H p (.lst xs)) as kvs b = H b := fun b h1 h2 => by rw [putT_off as kvs _ h1, upd_ne h2]
  have low : ∀ b o, s.heap.get? b = some o → b ∉ as ∧ b ≠ p := fun b o e => ⟨fun z => absurd (Heap.lt_size e) (Nat.not_lt.mpr (Nat.le_of_lt (hG.above b z))), Nat.ne_of_lt (Nat.lt_of_lt_of_le (Heap.lt_size e) hp)⟩
  have kp : ∀ b u, H b = some u → (putT (upd H p (.lst xs)) as kvs) b = some u := fun b u e => by
    rw [off b (fun z => by rw [new b z] at e; cases e) (fun z => by rw [z, newS] at e; cases e)]
    exact e
  have eS : putT (upd H p (.lst xs)) as kvs p = some (.lst xs) := by rw [putT_off as kvs _ hpn, upd_same]
  refine ⟨kp, newS, new, eS, atP, ?_⟩
  refine I.call' (ch := []) rfl ⟨fun b o q _ _ _ => hk b o q, fun b o q _ _ _ => ⟨o.slots, hk b o q⟩, fun b o q n _ => ?_, fun b o q _ => ⟨o, hk b o q⟩, fun b xs q => kp b _ q, fun b o u q => kp b _ q, fun b ps q => ⟨#[], by rw [kp b _ q]; simp⟩⟩ (fun b u q => ?_) I.bare fun b z => by simp at z
  · obtain ⟨z1, z2⟩ := low b o q
    rw [off b z1 z2]
    exact n
  · by_cases hb : b ∈ as
    · obtain ⟨j, pk, e1, e2, e3⟩ := paired_ix atP hb
      rw [e3] at q
      cases q
      obtain ⟨key, k, x, f1, f2, f3⟩ := hG.pairs j b e1
      obtain ⟨qv, g1, g2, g3⟩ := LiI.paired_get kv e2
      rw [f1] at g1
      cases g1
      have rk : RelV (kV pk.1) key := by
        rw [g2]
        exact relV_key (show keyIs k key = true from f2)
      exact ⟨by show 2 ≤ sizeLine; decide, [key, x], .cons rk (.cons g3 .nil), ⟨_, f3, rfl, _, rfl⟩⟩
    · by_cases hb2 : b = p
      · rw [hb2] at q ⊢
        rw [eS] at q
        cases q
        refine ⟨hz, out.toList, c, hx, ?_⟩
        rw [Array.toArray_toList]
        exact hS
      · rw [off b hb hb2] at q
        exact (I.hok b u q).stay (fun d v _ y => hk d v y) (fun d y => kp d _ y) fun d xs y => kp d _ y
def rSortIt : V → Hp → VK → Prop := fun x H Q => ∃ (d : Addr) (ps : List (Str × Str)), x = .ref d ∧ H d = some (.dK (ps.map fun p => (.inr p.1, .str p.2))) ∧
  ∀ (H' : Hp) (p : Addr) (ts : List Addr), (∀ b o, H b = some o → H' b = some o) → H p = none → (∀ t ∈ ts, H t = none) → p ∉ ts → H' p = some (.lst (ts.map V.ref)) → Paired (fun (t : Addr) (q : Str × Str) => H' t = some (.tup [.str q.1, .str q.2])) ts (srtP ps) → Q (.ref p) H'
def tSortIt (te : TE) : TE := fun σ H Q => te σ H fun x H1 => rSortIt x H1 Q
theorem pe_sortIt (hc : X.calm = true) (hu : X.A.units + 64 < cLine) (he : PE X e te) (hg : Gl X "sorted") (hm : X.mg "sorted" = none) (hbase : attributeBase e "items" X.env (eval e X.env) = eval e X.env := by rfl) (hline : (apos.endLine == cpos.line) = true := by rfl)
    (hs : starEach [.Call (.Attribute e "items" apos) [] [] cpos] X.env = (false, eval (.Call (.Attribute e "items" apos) [] [] cpos) X.env) :: starEach [] X.env := by rfl) :
    PE X (.Call (.Name "sorted" p) [.Call (.Attribute e "items" apos) [] [] cpos] [] pos) (tSortIt te) := by
  refine ⟨fun pins s σ H Q I hq => ?_⟩
  have hv : bootBuiltins "sorted" = some (.builtin "sorted") := by decide +kernel
  refine wpAny_Call_Name_kw (ld_blt I hg hm hv ?_)
  refine PyProof.Rows.callWith_builtin1 ?_ hs rfl
  rw [hs]
  show wpAny _ _ (spliced ((false, eval (.Call (.Attribute e "items" apos) [] [] cpos) X.env) :: backTo pos (starEach [] X.env))) _ _ s
  refine Calls.spliced_cons ?_
  refine wpAny_Call_method (T := "dict") (id := "dict.items") hbase rfl hline F.plainAttrs_dict F.slot_dict_items F.type_dict_items (thn (he.run pins s σ H _ I hq) fun u s1 ⟨x, H1, I1, rx, d, ps, ex, hd, q⟩ => ?_)
  subst ex
  obtain rfl : u = Value.ref d := rx
  obtain ⟨hz, hs0, vs, kv, hdo⟩ := I1.hok d _ hd
  obtain ⟨ep, hat⟩ := hdo.dictAt
  have lk : ps.length = vs.length := by
    have z := Paired.length kv
    rw [List.length_map] at z
    exact z
  have I2 : Inv X pins σ H1 { s1 with heap := s1.heap.push { cls := .type "dict_items", data := .fields #[.ref d] } } := I1.kept (t' := s1.toks) fun b ob q => Heap.get?_push_of_some _ q
  refine ⟨hdo.typeIs, hdo.mapOf.noDict, ?_⟩
  show wpAny _ _ (callWith cpos (.builtin "dict.items") [.ref d] [] []) _ X.xe s1
  refine method_meetsIn F.slot_dict_items F.entry_dict_items rfl (PySem.evalArgs_none ⟨rfl, hdo.typeIs, F.args_dict_items_1 _, _, meets_dict_items (mixKind X.prog X.w) d hs0, ⟨vs, hdo⟩, ?_⟩)
  refine Calls.spliced_nil ?_
  refine Calls.call_function_entry kind_sorted plain_sorted entry_sorted (args_sorted1 _) ?_
  unfold Builtin.«sorted»
  refine wpAny_bind (m := checkCount "sorted" 1 1 _) (wpAny_pure ?_)
  have hzp : ps.length ≤ sizeLine := by
    rw [List.length_map] at hz
    exact hz
  refine wpAny_bind (PySem.W.kdx_collect (A := X.A.in1) (knd := mixKind X.prog X.w) (kvs := vs) (ep := ep) (I1.ok.hd hc) ⟨_, Heap.get?_push_size _ rfl, rfl, rfl⟩ (hat.push _) (by omega) fun h' tk as hk hl hG => ?_)
  refine wpAny_bind (wpAny_newList ?_ (by rw [List.length_map, hl]; omega))
  have hln : as.length = ps.length := by omega
  have hkv : ∀ (j : Nat) (b : Str × Str), ps[j]? = some b → (ps.map fun p => ((Sum.inr p.1 : Key), V.str p.2))[j]? = some (.inr b.1, .str b.2) := fun j b e => by rw [List.getElem?_map, e]; rfl
  have nd : as.Nodup := List.Pairwise.imp (fun {a b} (h : a < b) => Nat.ne_of_lt h) hG.rise
  have hpn : h'.objs.size ∉ as := fun z => Nat.lt_irrefl _ (hG.there z)
  have eR : PySem.W.EachIs (fun (v : Value) (b : Str × Str) => ∃ t, v = .ref t ∧ t ∈ as ∧ ∀ H0 : Hp, putT H0 as (ps.map fun p => ((Sum.inr p.1 : Key), V.str p.2)) t = some (.tup [.str b.1, .str b.2])) (as.map Value.ref) ps := by
    refine each_of (fun t h => h) (paired_of as ps hln fun j a b e1 e2 H0 => ?_)
    obtain ⟨y, y1, y2⟩ := LiI.paired_get (putT_at as (ps.map fun p => ((Sum.inr p.1 : Key), V.str p.2)) H0 (by rw [List.length_map]; exact hln) nd) e1
    rw [hkv j b e2] at y1
    cases y1
    exact y2
  have eRd : ∀ h2 : Heap, (∀ b o, h'.get? b = some o → h2.get? b = some o) → PySem.W.EachIs (fun (v : Value) (b : Str × Str) => ∃ t, v = .ref t ∧ t ∈ as ∧ ∃ bs, Reads h2 (.ref t) (encP b) bs ∧ h'.objs.size ∉ bs) (as.map Value.ref) ps := fun h2 k2 => by
    refine each_of (fun t h => h) (paired_of as ps hln fun j a b e1 e2 => ?_)
    obtain ⟨key, k, x, f1, f2, f3⟩ := hG.pairs j a e1
    obtain ⟨qv, g1, g2, g3⟩ := LiI.paired_get kv (hkv j b e2)
    rw [f1] at g1
    cases g1
    have g2 : (Sum.inr b.1 : Key) = k := g2
    subst g2
    obtain ⟨t1, rfl⟩ : ∃ t1, key = .str b.1 t1 := relV_key (show keyIs (.inr b.1) key = true from f2)
    obtain ⟨t2, rfl⟩ : ∃ t2, x = .str b.2 t2 := g3
    exact ⟨_, .tuple (k2 _ _ f3) rfl rfl (.cons (.str _ _) (.cons (.str _ _) .nil)), by simp⟩
  have hal : PySem.W.AllAlike (ps.map encP) := PySem.W.AllAlike.of fun b b' => rfl
  have hso : PySem.W.Sortable (ps.map encP) := PySem.W.Sortable.tuples fun b => ⟨_, _, rfl⟩
  have k2 : ∀ b o, h'.get? b = some o → (h'.push { cls := .type "list", data := .seq (as.map Value.ref).toArray }).get? b = some o := fun b o q => Heap.get?_push_of_some _ q
  have eR2 : PySem.W.EachIs (fun (v : Value) (b : Str × Str) => ∃ bs, Reads (h'.push { cls := .type "list", data := .seq (as.map Value.ref).toArray }) v (encP b) bs ∧ h'.objs.size ∉ bs) (as.map Value.ref) ps := (eRd _ k2).mono fun v b z => by
    obtain ⟨t, rfl, _, bs, z1, z2⟩ := z
    exact ⟨bs, z1, z2⟩
  have ho' : (h'.push { cls := .type "list", data := .seq (as.map Value.ref).toArray }).get? h'.objs.size = some (seqObj "list" (as.map Value.ref).toArray 0) := Heap.get?_push_size _ rfl
  refine wpAny_bind (wpAny_holding (wpAny_mono (PySem.W.list_sort_data (n := 0) (vs := as.map Value.ref) (bs := ps) (enc := encP) (Q := fun _ s' => EP X pins σ Q (.ref h'.objs.size) s') ho' eR eR2 hal hso hzp (fun b _ => ?_) fun out ho eo => ?_) (fun _ s' x => ?_) fun _ _ e => e))
  · have d1 : (encP b).depth = 1 := rfl
    rw [d1]
    show X.A.units + 1 + 1 + 1 < cLine
    omega
  · obtain ⟨ts, rfl, ht, hp⟩ := each_back eo
    obtain ⟨c, hS⟩ := sortedHeap_at (out := (ts.map Value.ref).toArray) ho'
    have k3 : ∀ b o, h'.get? b = some o → (sortedHeap (h'.push { cls := .type "list", data := .seq (as.map Value.ref).toArray }) h'.objs.size (as.map Value.ref) (ts.map Value.ref).toArray).get? b = some o := fun b o q => by
      have l := Heap.lt_size q
      exact (sortedHeap_old (Nat.ne_of_lt l) (Heap.lt_size (k2 b o q))).trans (k2 b o q)
    have hle : (s1.heap.push { cls := .type "dict_items", data := .fields #[.ref d] }).objs.size ≤ h'.objs.size := by
      rw [Heap.size_push]
      exact Heap.lt_size (hk s1.heap.objs.size _ (Heap.get?_push_size _ rfl))
    have hG2 : PySem.W.KdxG (mixKind X.prog X.w) vs (s1.heap.push { cls := .type "dict_items", data := .fields #[.ref d] }).objs.size (sortedHeap (h'.push { cls := .type "list", data := .seq (as.map Value.ref).toArray }) h'.objs.size (as.map Value.ref) (ts.map Value.ref).toArray) as :=
      ⟨hG.rise, hG.above, fun j a e1 => by
        obtain ⟨key, k, x, f1, f2, f3⟩ := hG.pairs j a e1
        exact ⟨key, k, x, f1, f2, k3 _ _ f3⟩⟩
    have lts : ts.length = ps.length := by
      rw [List.length_map] at ho
      exact ho
    obtain ⟨j1, j2, j3, j4, j5, J⟩ := items_laid2 (tk := tk) (xs := ts.map V.ref) I2 kv (fun b o q => k3 b o (hk b o q)) hle hpn hS hl hG2 (vals_refs ts) (by rw [List.length_map]; omega)
    exact ⟨.ref _, _, J, rfl, q _ _ ts j1 j2 (fun t h => j3 t (ht t h)) (fun z => hpn (ht _ z)) j4 (paired_imp (fun _ _ z => z _) hp)⟩
  · exact wpAny_pure ⟨_, rfl, x⟩
end
/-! a name that holds a dict of texts -/
def prsOf : List (Str × D) → Option (List (Str × Str))
  | [] => some []
  | (k, .str z) :: r => (prsOf r).map fun ps => (k, z) :: ps
  | _ :: _ => none
def mSortIt (i : Nat) : M D := fun s => match s.at i with
  | .dic kvs => (match prsOf kvs with
    | some ps => .ok (.lst ((srtP ps).map fun q => .tup [.str q.1, .str q.2])) s
    | none => .bad)
  | _ => .bad
section
variable {K : PySem.W.Frag} {ks : FK} {mg : Str → Option Value} {W : WX}
variable {Z : Zt K ks} {ad : Nat → Addr} {σ : L2.St} {s s1 : Sto} {H B H1 B1 Hs : Hp}
theorem Rp.dic (r : Rp Z ad σ H B s) {i : Nat} {kvs : List (Str × D)} (e : s.at i = .dic kvs) :
    σ[i]? = some (some (.ref (ad i))) ∧ Z.H0 (ad i) = none ∧ B (ad i) = none ∧ ¬ Foot Z.fa Z.ca (ad i) ∧ ∃ xs : List (Key × V), H (ad i) = some (.dK xs) ∧ xs.map (·.1) = kvs.map (fun p => Sum.inr p.1) ∧ DdA K Z.fa B (xs.map (·.2)) (kvs.map (·.2)) := by
  have h := r.sl i
  rw [e] at h
  exact h
theorem prs_of {fa : Addr} : ∀ {kvs : List (Str × D)} {xs : List (Key × V)} {ps : List (Str × Str)}, prsOf kvs = some ps → xs.map (·.1) = kvs.map (fun p => Sum.inr p.1) → DdA K fa B (xs.map (·.2)) (kvs.map (·.2)) → xs = ps.map fun p => (.inr p.1, .str p.2)
  | [], xs, ps, e, h1, _ => by
    simp only [prsOf, Option.some.injEq] at e
    subst e
    simpa using h1
  | (k, d) :: r, xs, ps, e, h1, h2 => by
    cases d with
    | str z =>
      simp only [prsOf, Option.map_eq_some_iff] at e
      obtain ⟨qs, e1, rfl⟩ := e
      match xs, h1, h2 with
      | x :: xs, h1, h2 =>
        simp only [List.map_cons, List.cons.injEq] at h1
        simp only [List.map_cons] at h2
        cases h2 with
        | cons g t =>
          have z1 : x.2 = .str z := by
            revert g
            generalize x.2 = y
            intro g
            cases g
            rfl
          rw [prs_of e1 h1.2 t, List.map_cons, ← h1.1, ← z1]
    | _ => simp [prsOf] at e
theorem dda_tups {fa : Addr} {B' H' : Hp} : ∀ {ts : List Addr} {qs : List (Str × Str)}, (∀ t ∈ ts, B' t = H' t) → Paired (fun (t : Addr) (q : Str × Str) => H' t = some (.tup [.str q.1, .str q.2])) ts qs → DdA K fa B' (ts.map V.ref) (qs.map fun q => .tup [.str q.1, .str q.2])
  | _, _, _, .nil => .nil
  | _, _, f, .cons r t => .cons (.tup (.inl (.inl ((f _ List.mem_cons_self).trans r))) (.cons (.str _) (.cons (.str _) .nil))) (dda_tups (fun t ht => f t (List.mem_cons_of_mem _ ht)) t)
theorem im_sortIt (i : Nat) : IL K ks mg W (tSortIt (tVar i)) (mSortIt i) := by
  intro Z ad σ H B s Q rp q
  unfold mSortIt at q
  cases e : s.at i with
  | un => rw [e] at q; exact q.elim
  | val d => rw [e] at q; exact q.elim
  | own ds => rw [e] at q; exact q.elim
  | dic kvs =>
    rw [e] at q
    dsimp only at q
    cases c : prsOf kvs with
    | none => rw [c] at q; exact q.elim
    | some ps =>
      rw [c] at q
      obtain ⟨h1, h2, h3, h4, xs, h5, h6, h7⟩ := rp.dic e
      rw [prs_of c h6 h7] at h5
      refine ⟨_, h1, ad i, ps, rfl, h5, fun H' p ts k1 k2 k3 k4 k5 k6 => ?_⟩
      have nb : ∀ b o, B b = some o → b ∉ ts := fun b o z w => by
        have y := rp.bh b o z
        rw [k3 b w] at y
        cases y
      have pn : p ∉ ts := k4
      obtain ⟨r2, st⟩ := rp.grow (H' := H') (B' := fun b => if b ∈ ts then H' b else B b) k1 (fun b o z => by
          show (if b ∈ ts then H' b else B b) = some o
          rw [if_neg (nb b o z)]
          exact z) (fun b o z => by
          have z : (if b ∈ ts then H' b else B b) = some o := z
          by_cases w : b ∈ ts
          · rw [if_pos w] at z
            exact z
          · rw [if_neg w] at z
            exact k1 b o (rp.bh b o z)) fun b o z => by
          have z : (if b ∈ ts then H' b else B b) = some o := z
          by_cases w : b ∈ ts
          · exact .inr (k3 b w)
          · rw [if_neg w] at z
            exact .inl z
      refine q _ H' _ r2 st ⟨_, p, _, rfl, rfl, rp.nofoot k2, k5, dda_tups (fun t ht => ?_) k6, ?_, rp.h0 k2, k2, fun j es z => rp.adne z k2⟩
      · exact if_pos ht
      · show (if p ∈ ts then H' p else B p) = none
        rw [if_neg pn]
        exact rp.bn k2
/-! x = {} -/
theorem Rp.putDic (rp : Rp Z ad σ H B s) {a : Addr} (i : Nat) (hf : ¬ Foot Z.fa Z.ca a) (ha : H a = some (.dK [])) (hb : B a = none) (h0 : Z.H0 a = none) :
    Rp Z (fun j => if j = i then a else ad j) (σ.set i (some (.ref a))) H B (s.put i (.dic [])) := by
  have ow : ∀ j es, (s.put i (.dic [])).at j = .own es → j ≠ i ∧ s.at j = .own es := fun j es e => by
    by_cases q : j = i
    · subst q
      by_cases l : j < s.sl.length
      · rw [Sto.at_put l] at e
        cases e
      · rw [Sto.at_put_out l] at e
        cases e
    · rw [Sto.at_put_ne q] at e
      exact ⟨q, e⟩
  refine ⟨rp.bh, rp.nof, rp.res, rp.fr0, rp.nb0, rp.b0, ?_, fun j => ?_, fun j k es fs e e' z => ?_⟩
  · unfold Sto.put
    rw [List.length_set, List.length_set, rp.len]
  · by_cases q : j = i
    · subst q
      by_cases l : j < s.sl.length
      · rw [Sto.at_put l]
        unfold SlOk
        simp only [if_true]
        exact ⟨by rw [List.getElem?_set_self (by rw [rp.len]; exact l)], h0, hb, hf, [], ha, rfl, .nil⟩
      · rw [Sto.at_put_out l]
        trivial
    · rw [Sto.at_put_ne q]
      have z := rp.sl j
      unfold SlOk at z ⊢
      rw [List.getElem?_set_ne (Ne.symm q)]
      simp only [if_neg q]
      exact z
  · obtain ⟨n1, e1⟩ := ow j es e
    obtain ⟨n2, e2⟩ := ow k fs e'
    simp only [if_neg n1, if_neg n2] at z
    exact rp.inj j k es fs e1 e2 z
def newD (i : Nat) : MS := fun s => .nx (s.put i (.dic []))
theorem is_newD (i : Nat) : IS K ks mg W (tAsg tDNewK (gName i)) (newD i) := by
  intro Z ad σ H B s D rp q p hp
  obtain ⟨r2, st⟩ := rp.made (.dK []) hp
  exact q _ _ _ B (r2.putDic i (rp.nofoot hp) upd_same (rp.bn hp) (rp.h0 hp)) (Same.refl _)
/-! x[k] = v -/
def putA (kvs : List (Str × D)) (k : Str) (v : D) : List (Str × D) := if (kvs.any fun p => decide (p.1 = k)) = true then kvs.map (fun p => if p.1 = k then (p.1, v) else p) else kvs ++ [(k, v)]
theorem putA_keys {xs : List (Key × V)} {kvs : List (Str × D)} {z : Str} {v : V} {d : D} (h : xs.map (·.1) = kvs.map (fun p => Sum.inr p.1)) :
    (xs.any fun kv => decide (kv.1 = Sum.inr z)) = (kvs.any fun p => decide (p.1 = z)) := by
  have e1 : (xs.any fun kv => decide (kv.1 = Sum.inr z)) = (xs.map (·.1)).any fun k => decide (k = Sum.inr z) := by
    rw [List.any_map]
    rfl
  rw [e1, h, List.any_map]
  congr 1
  funext p
  simp
theorem putA_rep {fa : Addr} {z : Str} {v : V} {d : D} (hv : Dd K fa B v d) : ∀ {xs : List (Key × V)} {kvs : List (Str × D)}, xs.map (·.1) = kvs.map (fun p => Sum.inr p.1) → DdA K fa B (xs.map (·.2)) (kvs.map (·.2)) →
    DdA K fa B ((xs.map fun kv => if kv.1 = Sum.inr z then (kv.1, v) else kv).map (·.2)) ((kvs.map fun p => if p.1 = z then (p.1, d) else p).map (·.2))
  | [], [], _, _ => .nil
  | [], _ :: _, h, _ => by cases h
  | _ :: _, [], h, _ => by cases h
  | x :: xs, p :: kvs, h, t => by
    simp only [List.map_cons, List.cons.injEq] at h t ⊢
    cases t with
    | cons g t =>
      refine .cons ?_ (putA_rep hv h.2 t)
      by_cases c : p.1 = z
      · rw [if_pos c, if_pos (by rw [h.1, c])]
        exact hv
      · rw [if_neg c, if_neg (fun w => c (Sum.inr.inj (h.1.symm.trans w)))]
        exact g
theorem putA_ok {fa : Addr} {xs : List (Key × V)} {kvs : List (Str × D)} {z : Str} {v : V} {d : D} (h : xs.map (·.1) = kvs.map (fun p => Sum.inr p.1)) (t : DdA K fa B (xs.map (·.2)) (kvs.map (·.2))) (hv : Dd K fa B v d) :
    (putK xs (.inr z) v).map (·.1) = (putA kvs z d).map (fun p => Sum.inr p.1) ∧ DdA K fa B ((putK xs (.inr z) v).map (·.2)) ((putA kvs z d).map (·.2)) := by
  unfold putK putA
  rw [putA_keys (v := v) (d := d) h]
  by_cases c : (kvs.any fun p => decide (p.1 = z)) = true
  · rw [if_pos c, if_pos c]
    refine ⟨?_, putA_rep hv h t⟩
    rw [List.map_map, List.map_map]
    have e1 : ((fun x : Key × V => x.1) ∘ fun kv => if kv.1 = Sum.inr z then (kv.1, v) else kv) = fun x => x.1 := by
      funext x
      show (if x.1 = Sum.inr z then (x.1, v) else x).1 = x.1
      split <;> rfl
    have e2 : ((fun p : Str × D => (Sum.inr p.1 : Key)) ∘ fun p => if p.1 = z then (p.1, d) else p) = fun p => Sum.inr p.1 := by
      funext x
      show (Sum.inr (if x.1 = z then (x.1, d) else x).1 : Key) = Sum.inr x.1
      split <;> rfl
    rw [e1, e2]
    exact h
  · rw [if_neg c, if_neg c, List.map_append, List.map_append, List.map_append, List.map_append, h]
    exact ⟨rfl, t.app (.cons hv .nil)⟩
def aloneD (s : Sto) (i : Nat) : Bool := (List.range s.sl.length).all fun j => j == i || (match s.at j with
  | .dic _ => false
  | _ => true)
def putDS (i : Nat) (mk mv : M D) : MS := bindS mv fun v s => match s.at i with
  | .dic _ => bindS mk (fun k s => match s.at i, k with
    | .dic kvs, .str z => if kvs.length < sizeLine ∧ aloneD s i = true then .nx (s.put i (.dic (putA kvs z v))) else .bad
    | _, _ => .bad) s
  | _ => .bad
theorem alone_ne {i j : Nat} {kvs : List (Str × D)} (h : aloneD s i = true) (n : j ≠ i) (e : s.at j = .dic kvs) : False := by
  have l := Sto.lt_of_at e (fun z => nomatch z)
  have z := List.all_eq_true.mp h j (List.mem_range.mpr l)
  rw [e] at z
  simp [n] at z
theorem Rp.chgD (rp : Rp Z ad σ H B s) {i : Nat} {kvs kws : List (Str × D)} {ys : List (Key × V)} (e : s.at i = .dic kvs) (al : aloneD s i = true) (h1 : ys.map (·.1) = kws.map (fun p => Sum.inr p.1)) (h2 : DdA K Z.fa B (ys.map (·.2)) (kws.map (·.2))) :
    Rp Z ad σ (upd H (ad i) (.dK ys)) B (s.put i (.dic kws)) := by
  obtain ⟨g1, g2, g3, g4, xs, g5, g6, g7⟩ := rp.dic e
  have il := Sto.lt_of_at e (fun z => nomatch z)
  have nb : ∀ b o, B b = some o → b ≠ ad i := fun b o q z => by
    rw [z, g3] at q
    cases q
  have hfoot : ∀ b, Foot Z.fa Z.ca b → upd H (ad i) (.dK ys) b = H b := fun b f => upd_ne fun z => g4 (z ▸ f)
  have ow : ∀ j es, (s.put i (.dic kws)).at j = .own es → j ≠ i ∧ s.at j = .own es := fun j es q => by
    by_cases n : j = i
    · subst n
      rw [Sto.at_put il] at q
      cases q
    · rw [Sto.at_put_ne n] at q
      exact ⟨n, q⟩
  refine ⟨fun b o q => by rw [upd_ne (nb b o q)]; exact rp.bh b o q, rp.nof, rp.res.rst hfoot, fun b o n q => ?_, rp.nb0, rp.b0, ?_, fun j => ?_, fun j k es fs q q' z => rp.inj j k es fs (ow j es q).2 (ow k fs q').2 z⟩
  · have n2 : b ≠ ad i := fun z => by
      rw [z, g2] at q
      cases q
    rw [upd_ne n2]
    exact rp.fr0 b o n q
  · unfold Sto.put
    rw [List.length_set, rp.len]
  · by_cases q : j = i
    · subst q
      rw [Sto.at_put il]
      exact ⟨g1, g2, g3, g4, ys, upd_same, h1, h2⟩
    · rw [Sto.at_put_ne q]
      have z := rp.sl j
      cases w : s.at j with
      | un => trivial
      | val d =>
        rw [w] at z
        exact z
      | own fs =>
        rw [w] at z
        obtain ⟨f1, f2, f3, f4, zs, f5, f6⟩ := z
        have n : ad j ≠ ad i := fun w => by
          rw [w, g5] at f5
          cases f5
        exact ⟨f1, f2, f3, f4, zs, by rw [upd_ne n]; exact f5, f6⟩
      | dic kus => exact (alone_ne al q w).elim
theorem is_dput (i : Nat) {tk tv : TE} {mk mv : M D} (hv : IV K ks mg W tv mv) (hk : IV K ks mg W tk mk) : IS K ks mg W (sDPut (tVar i) tk tv) (putDS i mk mv) := by
  refine is_bind (u := fun v D σ H1 => tVar i σ H1 fun x H2 => tk σ H2 fun y H3 => ∃ a H4, x = V.ref a ∧ DPut H3 a y v H4 ∧ D.nx σ H4) hv fun a x Z ad σ H B s D Hs rp hx q => ?_
  cases e : s.at i with
  | un => simp only [e] at q; exact q.elim
  | val d => simp only [e] at q; exact q.elim
  | own ds => simp only [e] at q; exact q.elim
  | dic kvs =>
    simp only [e] at q
    refine ⟨_, (rp.dic e).1, hk Z ad σ H B s _ rp ?_⟩
    unfold bindS at q
    cases e2 : mk s with
    | exc y s1 =>
      rw [e2] at q
      intro cls dd H' B' rp' st hx
      exact q ad σ H' B' cls dd rp' st.bb hx
    | bad => rw [e2] at q; exact q
    | ok b s1 =>
      rw [e2] at q
      intro y H1 B1 rp1 st hy
      dsimp only at q
      cases e3 : s1.at i with
      | un => simp only [e3] at q; exact q.elim
      | val d => simp only [e3] at q; exact q.elim
      | own ds => simp only [e3] at q; exact q.elim
      | dic kvs =>
        have hx : Dd K Z.fa B1 x a := Dd.mono st.bb hx
        cases b with
        | str z =>
          simp only [e3] at q
          by_cases c : kvs.length < sizeLine ∧ aloneD s1 i = true
          · rw [if_pos c] at q
            obtain ⟨g1, g2, g3, g4, xs, g5, g6, g7⟩ := rp1.dic e3
            obtain ⟨w1, w2⟩ := putA_ok (z := z) g6 g7 hx
            have hl : xs.length < sizeLine := by
              have l := congrArg List.length g6
              rw [List.length_map, List.length_map] at l
              rw [l]
              exact c.1
            have hy : y = .str z := by
              have hy : Dd K Z.fa B1 y (.str z) := hy
              cases hy
              rfl
            subst hy
            exact ⟨ad i, _, rfl, DPut.k (k := .inr z) g5 hl, q ad σ _ B1 (rp1.chgD e3 c.2 w1 w2) st.bb⟩
          · rw [if_neg c] at q
            exact q.elim
        | _ => simp only [e3] at q; exact q.elim
end
section
variable {ks : FK} {X : Cx} {W : WX} {a b : Expr} {ma mb : M D} {q1 pos p1 p2 p3 apos cpos : Pos} {x : Str}
theorem es_newD (i : Nat) (nd : X.N.Nodup) (hN : X.N[i]? = some x := by rfl) (hl : L2.Loc X.env.scope x := by first | exact Or.inl rfl | exact Or.inr rfl) (hs : swapsWith (.Dict [] [] p2) (some (Expr.Name x p1)) pos.line X.env = pure false := by rfl) (hf : X.fn x = true ∨ List.lookup x X.env.scope.names = some NameKind.local := by first | exact Or.inl rfl | exact Or.inr rfl) :
    ES ks X W (.Assign [.Name x p1] (.Dict [] [] p2) pos) (newD i) := ⟨_, ps_set nd hN hl pe_dnewK hs hf, is_newD i⟩
theorem el_sortIt (i : Nat) (hc : X.calm = true) (hu : X.A.units + 64 < cLine) (hm : X.mg "sorted" = none) (hN : X.N[i]? = some x := by rfl) (hv : Vis X.env.scope x := by first | exact Or.inl rfl | exact Or.inr (Or.inl rfl) | exact Or.inr (Or.inr rfl)) (hd : (x == ("__debug__" : Str)) = false := by decide) (hcd : (x == ("__classdict__" : Str)) = false := by decide)
    (hg : Gl X "sorted" := by rfl) (hbase : attributeBase (.Name x q1) "items" X.env (eval (.Name x q1) X.env) = eval (.Name x q1) X.env := by rfl) (hline : (apos.endLine == cpos.line) = true := by rfl)
    (hs : starEach [.Call (.Attribute (.Name x q1) "items" apos) [] [] cpos] X.env = (false, eval (.Call (.Attribute (.Name x q1) "items" apos) [] [] cpos) X.env) :: starEach [] X.env := by rfl) :
    EL ks X W (.Call (.Name "sorted" p1) [.Call (.Attribute (.Name x q1) "items" apos) [] [] cpos] [] pos) (mSortIt i) := ⟨_, pe_sortIt hc hu (pe_var hN hv hd hcd) hg hm hbase hline hs, im_sortIt i⟩
theorem es_dput (i : Nat) (hu : X.A.units + 1 < cLine) (hv : EV ks X W b mb) (hk : EV ks X W a ma) (hN : X.N[i]? = some x := by rfl) (hvi : Vis X.env.scope x := by first | exact Or.inl rfl | exact Or.inr (Or.inl rfl) | exact Or.inr (Or.inr rfl)) (hd : (x == ("__debug__" : Str)) = false := by decide) (hcd : (x == ("__classdict__" : Str)) = false := by decide)
    (hs : swapsWith b (some (.Subscript (.Name x q1) a p2)) pos.line X.env = pure false := by rfl) : ES ks X W (.Assign [.Subscript (.Name x q1) a p2] b pos) (putDS i ma mb) := let ⟨_, h1, h2⟩ := hv; let ⟨_, g1, g2⟩ := hk; ⟨_, ps_dput hu (pe_var hN hvi hd hcd) g1 h1 hs, is_dput i h2 g2⟩
end
end Og

set_option Elab.async false
set_option linter.all false
set_option maxRecDepth 100000
set_option maxHeartbeats 1000000
namespace Og
open PySem PySem.Spec PyProof.Rows L2
/-! ### a law's promise, with the guards of its caller -/
section
variable {P : Program} {w : World} {K : PySem.W.Frag} {mg mb : Str → Option Value} {k : Nat} {fa a : Addr} {fd : FuncData} {x : Str} {sp : Sp} {t : Shared} {vs : List Value} {ns : List Int}
/-- what is tracked of the script -/
theorem script_hp (KX : K.In t.heap) (ha : t.heap.get? a = some { cls := .type "list", data := .seq vs.toArray }) (hi : IntsAre vs ns) (hl : ns.length ≤ sizeLine) :
    ∃ H : Hp, Only H ∧ SqL K H a (ns.map V.int) ∧ HOk P w H t.heap ∧ ∀ b, H b ≠ none → b = a ∧ K.lookup a = none := by
  cases c : K.lookup a with
  | some o =>
    obtain rfl : o = { cls := .type "list", data := .seq vs.toArray } := by
      have z := KX a o c
      rw [ha] at z
      exact (Option.some.inj z).symm
    refine ⟨fun _ => none, fun _ => Or.inl rfl, Or.inr ⟨_, vs.toArray, _, c, rfl, rfl, rfl, ?_, ?_⟩, fun b u z => ?_, fun b z => (z rfl).elim⟩
    · rw [List.size_toArray, hi.length]
      exact hl
    · simpa using vals_ints hi
    · exact nomatch (show (none : Option HO) = some u from z)
  | none =>
    have at1 : ∀ b, (if b = a then some (HO.frz { cls := .type "list", data := .seq vs.toArray } (.lst (ns.map V.int))) else none) ≠ none → b = a := fun b z => by
      by_cases q : b = a
      · exact q
      · rw [if_neg q] at z
        exact (z rfl).elim
    refine ⟨fun b => if b = a then some (.frz { cls := .type "list", data := .seq vs.toArray } (.lst (ns.map V.int))) else none, fun b => ?_, Or.inl (Or.inr ⟨{ cls := .type "list", data := .seq vs.toArray }, if_pos rfl⟩), fun b u z => ?_, fun b z => ⟨at1 b z, rfl⟩⟩
    · by_cases q : b = a
      · exact Or.inr ⟨_, _, if_pos q⟩
      · exact Or.inl (if_neg q)
    · have z : (if b = a then some (HO.frz { cls := .type "list", data := .seq vs.toArray } (.lst (ns.map V.int))) else none) = some u := z
      obtain rfl := at1 b (by rw [z]; exact fun y => nomatch y)
      rw [if_pos rfl] at z
      cases z
      exact ⟨ha, by rw [List.length_map]; exact hl, vs, _, vals_ints hi, ha⟩
theorem lawG (KX : K.In t.heap) (hns : t.heap.Ns mainGlobals mg) (hb : t.heap.Ns builtinsNs mb) (hbb : ∀ y : Str, y ≠ "__name__" → mb y = bootBuiltins y) (hlim : t.heap.NoLimit) (hg : t.gens = #[])
    (ha : t.heap.get? a = some { cls := .type "list", data := .seq vs.toArray }) (hi : IntsAre vs ns) (hl : ns.length ≤ sizeLine) (hr : Room k callerA)
    (F : ∀ base : Heap, K.In base → base.Ns mainGlobals mg → FnG P w K mg base k fa fd [x] sp) (hbind : ∀ (s : Shared) (u : Value), BindsTo s fd ⟨[u], []⟩ [(x, u)])
    (hsp : ∀ H : Hp, Only H → SqL K H a (ns.map V.int) → sp [.ref a] H (fun v _ => v = .bl true) fun _ _ _ => False) :
    codeAny (model P w) callerA (.call (.ref fa) ⟨[.ref a], []⟩) (fun r s' => r = .ok (.ret (.bool true)) ∧ OldK t.heap s'.heap ∧ s'.os = t.os ∧ AllBare s'.gens) t := by
  obtain ⟨H, hO, hS, hok, hA⟩ := script_hp (P := P) (w := w) KX ha hi hl
  have keep : ∀ {b : Addr} {o : Obj}, t.heap.get? b = some o → H b = none → (hidT t.heap H).get? b = some o := fun e n => hidT_get e n
  have free : ∀ {b : Addr} {o : Obj}, t.heap.get? b = some o → b ≠ a → H b = none := fun {b o} _ n => by
    cases q : H b with
    | none => rfl
    | some u => exact (n (hA b (by rw [q]; exact fun y => nomatch y)).1).elim
  have nsK : ∀ {b : Addr} {m : Str → Option Value}, t.heap.Ns b m → (hidT t.heap H).Ns b m := fun {b m} h => by
    obtain ⟨o, es, ep, e, d, r⟩ := h
    refine ⟨o, es, ep, keep e (free e fun z => ?_), d, r⟩
    rw [z, ha] at e
    cases e
    cases d
  have hKb : K.In (hidT t.heap H) := fun b o e => keep (KX b o e) (by
    cases q : H b with
    | none => rfl
    | some u =>
      obtain ⟨z1, z2⟩ := hA b (by rw [q]; exact fun y => nomatch y)
      rw [z1, z2] at e
      cases e)
  have e0 : Env0 P w K mg (hidT t.heap H) callerA [] t H := by
    obtain ⟨mc, l1, l2⟩ := hlim
    exact { frames := rfl, mod := ⟨hKb, nsK hns, ⟨mb, nsK hb, hbb⟩, ⟨mc, nsK l1, l2⟩⟩, bs := fun b o e => of_hidT e, bsz := Nat.le_of_eq (hidT_size _ _), funs := trivial, frf := fun b z => (by cases (show b ∈ ([] : List Addr) from z)), hok := hok, bare := .of_eq hg }
  refine codeAny_mono ((F _ hKb (nsK hns)).go callerA [] t H ⟨[.ref a], []⟩ [.ref a] [.ref a] _ _ rfl hr e0 (hbind t (.ref a)) (.cons rfl .nil) (hsp H hO hS)) fun r s' h => ?_
  match r, h with
  | .error e, h =>
    obtain ⟨_, _, _, _, _, _, _, _, _, _, _, _, z⟩ := h
    exact z.elim
  | .ok .next, h => exact False.elim h
  | .ok .brk, h => exact False.elim h
  | .ok .cont, h => exact False.elim h
  | .ok (.ret u), h =>
    obtain ⟨v, H', os, bare, un, hok', r', q⟩ := h
    obtain rfl : v = .bl true := q
    obtain rfl : u = Value.bool true := r'
    refine ⟨rfl, OldK.of_keep fun b o e => ?_, os, bare⟩
    cases q : H b with
    | none => exact un.keep b o e q (fun z => by cases (show b ∈ ([] : List Addr) from z)) (by simp)
    | some u =>
      rcases hO b with z | ⟨ob, xs, z⟩
      · rw [q] at z
        cases z
      · have e1 := (hok b _ z).1
        rw [e] at e1
        cases e1
        exact (hok' b _ (un.frzs b _ _ z)).1
end
/-- the goal that the head leaves, from such a promise -/
theorem walkG {l : PySem.W.OpenLaw} {n k : Nat} {q : Program} {loose : List Str} {XP : (Str → Option Value) → Heap → Prop} {YP : World → Heap → Prop} {d : DefRec} {K : Params → PySem.W.Frag} {sp : World → Sp} {x : Str} (hn : l.most = some n) (hn2 : n ≤ sizeLine) (hdf : d.params.defaults = []) (hr : Room k callerA)
    (hY : ∀ (w : World) (h : Heap), YP w h → (K w.params).In h)
    (F : ∀ (w : World) (mg : Str → Option Value) (fa : Addr) (h : Heap), (K w.params).In h → h.Ns mainGlobals mg → mg d.name = some (.ref fa) → ∃ fd : FuncData, (∀ (s : Shared) (u : Value), BindsTo s fd ⟨[u], []⟩ [(x, u)]) ∧ ∀ base : Heap, (K w.params).In base → base.Ns mainGlobals mg → FnG l.prog w (K w.params) mg base k fa fd [x] (sp w))
    (hsp : ∀ (w : World) (H : Hp) (a : Addr) (ns : List Int), ns.length ≤ n → (∀ z ∈ ns, Builtin.Int.intBits z ≤ 1048576) → Only H → SqL (K w.params) H a (ns.map V.int) → sp w [.ref a] H (fun v _ => v = .bl true) fun _ _ _ => False) : PySem.W.WalkO q loose XP YP l.row.toRowW d [] (fun f vs => PySem.call f vs) := by
  refine Att.attach_callB hn hdf fun w t0 t mg mb fa o pm cd doc a vs ns G Y ho hd hcd hmg hobj hints hlen hbits hg => ?_
  obtain ⟨fd, hb, hF⟩ := F w mg fa _ (hY w _ Y) G.T.g hmg
  exact lawG (hY w _ Y) G.T.g G.T.b G.T.builtins G.T.nolimit hg hobj hints (Nat.le_trans hlen hn2) hr hF hb fun H hO hS => hsp w H a ns hlen hbits hO hS
end Og

set_option Elab.async false
set_option linter.all false
set_option maxRecDepth 100000
set_option maxHeartbeats 1000000
namespace Og
open PySem L2
def spBegun (K : PySem.W.Frag) (ks : FK) : Sp := fun vs H Q _ => ∃ (a : Addr) (ns : List Int), vs = [.ref a] ∧ SqL K H a (ns.map V.int) ∧ ∀ fa ca H', fa ≠ ca → FeedOk ks fa ca H' ⟨ns.take 63, 0, 0, 0⟩ → Q (.ref fa) H'
theorem cut63 (ns : List Int) : cutV (ns.map V.int) none (some 63) = (ns.take 63).map V.int := by
  unfold cutV
  rw [HT.sIx_none, show (some (63 : Int)) = some ((63 : Nat) : Int) from rfl, HT.sIx_nat, List.drop_zero, Nat.sub_zero, List.length_map, ← List.map_take]
  congr 1
  rw [List.take_eq_take_iff]
  omega
/-- the feed's maker, as a law wants to know it -/
structure BegunC (P : Program) (w : World) (K : PySem.W.Frag) (mg : Str → Option Value) (base : Heap) (ks : FK) (x : Str) : Prop where
  ex : ∃ f fd p, FnOk P w K mg base (L2.CX P w) 1 f fd [p] (spBegun K ks) ∧ mg x = some (.ref f) ∧ PySem.W.keepIn K (.ref f) = true ∧ Binds K fd [p] []
/-- a law's frame behind its first row: nothing but the feed -/
def sto1 (n : Nat) (ns : List Int) : Sto := ⟨(List.replicate n SV.un).set 1 (.val .fd), ⟨ns.take 63, 0, 0, 0⟩⟩
/-- a law keeps its promise at ns -/
def spLaw (K : PySem.W.Frag) (n : Nat) (m : MS) : Sp := fun vs H Q _ => ∃ (a : Addr) (ns : List Int), vs = [.ref a] ∧ SqL K H a (ns.map V.int) ∧ (∃ s', m (sto1 n ns) = .rt (.bl true) s') ∧ ∀ H', Q (.bl true) H'
section
variable {K : PySem.W.Frag} {ks : FK} {mg : Str → Option Value} {P : Program} {w : World} {base : Heap}
theorem start1 {fa ca : Addr} (ne : fa ≠ ca) {H : Hp} {ns : List Int} {n : Nat} {σ : L2.St} (hl : σ.length = n) (h1 : 1 < n) (fo : FeedOk ks fa ca H ⟨ns.take 63, 0, 0, 0⟩) :
    Rp (K := K) (ks := ks) ⟨fa, ca, ne, H, fun _ => none⟩ (fun _ => 0) (σ.set 1 (some (.ref fa))) H (fun _ => none) (sto1 n ns) := by
  have at1 : ∀ i, (sto1 n ns).at i = if i = 1 then .val .fd else .un := fun i => by
    unfold Sto.at sto1
    by_cases c : i = 1
    · subst c
      rw [List.getElem?_set_self (by simpa using h1), if_pos rfl]
      rfl
    · rw [List.getElem?_set_ne (Ne.symm c), if_neg c, List.getElem?_replicate]
      split <;> rfl
  refine ⟨(fun _ _ z => nomatch z), fun _ _ => rfl, fo, fun _ _ _ z => z, (fun _ _ z => nomatch z), fun _ _ z => z, ?_, fun i => ?_, fun i j es fs e => ?_⟩
  · unfold sto1
    simp [hl]
  · rw [at1 i]
    by_cases c : i = 1
    · subst c
      rw [if_pos rfl]
      exact ⟨.ref fa, by rw [List.getElem?_set_self (by omega)], .fd⟩
    · rw [if_neg c]
      trivial
  · rw [at1 i] at e
    split at e <;> cases e
/-- a def's promise, and its arguments by name -/
theorem fn_mkG {k : Nat} {x qual : Str} {st : Stmt} {f : Addr} {fd : FuncData} {N ps : List Str} {m : MS} (F : Fun K x qual st f fd) (S : FnScope N ps (defScope st))
    (hbody : ∀ (cdv : Value) (A : Around) (outer : List Env) (s : Shared) (H : Hp) (E : XK), (cxOf (L2.CX P w) P w K mg base N qual (defScope st) f cdv A outer s H E).A.guards = some [] → Room k (cxOf (L2.CX P w) P w K mg base N qual (defScope st) f cdv A outer s H E).A →
      Takes (cxOf (L2.CX P w) P w K mg base N qual (defScope st) f cdv A outer s H E) (fun cls d _ H => E cls d H) → PassesOwn (model P w) (cxOf (L2.CX P w) P w K mg base N qual (defScope st) f cdv A outer s H E).A (cxOf (L2.CX P w) P w K mg base N qual (defScope st) f cdv A outer s H E).env (cxOf (L2.CX P w) P w K mg base N qual (defScope st) f cdv A outer s H E).xe →
      ESs ks (cxOf (L2.CX P w) P w K mg base N qual (defScope st) f cdv A outer s H E) (fun cls d _ H => E cls d H) (defBody st) m) : FnG P w K mg base (k + 1) f fd ps (spG K ks mg ps.length (fnM N.length m)) :=
  fn_mk F S fun cdv A outer s H E hg hr => hbody cdv A outer s H E ((guards_deeper A _).trans hg) hr (takes_of rfl rfl rfl rfl) (passes_of rfl)
theorem fnxk_of {x p qual : Str} {st : Stmt} {f : Addr} {fd : FuncData} {k : Nat} {fn : Fn} (h : FnG P w K mg base k f fd [p] (spG K ks mg 1 fn)) (F : Fun K x qual st f fd) (hm : mg x = some (.ref f))
    (hb : ∀ (kV doc pm : Value) (an : Option Addr) (cdv ct u : Value), bindArgs (PySem.W.fnOf x qual (defArgs st) (defBody st) (defScope st) .none kV doc pm an cdv ct) ⟨[], [(p, u)]⟩ = pure [(p, u)]) : FnXK P w K mg base ks x [p] k 1 fn := by
  refine ⟨f, fd, [p], h, hm, F.kp, ⟨fun s us ws _ hl => ?_, fun {vs us zs ws} r1 r2 => ?_⟩⟩
  · obtain ⟨oc, od, kV, doc, pm, an, cdv, ct, osl, rfl, lk, hcd⟩ := F.ex
    match us, ws, hl with
    | [], [u], _ => exact .of_eq (hb kV doc pm an cdv ct u)
  · cases r1 with
    | nil => exact r2
    | cons _ _ => exact .nil
/-- THE RULE for a law -/
theorem law_mkE {k : Nat} {x y p qual : Str} {st : Stmt} {f : Addr} {fd : FuncData} {N : List Str} {m : MS} {rest : List Stmt} {p1 p2 p3 p4 : Pos} (F : Fun K x qual st f fd) (S : FnScope N [p] (defScope st)) (hN : N.length = n) (h1 : 1 < n) (hk : 1 ≤ k) (Bg : BegunC P w K mg base ks y)
    (hst : defBody st = .Assign [.Name z p1] (.Call (.Name y p2) [.Name p p3] [] p4) p5 :: rest) (hz : N[1]? = some z)
    (hfirst : ∀ (cdv : Value) (A : Around) (outer : List Env) (s : Shared) (H : Hp) (E : XK) (te : TE), PE (cxOf (L2.CX P w) P w K mg base N qual (defScope st) f cdv A outer s H E) (.Call (.Name y p2) [.Name p p3] [] p4) te →
      PS (cxOf (L2.CX P w) P w K mg base N qual (defScope st) f cdv A outer s H E) (.Assign [.Name z p1] (.Call (.Name y p2) [.Name p p3] [] p4) p5) (tAsg te (gName 1)))
    (hcall : ∀ (cdv : Value) (A : Around) (outer : List Env) (s : Shared) (H : Hp) (E : XK) (fb : Addr) (fdb : FuncData) (pb : Str), Room 1 (cxOf (L2.CX P w) P w K mg base N qual (defScope st) f cdv A outer s H E).A → FnOk P w K mg base (L2.CX P w) 1 fb fdb [pb] (spBegun K ks) → mg y = some (.ref fb) → PySem.W.keepIn K (.ref fb) = true → Binds K fdb [pb] [] →
      PE (cxOf (L2.CX P w) P w K mg base N qual (defScope st) f cdv A outer s H E) (.Call (.Name y p2) [.Name p p3] [] p4) (tCall (spBegun K ks) [] E0 (tCons (tVar 0) tNil)))
    (hbody : ∀ (cdv : Value) (A : Around) (outer : List Env) (s : Shared) (H : Hp) (E : XK), (cxOf (L2.CX P w) P w K mg base N qual (defScope st) f cdv A outer s H E).A.guards = some [] → Room k (cxOf (L2.CX P w) P w K mg base N qual (defScope st) f cdv A outer s H E).A →
      Takes (cxOf (L2.CX P w) P w K mg base N qual (defScope st) f cdv A outer s H E) (fun cls d _ H => E cls d H) → PassesOwn (model P w) (cxOf (L2.CX P w) P w K mg base N qual (defScope st) f cdv A outer s H E).A (cxOf (L2.CX P w) P w K mg base N qual (defScope st) f cdv A outer s H E).env (cxOf (L2.CX P w) P w K mg base N qual (defScope st) f cdv A outer s H E).xe →
      ESs ks (cxOf (L2.CX P w) P w K mg base N qual (defScope st) f cdv A outer s H E) (fun cls d _ H => E cls d H) rest m) : FnG P w K mg base (k + 1) f fd [p] (spLaw K n m) := by
  refine fng_of F S (fun vs H Q E h => ?_) fun cdv A outer s H vs Q E hg hr h => ?_
  · obtain ⟨a, ns, rfl, _⟩ := h
    rfl
  obtain ⟨a, ns, rfl, hs, ⟨s', hm⟩, q⟩ := h
  obtain ⟨fb, fdb, pb, F1, m1, k1, b1⟩ := Bg.ex
  obtain ⟨t, ht, hi⟩ := hbody cdv A outer s H E ((guards_deeper A _).trans hg) hr (takes_of rfl rfl rfl rfl) (passes_of rfl)
  rw [hst]
  refine ⟨_, pss_cons (hfirst cdv A outer s H E _ (hcall cdv A outer s H E fb fdb pb (hr.mono hk) F1 m1 k1 b1)) ht, ?_⟩
  have l0 : (L2.start N [V.ref a])[0]? = some (some (.ref a)) := rfl
  refine ⟨_, l0, a, ns, rfl, hs, fun fa ca H' ne fo => ?_⟩
  refine hi ⟨fa, ca, ne, H', fun _ => none⟩ (fun _ => 0) _ H' (fun _ => none) (sto1 n ns) _ (start1 ne ?_ h1 fo) ?_
  · unfold L2.start
    simp
    omega
  · rw [hm]
    intro ad σ H2 B' v rp _ hv
    cases hv
    exact q H2
end
end Og

set_option Elab.async false
set_option linter.all false
set_option maxRecDepth 100000
set_option maxHeartbeats 1000000
namespace Og
open PySem L2
/-! ### reckoning with mirrors -/
def wp {α : Type} (m : M α) (s : Sto) (Q : α → Sto → Prop) (X : Xc → Sto → Prop) : Prop := match m s with
  | .ok a s1 => Q a s1
  | .exc x s1 => X x s1
  | .bad => False
structure Fs where
  nx : Sto → Prop := fun _ => False
  rt : D → Sto → Prop := fun _ _ => False
  bk : Sto → Prop := fun _ => False
  ct : Sto → Prop := fun _ => False
  xc : Xc → Sto → Prop := fun _ _ => False
def wpS (m : MS) (s : Sto) (E : Fs) : Prop := match m s with
  | .nx s1 => E.nx s1
  | .rt d s1 => E.rt d s1
  | .bk s1 => E.bk s1
  | .ct s1 => E.ct s1
  | .exc x s1 => E.xc x s1
  | .bad => False
def wpF (o : OutF) (Q : D → Fd → Prop) (X : Xc → Fd → Prop) : Prop := match o with
  | .ok d F => Q d F
  | .exc x F => X x F
  | .bad => False
section
variable {α β : Type} {s : Sto} {X : Xc → Sto → Prop} {E : Fs}
theorem wp_eq {m : M α} {a : α} {s1 : Sto} {Q : α → Sto → Prop} (e : m s = .ok a s1) (q : Q a s1) : wp m s Q X := by
  unfold wp
  rw [e]
  exact q
theorem wp_mono {m : M α} {Q Q' : α → Sto → Prop} (h : wp m s Q X) (f : ∀ a s1, Q a s1 → Q' a s1) : wp m s Q' X := by
  unfold wp at *
  cases e : m s with
  | ok a s1 => rw [e] at h; exact f a s1 h
  | exc x s1 => rw [e] at h; exact h
  | bad => rw [e] at h; exact h
theorem wp_bind {m : M α} {k : α → M β} {Q : β → Sto → Prop} (h : wp m s (fun a s1 => wp (k a) s1 Q X) X) : wp (bindM m k) s Q X := by
  unfold wp bindM at *
  cases e : m s with
  | ok a s1 => rw [e] at h; exact h
  | exc x s1 => rw [e] at h; exact h
  | bad => rw [e] at h; exact h
theorem wp_ret {a : α} {Q : α → Sto → Prop} (q : Q a s) : wp (retM a) s Q X := q
theorem wp_opt {o : Option α} {a : α} {Q : α → Sto → Prop} (e : o = some a) (q : Q a s) : wp (optM o) s Q X := by
  subst e
  exact q
theorem wp_m1 {f : D → Option D} {m : M D} {Q : D → Sto → Prop} (h : wp m s (fun a s1 => ∃ d, f a = some d ∧ Q d s1) X) : wp (m1 f m) s Q X := wp_bind (wp_mono h fun _ _ ⟨_, e, q⟩ => wp_opt e q)
theorem wp_m2 {f : D → D → Option D} {m n : M D} {Q : D → Sto → Prop} (h : wp m s (fun a s1 => wp n s1 (fun b s2 => ∃ d, f a b = some d ∧ Q d s2) X) X) : wp (m2 f m n) s Q X :=
  wp_bind (wp_mono h fun _ _ h1 => wp_bind (wp_mono h1 fun _ _ ⟨_, e, q⟩ => wp_opt e q))
theorem wp_mA {f : List D → Option D} {m : M (List D)} {Q : D → Sto → Prop} (h : wp m s (fun a s1 => ∃ d, f a = some d ∧ Q d s1) X) : wp (mA f m) s Q X := wp_bind (wp_mono h fun _ _ ⟨_, e, q⟩ => wp_opt e q)
theorem wp_if {c : M Bool} {a b : M α} {Q : α → Sto → Prop} (h : wp c s (fun k s1 => if k = true then wp a s1 Q X else wp b s1 Q X) X) : wp (mIf c a b) s Q X := wp_bind (wp_mono h fun k s1 z => by
  cases k with
  | true => exact z
  | false => exact z)
theorem wp_var {i : Nat} {d : D} {Q : D → Sto → Prop} (e : s.at i = .val d) (q : Q d s) : wp (mVar i) s Q X := by
  unfold wp mVar
  rw [e]
  exact q
theorem wp_pk {i : Nat} {d : D} {Q : D → Sto → Prop} (e : s.at i = .val d) (q : Q d s) : wp (mPk i) s Q X := by
  unfold wp mPk
  rw [e]
  exact q
theorem wp_pkO {i : Nat} {ds : List D} {Q : D → Sto → Prop} (e : s.at i = .own ds) (q : Q (.lst ds) s) : wp (mPk i) s Q X := by
  unfold wp mPk
  rw [e]
  exact q
theorem wp_call {n : Nat} {fn : Fn} {m : M (List D)} {Q : D → Sto → Prop} (h : wp m s (fun ds s1 => ds.length = n ∧ wpF (fn ds s1.F) (fun d F' => Q d { s1 with F := F' }) (fun x F' => X x { s1 with F := F' })) X) : wp (callM n fn m) s Q X := wp_bind (wp_mono h fun ds s1 z => by
  unfold wp
  dsimp only
  rw [if_pos z.1]
  have z2 := z.2
  unfold wpF at z2
  cases e : fn ds s1.F with
  | ok d F' => rw [e] at z2; exact z2
  | exc x F' => rw [e] at z2; exact z2
  | bad => rw [e] at z2; exact z2)
theorem wpS_mono {m : MS} {E E' : Fs} (h : wpS m s E) (h1 : ∀ t, E.nx t → E'.nx t) (h2 : ∀ d t, E.rt d t → E'.rt d t) (h3 : ∀ t, E.bk t → E'.bk t) (h4 : ∀ t, E.ct t → E'.ct t) (h5 : ∀ x t, E.xc x t → E'.xc x t) : wpS m s E' := by
  unfold wpS at *
  cases e : m s with
  | nx t => rw [e] at h; exact h1 t h
  | rt d t => rw [e] at h; exact h2 d t h
  | bk t => rw [e] at h; exact h3 t h
  | ct t => rw [e] at h; exact h4 t h
  | exc x t => rw [e] at h; exact h5 x t h
  | bad => rw [e] at h; exact h
theorem wpS_bind {m : M α} {k : α → MS} (h : wp m s (fun a s1 => wpS (k a) s1 E) E.xc) : wpS (bindS m k) s E := by
  unfold wp at h
  unfold wpS bindS at *
  cases e : m s with
  | ok a s1 => rw [e] at h; exact h
  | exc x s1 => rw [e] at h; exact h
  | bad => rw [e] at h; exact h
theorem wpS_seq {m n : MS} (h : wpS m s { E with nx := fun t => wpS n t E }) : wpS (seqS m n) s E := by
  unfold wpS seqS at *
  cases e : m s with
  | nx t => rw [e] at h; exact h
  | rt d t => rw [e] at h; exact h
  | bk t => rw [e] at h; exact h
  | ct t => rw [e] at h; exact h
  | exc x t => rw [e] at h; exact h
  | bad => rw [e] at h; exact h
theorem wpS_if {c : M Bool} {a b : MS} (h : wp c s (fun k s1 => if k = true then wpS a s1 E else wpS b s1 E) E.xc) : wpS (ifS c a b) s E := wpS_bind (wp_mono h fun k s1 z => by
  cases k with
  | true => exact z
  | false => exact z)
theorem wpS_asg {i : Nat} {m : M D} (h : wp m s (fun d s1 => E.nx (s1.put i (.val d))) E.xc) : wpS (asgV i m) s E := wpS_bind h
theorem wpS_ret {m : M D} (h : wp m s E.rt E.xc) : wpS (bindS m fun d s => .rt d s) s E := wpS_bind h
theorem wpS_nil (h : E.nx s) : wpS (fun s => .nx s) s E := h
/-- a for over ds: J by what is still to come -/
theorem wpS_for {f : D → Sto → Option Sto} {b : MS} (J : List D → Sto → Prop) (hd : ∀ t, J [] t → E.nx t) (hs : ∀ d ds t, J (d :: ds) t → ∃ t1, f d t = some t1 ∧ wpS b t1 { E with nx := J ds, ct := J ds, bk := E.nx }) : ∀ (ds : List D) (s : Sto), J ds s → wpS (forS f b ds) s E
  | [], s, h => hd s h
  | d :: ds, s, h => by
    obtain ⟨t1, e, w⟩ := hs d ds s h
    unfold wpS forS
    rw [e]
    unfold wpS at w
    dsimp only
    cases e2 : b t1 with
    | nx t => rw [e2] at w; exact wpS_for J hd hs ds t w
    | ct t => rw [e2] at w; exact wpS_for J hd hs ds t w
    | bk t => rw [e2] at w; exact w
    | rt d t => rw [e2] at w; exact w
    | exc x t => rw [e2] at w; exact w
    | bad => rw [e2] at w; exact w
/-- while: J by a measure -/
theorem wpS_while {c : M Bool} {b : MS} (J : Nat → Sto → Prop) (hs : ∀ n t, J n t → wp c t (fun k t1 => if k = true then ∃ n', n = n' + 1 ∧ wpS b t1 { E with nx := J n', ct := J n', bk := E.nx } else E.nx t1) E.xc) : ∀ (n fuel : Nat) (s : Sto), n < fuel → J n s → wpS (whileS c b fuel) s E
  | _, 0, _, h, _ => absurd h (Nat.not_lt_zero _)
  | n, fuel + 1, s, h, j => by
    unfold whileS
    refine wpS_bind (wp_mono (hs n s j) fun k t1 z => ?_)
    cases k with
    | false =>
      rw [if_neg Bool.false_ne_true] at z
      exact z
    | true =>
      rw [if_pos rfl] at z
      obtain ⟨n', rfl, w⟩ := z
      unfold wpS
      simp only [if_true]
      unfold wpS at w
      cases e2 : b t1 with
      | nx t => rw [e2] at w; exact wpS_while J hs n' fuel t (by omega) w
      | ct t => rw [e2] at w; exact wpS_while J hs n' fuel t (by omega) w
      | bk t => rw [e2] at w; exact w
      | rt d t => rw [e2] at w; exact w
      | exc x t => rw [e2] at w; exact w
      | bad => rw [e2] at w; exact w
theorem wpF_fn {n : Nat} {m : MS} {ds : List D} {F : Fd} {Q : D → Fd → Prop} {Y : Xc → Fd → Prop} (h : wpS m (sto0 n ds F) { rt := fun d s => Q d s.F, nx := fun s => Q .non s.F, xc := fun x s => Y x s.F }) : wpF (fnM n m ds F) Q Y := by
  unfold wpF fnM
  unfold wpS at h
  cases e : m (sto0 n ds F) with
  | nx t => rw [e] at h; exact h
  | rt d t => rw [e] at h; exact h
  | bk t => rw [e] at h; exact h.elim
  | ct t => rw [e] at h; exact h.elim
  | exc x t => rw [e] at h; exact h
  | bad => rw [e] at h; exact h
end
end Og

set_option Elab.async false
set_option linter.all false
set_option maxRecDepth 100000
set_option maxHeartbeats 2000000
namespace Og
open PySem L2
/-! ### how large a value is, and that it can be shown -/
def A7 (s : Str) : Prop := ∀ c ∈ s.cps.toList, c < 128
mutual
def D.wt : D → Nat
  | .str z => z.length
  | .tup ds => D.wts ds
  | .lst ds => D.wts ds
  | .non => 0
  | .bl _ => 0
  | .int _ => 0
  | .fd => 0
def D.wts : List D → Nat
  | [] => 0
  | d :: ds => D.wt d + 1 + D.wts ds
end
mutual
def D.dp : D → Nat
  | .tup ds => D.dps ds + 1
  | .lst ds => D.dps ds + 1
  | .str _ => 0
  | .non => 0
  | .bl _ => 0
  | .int _ => 0
  | .fd => 0
def D.dps : List D → Nat
  | [] => 0
  | d :: ds => max (D.dp d) (D.dps ds)
end
mutual
def D.lf (T : Nat) : D → Prop
  | .str z => z.length ≤ T ∧ A7 z
  | .int i => i.natAbs < 10 ^ 60
  | .tup ds => D.lfs T ds
  | .lst ds => D.lfs T ds
  | .fd => False
  | .non => True
  | .bl _ => True
def D.lfs (T : Nat) : List D → Prop
  | [] => True
  | d :: ds => D.lf T d ∧ D.lfs T ds
end
theorem lfs_iff {T : Nat} : ∀ {ds : List D}, D.lfs T ds ↔ ∀ d ∈ ds, d.lf T
  | [] => by simp [D.lfs]
  | d :: ds => by simp [D.lfs, lfs_iff (ds := ds)]
theorem dps_le {k : Nat} : ∀ {ds : List D}, D.dps ds ≤ k ↔ ∀ d ∈ ds, d.dp ≤ k
  | [] => by simp [D.dps]
  | d :: ds => by simp [D.dps, Nat.max_le, dps_le (ds := ds)]
theorem wts_app : ∀ (xs ys : List D), D.wts (xs ++ ys) = D.wts xs + D.wts ys
  | [], ys => by simp [D.wts]
  | x :: xs, ys => by
    simp only [List.cons_append, D.wts, wts_app xs ys]
    omega
theorem wt_mem : ∀ {ds : List D} {d : D}, d ∈ ds → d.wt + 1 ≤ D.wts ds
  | x :: xs, d, h => by
    simp only [D.wts]
    rcases List.mem_cons.mp h with rfl | h
    · omega
    · have := wt_mem h
      omega
theorem len_wts : ∀ (ds : List D), ds.length ≤ D.wts ds
  | [] => Nat.le_refl _
  | d :: ds => by
    have := len_wts ds
    simp only [D.wts, List.length_cons]
    omega
mutual
theorem lf_mono {S T : Nat} (h : S ≤ T) : ∀ {d : D}, d.lf S → d.lf T
  | .str z, hd => by
    simp only [D.lf] at *
    exact ⟨Nat.le_trans hd.1 h, hd.2⟩
  | .int i, hd => by simpa only [D.lf] using hd
  | .tup ds, hd => by
    simp only [D.lf] at *
    exact lfs_mono h hd
  | .lst ds, hd => by
    simp only [D.lf] at *
    exact lfs_mono h hd
  | .fd, hd => by simp [D.lf] at hd
  | .non, hd => by simp [D.lf]
  | .bl _, hd => by simp [D.lf]
theorem lfs_mono {S T : Nat} (h : S ≤ T) : ∀ {ds : List D}, D.lfs S ds → D.lfs T ds
  | [], _ => by simp [D.lfs]
  | d :: ds, hd => by
    simp only [D.lfs] at *
    exact ⟨lf_mono h hd.1, lfs_mono h hd.2⟩
end
theorem A7.ok {z : Str} (h : A7 z) : PyData.strOk z = true := by
  unfold PyData.strOk
  rw [Array.all_eq_true]
  intro i hi
  have := h z.cps[i] (by simp)
  simp only [decide_eq_true_eq]
  omega
theorem a7_app {x y : Str} (hx : A7 x) (hy : A7 y) : A7 (x ++ y) := by
  intro c hc
  rw [PyProof.Rows.cps_toList_append] at hc
  rcases List.mem_append.mp hc with h | h
  · exact hx c h
  · exact hy c h
theorem repr_char7 {q c : Nat} (hq : q = 34 ∨ q = 39) (hc : c < 128) : ∀ x ∈ Builtin.Str.reprChar q c, x < 128 := by
  have h : ∀ q ∈ [34, 39], ∀ c < 128, ∀ x ∈ Builtin.Str.reprChar q c, x < 128 := by decide +kernel
  exact h q (by simpa using hq) c hc
theorem fold_repr7 (q : Nat) (hq : q = 34 ∨ q = 39) : ∀ (l : List Nat) (acc : Array Nat), (∀ c ∈ l, c < 128) → (∀ c ∈ acc.toList, c < 128) → ∀ c ∈ (l.foldl (fun out c => out ++ (Builtin.Str.reprChar q c).toArray) acc).toList, c < 128
  | [], acc, _, h => by simpa using h
  | x :: l, acc, hl, h => by
    rw [List.foldl_cons]
    refine fold_repr7 q hq l _ (fun c hc => hl c (List.mem_cons_of_mem _ hc)) fun c hc => ?_
    simp only [Array.toList_append, List.mem_append] at hc
    rcases hc with hc | hc
    · exact h c hc
    · exact repr_char7 hq (hl x List.mem_cons_self) c (by simpa using hc)
theorem repr7 {z : Str} (h : A7 z) : A7 (reprText z) := by
  have hq : reprQuote z = 34 ∨ reprQuote z = 39 := by
    unfold reprQuote
    split
    · exact .inl rfl
    · exact .inr rfl
  intro c hc
  unfold reprText at hc
  simp only [Array.toList_push, List.mem_append, List.mem_singleton] at hc
  rcases hc with hc | hc
  · rw [← Array.foldl_toList] at hc
    exact fold_repr7 _ hq _ _ h (by simp; omega) c hc
  · omega
theorem join7 {s : Str} (hs : A7 s) : ∀ {ts : List Str}, (∀ t ∈ ts, A7 t) → A7 (Str.join s ts)
  | [], _ => fun c hc => by
    have e : (Str.join s []).cps.toList = [] := rfl
    rw [e] at hc
    cases hc
  | [x], h => h x List.mem_cons_self
  | x :: y :: r, h => by
    have e : Str.join s (x :: y :: r) = x ++ s ++ Str.join s (y :: r) := rfl
    rw [e]
    exact a7_app (a7_app (h x List.mem_cons_self) hs) (join7 hs fun t ht => h t (List.mem_cons_of_mem _ ht))
theorem a7_lit {s : String} (h : (Str.ofString s).cps.toList.all (fun c => decide (c < 128)) = true) : A7 (Str.ofString s) := fun c hc => by
  have := List.all_eq_true.mp h c hc
  simpa using this
theorem textFrom7 : ∀ (ts : List Str) (k : Nat) (acc : Str), A7 acc → (∀ t ∈ ts, A7 t) → A7 (textFrom k acc ts)
  | [], _, _, h, _ => h
  | t :: r, k, acc, h, ht => by
    show A7 (textFrom (k + 1) (acc ++ (if k > 0 then ", " else "" : String) ++ t) r)
    refine textFrom7 r _ _ (a7_app (a7_app h ?_) (ht t List.mem_cons_self)) fun x hx => ht x (List.mem_cons_of_mem _ hx)
    split
    · exact a7_lit (by decide +kernel)
    · exact a7_lit (by decide +kernel)
theorem listText7 {ts : List Str} (h : ∀ t ∈ ts, A7 t) : A7 (listText ts) := a7_app (textFrom7 ts 0 _ (a7_lit (by decide +kernel)) h) (a7_lit (by decide +kernel))
theorem tupleText7 {ts : List Str} (h : ∀ t ∈ ts, A7 t) : A7 (tupleText ts) := by
  unfold tupleText
  refine a7_app (a7_app (a7_lit (by decide +kernel)) (join7 (a7_lit (by decide +kernel)) h)) ?_
  split
  · exact a7_lit (by decide +kernel)
  · exact a7_lit (by decide +kernel)
theorem int7 (i : Int) : A7 (PyData.int i).shown := fun c hc => by
  by_cases h : c < 128
  · exact h
  · exact absurd hc (PyProof.Rows.shown_int_free' ⟨by omega, by omega⟩ i)
mutual
theorem D.toP_ok (T : Nat) : ∀ d : D, d.lf T → ∃ p, d.toP = some p ∧ p.canLay0 = true ∧ p.leavesShort 64 = true ∧ p.showable = true ∧ p.hasDict = false ∧ p.bulk = d.wt ∧ p.depth = d.dp ∧ A7 p.shown
  | .non, _ => ⟨_, rfl, rfl, rfl, rfl, rfl, rfl, rfl, a7_lit (by decide +kernel)⟩
  | .bl b, _ => ⟨_, rfl, rfl, rfl, rfl, rfl, rfl, rfl, by cases b <;> exact a7_lit (by decide +kernel)⟩
  | .int i, h => by
    simp only [D.lf] at h
    refine ⟨.int i, rfl, rfl, ?_, ?_, rfl, rfl, rfl, int7 i⟩
    · have e := int_text_length_le10 (k := 60) (by decide) h
      have e2 : (PyData.shown (.int i)).length ≤ 64 := by
        show (Str.ofString (toString i)).length ≤ 64
        rw [ofString_length]
        omega
      simp only [PyData.leavesShort, decide_eq_true_eq]
      exact e2
    · simp only [PyData.showable, decide_eq_true_eq]
      by_cases z : i.natAbs = 0
      · rw [z]
        decide
      · have l : i.natAbs < 2 ^ 200 := Nat.lt_trans h (by decide)
        exact Nat.lt_trans ((Nat.log2_lt z).mpr l) (by decide)
  | .str z, h => by
    simp only [D.lf] at h
    refine ⟨.str z, rfl, ?_, ?_, rfl, rfl, ?_, rfl, ?_⟩
    · simp only [PyData.canLay0]
      exact h.2.ok
    · simp only [PyData.leavesShort, List.all_eq_true, decide_eq_true_eq]
      intro c hc
      have := h.2 c hc
      exact Nat.lt_trans this (by decide)
    · simp only [PyData.bulk, D.wt]
      rfl
    · simp only [PyData.shown]
      exact repr7 h.2
  | .tup ds, h => by
    simp only [D.lf] at h
    obtain ⟨ps, e, h1, h2, h3, h4, h5, h6, h7⟩ := D.toPs_ok T ds h
    refine ⟨.tuple ps, by simp [D.toP, e], by simpa only [PyData.canLay0] using h1, by simpa only [PyData.leavesShort] using h2, by simpa only [PyData.showable] using h3, by simpa only [PyData.hasDict] using h4, by simpa only [PyData.bulk, D.wt] using h5, by simpa only [PyData.depth, D.dp, Nat.add_right_cancel_iff] using h6, ?_⟩
    simp only [PyData.shown]
    exact tupleText7 h7
  | .lst ds, h => by
    simp only [D.lf] at h
    obtain ⟨ps, e, h1, h2, h3, h4, h5, h6, h7⟩ := D.toPs_ok T ds h
    refine ⟨.list ps, by simp [D.toP, e], by simpa only [PyData.canLay0] using h1, by simpa only [PyData.leavesShort] using h2, by simpa only [PyData.showable] using h3, by simpa only [PyData.hasDict] using h4, by simpa only [PyData.bulk, D.wt] using h5, by simpa only [PyData.depth, D.dp, Nat.add_right_cancel_iff] using h6, ?_⟩
    simp only [PyData.shown]
    exact listText7 h7
  | .fd, h => by simp [D.lf] at h
theorem D.toPs_ok (T : Nat) : ∀ ds : List D, D.lfs T ds → ∃ ps, D.toPs ds = some ps ∧ PyData.canLayAll0 ps = true ∧ PyData.leavesShortAll 64 ps = true ∧ PyData.showableAll ps = true ∧ PyData.hasDictAll ps = false ∧ PyData.bulkAll ps = D.wts ds ∧ PyData.depthAll ps = D.dps ds ∧ ∀ t ∈ PyData.shownAll ps, A7 t
  | [], _ => ⟨[], rfl, rfl, rfl, rfl, rfl, rfl, rfl, fun t ht => nomatch ht⟩
  | d :: ds, h => by
    simp only [D.lfs] at h
    obtain ⟨p, e, h1, h2, h3, h4, h5, h6, h7⟩ := D.toP_ok T d h.1
    obtain ⟨ps, f, g1, g2, g3, g4, g5, g6, g7⟩ := D.toPs_ok T ds h.2
    refine ⟨p :: ps, by simp [D.toPs, e, f], by simp [PyData.canLayAll0, h1, g1], by simp [PyData.leavesShortAll, h2, g2], by simp [PyData.showableAll, h3, g3], by simp [PyData.hasDictAll, h4, g4], by simp only [PyData.bulkAll, D.wts, h5, g5], by simp only [PyData.depthAll, D.dps, h6, g6], fun t ht => ?_⟩
    simp only [PyData.shownAll, List.mem_cons] at ht
    rcases ht with rfl | ht
    · exact h7
    · exact g7 t ht
end
/-- what may be shown, and be compared as a text -/
theorem repr_ok {T : Nat} {d : D} (h : d.lf T) (hw : d.wt ≤ 100000) (hd : d.dp ≤ 64) : ∃ z, reprO [d] = some (.str z) ∧ A7 z := by
  obtain ⟨p, e, h1, h2, h3, h4, h5, h6, h7⟩ := D.toP_ok T d h
  have l := PyData.shown_le_bulk 64 (by decide) p h2
  have l2 : p.shown.length ≤ sizeLine := by
    rw [sizeLine_eq]
    omega
  refine ⟨p.shown, ?_, h7⟩
  unfold reprO
  simp [e, h3, h4, l2]
  omega
theorem shaped_ok {T : Nat} {d : D} (h : d.lf T) (hd : d.dp ≤ 64) : ∃ p, shapedD d = some p := by
  obtain ⟨p, e, h1, h2, h3, h4, h5, h6, h7⟩ := D.toP_ok T d h
  refine ⟨p, ?_⟩
  unfold shapedD
  rw [e]
  simp [SeqAt.shaped, h1, h6, hd]
end Og

set_option Elab.async false
set_option linter.all false
set_option maxRecDepth 100000
set_option maxHeartbeats 2000000
namespace Og
open PySem PySem.Spec PyProof.Rows L2
/-! ### sets of texts -/
def kyS (e : Int × Value) : Str := match e.2 with
  | .str z _ => z
  | _ => Str.empty
def SgE (P : Program) (w : World) (e : Int × Value) : Prop := ∃ z tk, e.2 = Value.str z tk ∧ e.1 = (strKind P w).hash z
/-- the set of texts at a, its members in some order -/
def TxS (P : Program) (w : World) (hp : Heap) (a : Addr) (ks : List Str) : Prop :=
  ∃ ob en ep tb, hp.get? a = some ob ∧ ob.ExactSet ∧ ob.data = .set en ep tb ∧ (∀ e ∈ en.toList, SgE P w e) ∧
    en.toList.map kyS = ks ∧ ks.Nodup ∧ en.size < scanBound ∧ tb.fits en.size = true ∧ Ris tb.place.toList ∧
    (w.params.followText "set-order" = true ∨ tb.led = true)
section
variable {P : Program} {w : World} {h h' : Heap} {a : Addr} {ks : List Str}
theorem TxS.at (R : TxS P w h a ks) (k : ∀ ob, h.get? a = some ob → h'.get? a = some ob) : TxS P w h' a ks := by
  obtain ⟨ob, en, ep, tb, ho, r⟩ := R
  exact ⟨ob, en, ep, tb, k ob ho, r⟩
theorem sg_elems {l : List (Int × Value)} (g : ∀ e ∈ l, SgE P w e) : ElemsOf (strKind P w) l := fun e he => by
  obtain ⟨z, tk, h1, h2⟩ := g e he
  refine ⟨⟨z, ?_, h2⟩, ?_⟩
  · rw [h1]
    exact strKind_is P w z tk
  · rw [h1]
    rfl
theorem sg_is {e : Int × Value} (g : SgE P w e) (z : Str) : (strKind P w).is z e.2 = true ↔ kyS e = z := by
  obtain ⟨z0, tk, h1, _⟩ := g
  unfold kyS
  rw [h1]
  show ((z0 == z) = true) ↔ z0 = z
  exact beq_iff_eq
theorem sg_mem {l : List (Int × Value)} (g : ∀ e ∈ l, SgE P w e) (z : Str) : z ∈ l.map kyS ↔ ∃ e ∈ l, (strKind P w).is z e.2 = true := by
  rw [List.mem_map]
  constructor
  · rintro ⟨e, he, q⟩
    exact ⟨e, he, (sg_is (g e he) z).2 q⟩
  · rintro ⟨e, he, q⟩
    exact ⟨e, he, (sg_is (g e he) z).1 q⟩
end
section
variable {P : Program} {w : World} {A : Around} {E : Value → Shared → Prop} {s : Shared} {a : Addr} {ks : List Str}
theorem txs_tail {rl : Bool → Sem Unit} (hrl : ∀ (b : Bool) (s1 : Shared) (Q2 : Unit → Shared → Prop), Q2 () s1 → wpAny (model P w) A (rl b) Q2 E s1)
    {ob : Obj} {en : Array (Int × Value)} {ep : Nat} {tb : SetTable} (ho : s.heap.get? a = some ob) (hx : ob.ExactSet) (hd : ob.data = .set en ep tb)
    {en1 : Array (Int × Value)} {tb2 : SetTable} {k1 : List Str} (g1 : ∀ e ∈ en1.toList, SgE P w e) (m1 : en1.toList.map kyS = k1) (n1 : k1.Nodup)
    (hb1 : en1.size < scanBound) (hf2 : tb2.fits en1.size = true) (hr : Ris tb2.place.toList) (hl : w.params.followText "set-order" = true ∨ tb2.led = true)
    {was : Bool} {R : Option Bool → Shared → Prop}
    (hR : ∀ h' k2, Heap.SameBut a s.heap h' → k2.Perm k1 → TxS P w h' a k2 → R (some true) { s with heap := h' }) :
    wpAny (model P w) A (do
        storeSet a en1 tb2
        if (!was && tb2.tooFull) = true then do
            rl (relayAll tb2 en1 (SetTable.grown en1.size)).2.2
            storeSet a (relayAll tb2 en1 (SetTable.grown en1.size)).1 (relayAll tb2 en1 (SetTable.grown en1.size)).2.1
            pure (some true)
          else pure (some true)) R E s := by
  refine wpAny_bind (wpAny_storeSet_of ho hd ?_ (fits_of_scanBound hb1))
  have o1 := store_at (es' := en1) (t' := tb2) ho hd
  have b1 := Heap.SameBut.update s.heap a (Obj.putSet en1 tb2)
  split
  · have q1 := relayAll_perm tb2 en1 (SetTable.grown en1.size)
    have q2 := relayAll_fits tb2 en1 (SetTable.grown en1.size)
    have q3 := relayAll_ris tb2 en1 (SetTable.grown en1.size)
    have q4 := relayAll_led tb2 en1 (SetTable.grown en1.size)
    generalize relayAll tb2 en1 (SetTable.grown en1.size) = Zr at q1 q2 q3 q4 ⊢
    obtain ⟨en2, tb3, gv⟩ := Zr
    dsimp only at q1 q2 q3 q4 ⊢
    have sz : en2.size = en1.size := by
      rw [← Array.length_toList, q1.length_eq, Array.length_toList]
    have hb2 : en2.size < scanBound := by
      rw [sz]
      exact hb1
    refine wpAny_bind (hrl _ _ _ ?_)
    refine wpAny_bind (wpAny_storeSet_of o1 rfl ?_ (fits_of_scanBound hb2))
    have o2 := store_at (es' := en2) (t' := tb3) o1 rfl
    have pk : (en2.toList.map kyS).Perm k1 := by
      rw [← m1]
      exact q1.map kyS
    have ld : w.params.followText "set-order" = true ∨ tb3.led = true := hl.imp id fun z => by
      rw [q4]
      exact z
    exact wpAny_pure (hR _ _ (b1.trans (Heap.SameBut.update _ a _)) pk ⟨_, en2, _, tb3, o2, hx, rfl, fun e he => g1 e (q1.mem_iff.mp he), rfl, pk.nodup_iff.mpr n1, hb2, q2, q3, ld⟩)
  · exact wpAny_pure (hR _ _ b1 (List.Perm.refl _) ⟨_, en1, _, tb2, o1, hx, rfl, g1, m1, n1, hb1, hf2, hr, hl⟩)
theorem txs_add {z : Str} {tk : Tok} {Q : Bool → Shared → Prop} (R : TxS P w s.heap a ks) (room : ks.length + 1 < scanBound)
    (hQ : ∀ h' k2, Heap.SameBut a s.heap h' → TxS P w h' a k2 → (z ∈ ks → k2 = ks) → (z ∉ ks → k2.Perm (z :: ks)) → Q (!decide (z ∈ ks)) { s with heap := h' }) :
    wpAny (model P w) A (setAddHashed a (.str z tk) ((strKind P w).hash z)) Q E s := by
  obtain ⟨ob, en, ep, tb, ho, hx, hd, g, hm, nd, hb, hf, hr, hl⟩ := R
  have key : (strKind P w).is z (.str z tk) = true := strKind_is P w z tk
  have sc : (Value.str z tk).scannable = true := rfl
  have el : ElemsOf (strKind P w) en.toList := sg_elems g
  have hn : en.size = ks.length := by
    rw [← hm, List.length_map, Array.length_toList]
  unfold setAddHashed setAddHashedIn
  refine wpAny_holding (wpAny_bind (wpAny_setState_of ho hd hf ?_))
  dsimp only
  rw [byScan_of sc hb el]
  simp only [↓reduceIte]
  unfold setAddByScan
  refine wpAny_bind ?_
  refine wpAny_bind (wpAny_rule ?_)
  refine wpAny_bind (wpAny_setScan_of key ho hd hf el ?_)
  cases fi : List.findIdx? (fun e => (strKind P w).is z e.2) en.toList with
  | some j =>
    dsimp only
    obtain ⟨hj, pj, _⟩ := List.findIdx?_eq_some_iff_getElem.mp fi
    have zk : z ∈ ks := by
      rw [← hm]
      exact (sg_mem g z).2 ⟨en.toList[j], List.getElem_mem hj, pj⟩
    refine wpAny_pure (wpAny_pure ?_)
    have q := hQ s.heap ks (Heap.SameBut.refl a s.heap) ⟨ob, en, ep, tb, ho, hx, hd, g, hm, nd, hb, hf, hr, hl⟩ (fun _ => rfl) (fun c => absurd zk c)
    rw [decide_eq_true zk] at q
    exact q
  | none =>
    dsimp only
    have nk : z ∉ ks := fun c => by
      rw [← hm] at c
      obtain ⟨e, he, q⟩ := (sg_mem g z).1 c
      have cc := List.findIdx?_eq_none_iff.mp fi e he
      rw [q] at cc
      cases cc
    have gw : ∀ (b : Bool) {s1 : Shared} {Q2 : Unit → Shared → Prop}, Q2 () s1 → wpAny (model P w) A (match b with | true => rule "set.scan.the-table-gave-way" | false => pure ()) Q2 E s1 := fun b s1 Q2 q => by
      cases b <;> first | exact wpAny_pure q | exact wpAny_rule q
    have q1 := layNew_perm tb en ((strKind P w).hash z) (.str z tk)
    have q2 := layNew_fits tb en ((strKind P w).hash z) (.str z tk)
    have q3 := layNew_ris tb en ((strKind P w).hash z) (.str z tk) hr
    have q4 := layNew_led tb en ((strKind P w).hash z) (.str z tk)
    generalize layNew tb en ((strKind P w).hash z) (.str z tk) = Zr at q1 q2 q3 q4 ⊢
    obtain ⟨en1, tb1, was, gave⟩ := Zr
    dsimp only at q1 q2 q3 q4 ⊢
    rw [Array.toList_push] at q1
    have pc : en1.toList.Perm (((strKind P w).hash z, Value.str z tk) :: en.toList) := q1.trans (List.perm_append_singleton _ _)
    have pk : (en1.toList.map kyS).Perm (z :: ks) := by
      rw [← hm]
      exact pc.map kyS
    have g1 : ∀ e ∈ en1.toList, SgE P w e := fun e he => by
      rcases List.mem_cons.mp (pc.mem_iff.mp he) with c | c
      · rw [c]
        exact ⟨z, tk, rfl, rfl⟩
      · exact g e c
    have n1 : (en1.toList.map kyS).Nodup := pk.nodup_iff.mpr (List.nodup_cons.mpr ⟨nk, nd⟩)
    have sz : en1.size = ks.length + 1 := by
      rw [← Array.length_toList, pc.length_eq, List.length_cons, Array.length_toList, hn]
    have hb1 : en1.size < scanBound := by
      rw [sz]
      exact room
    have ld : w.params.followText "set-order" = true ∨ tb1.led = true := hl.imp id fun c => by
      rw [q4]
      exact c
    have fin : ∀ h' k2, Heap.SameBut a s.heap h' → k2.Perm (en1.toList.map kyS) → TxS P w h' a k2 → Q true { s with heap := h' } := fun h' k2 sb p r => by
      have q := hQ h' k2 sb r (fun c => absurd c nk) (fun _ => p.trans pk)
      rw [decide_eq_false nk] at q
      exact q
    refine wpAny_bind (gw _ ?_)
    split
    · refine wpAny_bind ?_
      rw [hashByValue_scannable 8 sc]
      refine wpAny_pure ?_
      refine txs_tail ?_ ho hx hd g1 rfl n1 hb1 ?_ ?_ ?_ ?_
      · intro b s1 Q2 q
        cases b <;> first | exact wpAny_pure q | exact wpAny_rule q
      · first | (split <;> first | exact q2 | exact SetTable.fits_plain_off q2) | exact q2
      · first | (split <;> exact q3) | exact q3
      · first | (split <;> exact ld) | exact ld
      · intro h' k2 sb p r
        dsimp only
        exact wpAny_pure (fin h' k2 sb p r)
    · refine wpAny_bind (wpAny_pure ?_)
      simp only [↓reduceIte]
      refine txs_tail ?_ ho hx hd g1 rfl n1 hb1 q2 q3 ld ?_
      · intro b s1 Q2 q
        cases b <;> first | exact wpAny_pure q | exact wpAny_rule q
      · intro h' k2 sb p r
        dsimp only
        exact wpAny_pure (fin h' k2 sb p r)
theorem txs_fresh {hp : Heap} {D : Addr} (ho : hp.get? D = some { cls := .type "set", dict := none, data := .set #[] 0 (.fresh 0 0 (!w.params.followText "set-order")) }) : TxS P w hp D [] :=
  ⟨_, #[], 0, _, ho, ⟨rfl, rfl, rfl⟩, rfl, (fun e he => by simp at he), by simp, List.nodup_nil, (by decide), (by rfl), List.Pairwise.nil, by
    show _ ∨ (!w.params.followText "set-order") = true
    cases w.params.followText "set-order"
    · exact .inr rfl
    · exact .inl rfl⟩
end
end Og

set_option Elab.async false
set_option linter.all false
set_option maxRecDepth 100000
set_option maxHeartbeats 4000000
namespace Og
open PySem PySem.Spec PyProof.Rows L2
/-! ### set(xs) of texts -/
section
variable {P : Program} {w : World} {A : Around} {G : Array GenState → Array GenState → Prop} {I : Addr} {fp wr : List Addr} {n : Nat} {Pv : Nat → Value → Prop} {St : Nat → Shared → Prop} {R : Result → Shared → Prop}
/-- the loop that puts them in -/
theorem txs_loop (W : WalksS P w A.in1 I fp wr G n Pv St) (D : Addr) (hD : D ∉ fp) (xs : List Str) (hn : xs.length = n) (few : n < 4000)
    (hv : ∀ i v, Pv i v → ∃ t, v = .str (xs.getD i Str.empty) t) :
    ∀ (m i : Nat) (s : Shared) (ks : List Str), n - i = m → i ≤ n → St i s → TxS P w s.heap D ks → ks.length ≤ i → (∀ z, z ∈ ks ↔ z ∈ xs.take i) →
      (∀ s' k2, Moved (D :: wr) G s s' → TxS P w s'.heap D k2 → k2.length ≤ n → (∀ z, z ∈ k2 ↔ z ∈ xs) → R (.ok (.ret .none)) s') →
      codeAny (model P w) A (.builtin "set.update.loop" ⟨[.ref D, .ref I], []⟩) R s := by
  have nw : D ∉ wr := fun q => hD (W.sub _ q)
  have sub : ∀ b ∈ wr, b ∈ D :: wr := fun b hb => List.mem_cons_of_mem _ hb
  intro m
  induction m with
  | zero =>
    intro i s ks e1 e2 st tx lk mem fin
    obtain rfl : i = n := by omega
    refine codeAny_builtin PyProof.Rows.F.entry_set_update_loop ?_
    rw [Around.under_plainId PyProof.Rows.F.plain_set_update_loop _]
    show wpAny _ A.in1 (pyNext (.ref I) >>= _) _ _ s
    refine wpAny_bind (W.done s _ _ st fun s' hm => ?_)
    show wpAny _ A.in1 (ret Value.none) _ _ s'
    exact wpAny_pure (fin s' ks (hm.mono sub) (tx.at fun ob q => hm.heap D ob nw q) lk fun z => by
      rw [mem z, List.take_of_length_le (by omega)])
  | succ m ih =>
    intro i s ks e1 e2 st tx lk mem fin
    have lt : i < n := by omega
    refine codeAny_builtin PyProof.Rows.F.entry_set_update_loop ?_
    rw [Around.under_plainId PyProof.Rows.F.plain_set_update_loop _]
    show wpAny _ A.in1 (pyNext (.ref I) >>= _) _ _ s
    refine wpAny_bind (W.item i s _ _ lt st fun v s' hP st' hm => ?_)
    obtain ⟨t, rfl⟩ := hv i v hP
    have tx' : TxS P w s'.heap D ks := tx.at fun ob q => hm.heap D ob nw q
    have gx : xs.getD i Str.empty ∈ xs ∧ xs.take (i + 1) = xs.take i ++ [xs.getD i Str.empty] := by
      have li : i < xs.length := by omega
      rw [List.getD_eq_getElem?_getD, List.getElem?_eq_getElem li]
      refine ⟨List.getElem_mem li, ?_⟩
      rw [List.take_add_one, List.getElem?_eq_getElem li]
      rfl
    generalize xs.getD i Str.empty = z at *
    show wpAny _ A.in1 (holding [Value.str z t] (setAdd D (.str z t)) >>= _) _ _ s'
    refine wpAny_bind (wpAny_holding ?_)
    unfold setAdd
    refine wpAny_holding ?_
    refine wpAny_bind ((strKind P w).pyHash (k := z) (strKind_is _ _ _ _) ?_)
    refine txs_add (s := { s' with toks := s'.toks + 1 }) tx' (by unfold scanBound; omega) fun h' k2 sb tx2 old new => ?_
    have lk2 : k2.length ≤ i + 1 := by
      by_cases c : z ∈ ks
      · rw [old c]
        omega
      · rw [(new c).length_eq, List.length_cons]
        omega
    have mem2 : ∀ y, y ∈ k2 ↔ y ∈ xs.take (i + 1) := fun y => by
      rw [gx.2, List.mem_append, List.mem_singleton]
      by_cases c : z ∈ ks
      · rw [old c, mem y]
        exact ⟨.inl, fun q => q.elim id fun q => by
          rw [q]
          exact (mem z).1 c⟩
      · rw [(new c).mem_iff, List.mem_cons, mem y]
        exact Or.comm
    refine wpAny_pure ⟨plainId_quiet PyProof.Rows.F.plain_set_update_loop _, ih (i + 1) _ k2 (by omega) lt (W.frame _ s' _ _ st' (Nat.le_succ _) fun b hb o e => ?_) tx2 lk2 mem2 fun s2 k3 hm2 tx3 l3 m3 => ?_⟩
    · rw [sb.2 b (fun q : b = D => hD (by rw [← q]; exact hb))]
      exact e
    · refine fin s2 k3 (Moved.trans W.gtrans ((hm.mono sub).then_heap (Nat.le_succ _) fun b o hb e => ?_) hm2) tx3 l3 m3
      rw [sb.2 b (fun q : b = D => hb (by rw [q]; exact List.mem_cons_self))]
      exact e
end
section
variable {P : Program} {w : World} {A : Around} {E : Value → Shared → Prop} {s : Shared}
abbrev newO (w : World) : Obj := { cls := .type "set", dict := none, data := .set #[] 0 (.fresh 0 0 (!w.params.followText "set-order")) }
set_option maxHeartbeats 6400000 in
theorem call_set_txl {l : Addr} {items : Array Value} {xs : List Str} {Q : Value → Shared → Prop}
    (hh : A.handled = none) (hl : s.heap.IsList l items) (hi : StrsAre items.toList xs) (few : xs.length < 4000)
    (q : ∀ (h' : Heap) (tk : Nat) (ks : List Str), TxS P w h' s.heap.objs.size ks → ks.length ≤ xs.length → (∀ z, z ∈ ks ↔ z ∈ xs) → (∀ b o, s.heap.get? b = some o → h'.get? b = some o) → Q (.ref s.heap.objs.size) { s with heap := h', toks := tk }) :
    wpAny (model P w) A (call (.type "set") [.ref l]) Q E s := by
  obtain ⟨c, tl, hmro⟩ := PySem.F.called_set.mro
  have made := PySem.F.called_set.made
  have isub := PySem.F.called_set.sub
  refine wpAny_call (codeAny_of_tree ?_)
  show wpAny _ _ (callAny (.type "set") _) _ _ _
  refine wpAny_pure ⟨Code.quiet_builtin _ (by decide +kernel), codeAny_builtin PySem.F.entry_type_call ?_⟩
  rw [Around.under_plain (weight_type_call_type "set" [.ref l] []) rfl]
  have t1 := PySem.F.called_set.notType
  have t2 := PySem.F.called_set.canCreate
  have t3 := PySem.F.typeCall_set_1 (.ref l)
  repeat (any_goals (first | assumption | wp_step))
  refine codeAny_mono (code_set_led1 (.ref l) (E := E) (Q₁ := fun obj s1 => obj = .ref s.heap.objs.size ∧ s1 = { s with heap := s.heap.push (newO w) }) ⟨rfl, rfl⟩) fun r s1 hr => ?_
  cases r with
  | error e => exact hr
  | ok fl =>
    cases fl with
    | ret obj =>
      obtain ⟨rfl, rfl⟩ := hr
      have hS : (s.heap.push (newO w)).get? s.heap.objs.size = some (newO w) := Heap.get?_push_size _ rfl
      have hT : Shared.TypeIs { s with heap := s.heap.push (newO w) } (.ref s.heap.objs.size) "set" := ⟨_, hS, rfl⟩
      have i1 := PySem.F.called_set.init.lookup
      have i2 := PySem.F.called_set.init.bind (.ref s.heap.objs.size)
      repeat (any_goals (first | assumption | wp_step))
      refine codeAny_mono (codeAny_call_builtin (R := wants (fun r s2 => r = .none ∧ ∃ h' tk ks, s2 = { s with heap := h', toks := tk } ∧ TxS P w h' s.heap.objs.size ks ∧ ks.length ≤ xs.length ∧ (∀ z, z ∈ ks ↔ z ∈ xs) ∧ (∀ b o, s.heap.get? b = some o → h'.get? b = some o)) E) PySem.F.called_set.init.plain PySem.F.entry_set_init (check_set_init_1 hT ?_)) fun r2 s2 hr2 => ?_
      · obtain ⟨ol, hol, hcl, nl, hdl⟩ := hl
        obtain ⟨ocls, odict, odata, oslots⟩ := ol
        simp only at hcl hdl
        subst hcl
        subst hdl
        have hol' : (s.heap.push (newO w)).get? l = some { cls := .type "list", dict := odict, data := .seq items nl, slots := oslots } := Heap.get?_push_of_some _ hol
        have u1 := PySem.F.sub_list_set
        have u2 := PySem.F.sub_list_frozenset
        have u3 : (Value.type "list" == Value.type "dict") = false := by decide
        have hl1 : (s.heap.push (newO w)).IsList l items := ⟨_, hol', rfl, nl, rfl⟩
        unfold Builtin.«set.__init__» noKeywords Builtin.Frozenset.updateFrom
        generalize hPI : pyIter = PI
        wp_walk
        subst hPI
        refine wpAny_pyIter_list hl1 ?_
        refine wpAny_bind (wpAny_runValue ?_)
        have lS : l < s.heap.objs.size := Heap.lt_size hol
        have a3 : A.in1.in1.in1.handled = none := by simp [hh]
        have neI : l ≠ (s.heap.push (newO w)).objs.size := by
          rw [Heap.size_push]
          exact Nat.ne_of_lt (Nat.lt_succ_of_lt lS)
        have nin : s.heap.objs.size ∉ [(s.heap.push (newO w)).objs.size, l] := by
          rw [Heap.size_push]
          simp only [List.mem_cons, List.mem_singleton, List.not_mem_nil, or_false, not_or]
          exact ⟨Nat.ne_of_lt (Nat.lt_succ_self _), Nat.ne_of_gt lS⟩
        have sz : xs.length = items.size := by rw [← StrsAre.len_eq hi, Array.length_toList]
        have val : ∀ (i : Nat) (v : Value), items[i]? = some v → ∃ t, v = .str (xs.getD i Str.empty) t := fun i v e => SS.strs_at hi i v (by rw [Array.getElem?_toList]; exact e)
        refine txs_loop ((Walks.list a3 _ l neI items).toS) s.heap.objs.size nin xs sz (by omega) val (items.size - 0) 0 _ [] (by omega) (Nat.zero_le _) ⟨⟨_, Heap.get?_push_size _ rfl, rfl, rfl⟩, (hl1.push _)⟩ (txs_fresh (Heap.get?_push_of_some _ hS)) (by simp) (fun z => by simp) ?_
        intro s' ks hm tx lk mem
        obtain ⟨h', g', d', tk', os'⟩ := s'
        have eg : g' = s.gens := hm.gens
        have ed : d' = s.drawn := hm.drawn
        have eo : os' = s.os := hm.os
        subst eg
        subst ed
        subst eo
        show wpAny _ _ _ _ _ _
        refine wpAny_pure ?_
        show wpAny _ _ (ret Value.none) _ _ _
        refine wpAny_pure ⟨rfl, h', tk', ks, rfl, tx, by omega, mem, fun b o e => ?_⟩
        have lb := Heap.lt_size e
        have hb1 : b ≠ s.heap.objs.size := Nat.ne_of_lt lb
        have hb2 : b ≠ (s.heap.push (newO w)).objs.size := by
          rw [Heap.size_push]
          exact Nat.ne_of_lt (Nat.lt_succ_of_lt lb)
        exact hm.heap b o (by simp only [List.mem_cons, List.mem_singleton, List.not_mem_nil, or_false, not_or]; exact ⟨hb1, hb2⟩) (Heap.get?_push_of_some _ (Heap.get?_push_of_some _ e))
      · cases r2 with
        | error e => exact hr2
        | ok fl2 =>
          cases fl2 with
          | ret r =>
            obtain ⟨rfl, h', tk, ks, rfl, tx, lk, mem, k⟩ := hr2
            repeat (any_goals (first | assumption | wp_step))
            exact q _ _ _ tx lk mem k
          | _ => exact hr2.elim
    | _ => exact hr.elim
end
end Og

set_option Elab.async false
set_option linter.all false
set_option maxRecDepth 100000
set_option maxHeartbeats 4000000
namespace Og
open PySem PySem.Spec PyProof.Rows L2
section
variable {P : Program} {w : World} {A : Around} {E : Value → Shared → Prop} {s : Shared}
set_option maxHeartbeats 6400000 in
theorem call_set_txt {l : Addr} {items : Array Value} {xs : List Str} {Q : Value → Shared → Prop}
    (hh : A.handled = none) (hl : s.heap.IsTuple l items) (hi : StrsAre items.toList xs) (few : xs.length < 4000)
    (q : ∀ (h' : Heap) (tk : Nat) (ks : List Str), TxS P w h' s.heap.objs.size ks → ks.length ≤ xs.length → (∀ z, z ∈ ks ↔ z ∈ xs) → (∀ b o, s.heap.get? b = some o → h'.get? b = some o) → Q (.ref s.heap.objs.size) { s with heap := h', toks := tk }) :
    wpAny (model P w) A (call (.type "set") [.ref l]) Q E s := by
  obtain ⟨c, tl, hmro⟩ := PySem.F.called_set.mro
  have made := PySem.F.called_set.made
  have isub := PySem.F.called_set.sub
  refine wpAny_call (codeAny_of_tree ?_)
  show wpAny _ _ (callAny (.type "set") _) _ _ _
  refine wpAny_pure ⟨Code.quiet_builtin _ (by decide +kernel), codeAny_builtin PySem.F.entry_type_call ?_⟩
  rw [Around.under_plain (weight_type_call_type "set" [.ref l] []) rfl]
  have t1 := PySem.F.called_set.notType
  have t2 := PySem.F.called_set.canCreate
  have t3 := PySem.F.typeCall_set_1 (.ref l)
  repeat (any_goals (first | assumption | wp_step))
  refine codeAny_mono (code_set_led1 (.ref l) (E := E) (Q₁ := fun obj s1 => obj = .ref s.heap.objs.size ∧ s1 = { s with heap := s.heap.push (newO w) }) ⟨rfl, rfl⟩) fun r s1 hr => ?_
  cases r with
  | error e => exact hr
  | ok fl =>
    cases fl with
    | ret obj =>
      obtain ⟨rfl, rfl⟩ := hr
      have hS : (s.heap.push (newO w)).get? s.heap.objs.size = some (newO w) := Heap.get?_push_size _ rfl
      have hT : Shared.TypeIs { s with heap := s.heap.push (newO w) } (.ref s.heap.objs.size) "set" := ⟨_, hS, rfl⟩
      have i1 := PySem.F.called_set.init.lookup
      have i2 := PySem.F.called_set.init.bind (.ref s.heap.objs.size)
      repeat (any_goals (first | assumption | wp_step))
      refine codeAny_mono (codeAny_call_builtin (R := wants (fun r s2 => r = .none ∧ ∃ h' tk ks, s2 = { s with heap := h', toks := tk } ∧ TxS P w h' s.heap.objs.size ks ∧ ks.length ≤ xs.length ∧ (∀ z, z ∈ ks ↔ z ∈ xs) ∧ (∀ b o, s.heap.get? b = some o → h'.get? b = some o)) E) PySem.F.called_set.init.plain PySem.F.entry_set_init (check_set_init_1 hT ?_)) fun r2 s2 hr2 => ?_
      · obtain ⟨ol, hol, hcl, nl, hdl⟩ := hl
        obtain ⟨ocls, odict, odata, oslots⟩ := ol
        simp only at hcl hdl
        subst hcl
        subst hdl
        have hol' : (s.heap.push (newO w)).get? l = some { cls := .type "tuple", dict := odict, data := .seq items nl, slots := oslots } := Heap.get?_push_of_some _ hol
        have u1 := PySem.F.sub_tuple_set
        have u2 := PySem.F.sub_tuple_frozenset
        have u3 : (Value.type "tuple" == Value.type "dict") = false := by decide
        have hl1 : (s.heap.push (newO w)).IsTuple l items := ⟨_, hol', rfl, nl, rfl⟩
        unfold Builtin.«set.__init__» noKeywords Builtin.Frozenset.updateFrom
        generalize hPI : pyIter = PI
        wp_walk
        subst hPI
        refine wpAny_pyIter_tuple hl1 ?_
        refine wpAny_bind (wpAny_runValue ?_)
        have lS : l < s.heap.objs.size := Heap.lt_size hol
        have a3 : A.in1.in1.in1.handled = none := by simp [hh]
        have neI : l ≠ (s.heap.push (newO w)).objs.size := by
          rw [Heap.size_push]
          exact Nat.ne_of_lt (Nat.lt_succ_of_lt lS)
        have nin : s.heap.objs.size ∉ [(s.heap.push (newO w)).objs.size, l] := by
          rw [Heap.size_push]
          simp only [List.mem_cons, List.mem_singleton, List.not_mem_nil, or_false, not_or]
          exact ⟨Nat.ne_of_lt (Nat.lt_succ_self _), Nat.ne_of_gt lS⟩
        have sz : xs.length = items.size := by rw [← StrsAre.len_eq hi, Array.length_toList]
        have val : ∀ (i : Nat) (v : Value), items[i]? = some v → ∃ t, v = .str (xs.getD i Str.empty) t := fun i v e => SS.strs_at hi i v (by rw [Array.getElem?_toList]; exact e)
        refine txs_loop ((Walks.tuple a3 _ l neI items).toS) s.heap.objs.size nin xs sz (by omega) val (items.size - 0) 0 _ [] (by omega) (Nat.zero_le _) ⟨⟨_, Heap.get?_push_size _ rfl, rfl, rfl⟩, (hl1.push _)⟩ (txs_fresh (Heap.get?_push_of_some _ hS)) (by simp) (fun z => by simp) ?_
        intro s' ks hm tx lk mem
        obtain ⟨h', g', d', tk', os'⟩ := s'
        have eg : g' = s.gens := hm.gens
        have ed : d' = s.drawn := hm.drawn
        have eo : os' = s.os := hm.os
        subst eg
        subst ed
        subst eo
        show wpAny _ _ _ _ _ _
        refine wpAny_pure ?_
        show wpAny _ _ (ret Value.none) _ _ _
        refine wpAny_pure ⟨rfl, h', tk', ks, rfl, tx, by omega, mem, fun b o e => ?_⟩
        have lb := Heap.lt_size e
        have hb1 : b ≠ s.heap.objs.size := Nat.ne_of_lt lb
        have hb2 : b ≠ (s.heap.push (newO w)).objs.size := by
          rw [Heap.size_push]
          exact Nat.ne_of_lt (Nat.lt_succ_of_lt lb)
        exact hm.heap b o (by simp only [List.mem_cons, List.mem_singleton, List.not_mem_nil, or_false, not_or]; exact ⟨hb1, hb2⟩) (Heap.get?_push_of_some _ (Heap.get?_push_of_some _ e))
      · cases r2 with
        | error e => exact hr2
        | ok fl2 =>
          cases fl2 with
          | ret r =>
            obtain ⟨rfl, h', tk, ks, rfl, tx, lk, mem, k⟩ := hr2
            repeat (any_goals (first | assumption | wp_step))
            exact q _ _ _ tx lk mem k
          | _ => exact hr2.elim
    | _ => exact hr.elim
end
end Og

set_option Elab.async false
set_option linter.all false
set_option maxRecDepth 100000
set_option maxHeartbeats 4000000
namespace Og
open PySem PySem.Spec PyProof.Rows L2
/-! ### sorted(set(xs)), len(set(xs)) of texts -/
def dedS : List Str → List Str
  | [] => []
  | x :: xs => if x ∈ xs then dedS xs else x :: dedS xs
theorem mem_dedS {z : Str} : ∀ {xs : List Str}, z ∈ dedS xs ↔ z ∈ xs
  | [] => by simp [dedS]
  | x :: xs => by
    unfold dedS
    split
    · rename_i c
      rw [mem_dedS, List.mem_cons]
      exact ⟨.inr, fun q => q.elim (fun q => by rw [q]; exact c) id⟩
    · rw [List.mem_cons, List.mem_cons, mem_dedS]
theorem nodup_dedS : ∀ xs : List Str, (dedS xs).Nodup
  | [] => by simp [dedS]
  | x :: xs => by
    unfold dedS
    split
    · exact nodup_dedS xs
    · rename_i c
      exact List.nodup_cons.mpr ⟨fun q => c (mem_dedS.mp q), nodup_dedS xs⟩
def leT (a b : Str) : Bool := decide (a.cps.toList ≤ b.cps.toList)
def uniqS (xs : List Str) : List Str := (dedS xs).mergeSort leT
theorem leT_trans (a b c : Str) (h1 : leT a b = true) (h2 : leT b c = true) : leT a c = true := by
  simp only [leT, decide_eq_true_eq] at *
  exact List.le_trans h1 h2
theorem leT_total (a b : Str) : (leT a b || leT b a) = true := by
  simp only [leT, Bool.or_eq_true, decide_eq_true_eq]
  exact List.le_total _ _
theorem leT_anti {a b : Str} (h1 : leT a b = true) (h2 : leT b a = true) : a = b := by
  simp only [leT, decide_eq_true_eq] at *
  have e := List.le_antisymm h1 h2
  cases a
  cases b
  simp at e
  simp [e]
theorem uniqS_of {ks xs : List Str} (nd : ks.Nodup) (hm : ∀ z, z ∈ ks ↔ z ∈ xs) : ks.mergeSort leT = uniqS xs := by
  have p1 := List.mergeSort_perm ks leT
  have p2 := List.mergeSort_perm (dedS xs) leT
  have p : (ks.mergeSort leT).Perm ((dedS xs).mergeSort leT) := p1.trans (((List.perm_ext_iff_of_nodup nd (nodup_dedS xs)).mpr fun z => by rw [hm z, mem_dedS]).trans p2.symm)
  exact p.eq_of_pairwise (fun a b _ _ h1 h2 => leT_anti h1 h2) (List.pairwise_mergeSort leT_trans leT_total ks) (List.pairwise_mergeSort leT_trans leT_total (dedS xs))
theorem uniqS_mem {z : Str} {xs : List Str} : z ∈ uniqS xs ↔ z ∈ xs := by
  unfold uniqS
  rw [(List.mergeSort_perm (dedS xs) leT).mem_iff, mem_dedS]
theorem uniqS_len (xs : List Str) : (uniqS xs).length = (dedS xs).length := (List.mergeSort_perm (dedS xs) leT).length_eq
theorem dedS_len {ks xs : List Str} (nd : ks.Nodup) (hm : ∀ z, z ∈ ks ↔ z ∈ xs) : ks.length = (dedS xs).length :=
  ((List.perm_ext_iff_of_nodup nd (nodup_dedS xs)).mpr fun z => by rw [hm z, mem_dedS]).length_eq
section
variable {P : Program} {w : World} {A : Around} {E : Value → Shared → Prop} {s : Shared} {a : Addr} {ks : List Str}
theorem strs_back : ∀ {vs : List Value} {zs : List Str}, PySem.W.EachIs (fun v z => ∃ t, v = Value.str z t) vs zs → StrsAre vs zs
  | _, _, .nil => .nil
  | _, _, .cons ⟨t, e⟩ r => by
    rw [e]
    exact .cons _ t (strs_back r)
theorem sorted_txs {Q : Value → Shared → Prop} (R : TxS P w s.heap a ks) (hh : A.handled = none) (hu : A.units + 8 < cLine)
    (q : ∀ s' p (out : Array Value) (c : Nat) (ys : List Str), (∀ b o, s.heap.get? b = some o → s'.heap.get? b = some o) → s'.gens = s.gens → s'.os = s.os → s.heap.objs.size ≤ p →
      s'.heap.get? p = some (seqObj "list" out c) → StrsAre out.toList ys → ys = ks.mergeSort leT → Q (.ref p) s') :
    wpAny (model P w) A (call (.builtin "sorted") [.ref a]) Q E s := by
  obtain ⟨ob, en, ep, tb, ho, hx, hd, g, hm, nd, hb, hf, hr, hl⟩ := R
  refine Calls.call_function_entry kind_sorted plain_sorted entry_sorted (args_sorted1 _) ?_
  unfold Builtin.«sorted»
  refine wpAny_bind (m := checkCount "sorted" 1 1 _) (wpAny_pure ?_)
  refine wpAny_bind (collect_set (A := A.in1) hh ⟨ob, ho, hx.1, hd⟩ hf hb hr hl fun s1 vs k1 hz g1 o1 pm => ?_)
  have kp : (vs.map fun v => kyS (0, v)).Perm ks := by
    have z := pm.map fun v => kyS ((0 : Int), v)
    rw [List.map_map] at z
    rw [← hm]
    exact z
  have each : ∀ us : List Value, (∀ v ∈ us, v ∈ en.toList.map (·.2)) → PySem.W.EachIs (fun v z => ∃ t, v = Value.str z t) us (us.map fun v => kyS (0, v)) := by
    intro us
    induction us with
    | nil => intro _; exact .nil
    | cons v us ih =>
      intro h
      refine .cons ?_ (ih fun u hu => h u (List.mem_cons_of_mem _ hu))
      obtain ⟨e, he, q⟩ := List.mem_map.mp (h v List.mem_cons_self)
      obtain ⟨z, tk, h1, _⟩ := g e he
      rw [← q, h1]
      exact ⟨tk, rfl⟩
  have eR := each vs fun v hv => pm.mem_iff.mp hv
  generalize hks1 : (vs.map fun v => kyS ((0 : Int), v)) = ks1 at kp eR
  have lv : vs.length = ks1.length := by rw [← hks1, List.length_map]
  have l1 : ks1.length ≤ sizeLine := by
    have q := fits_of_scanBound hb
    have q2 : en.size = ks.length := by rw [← hm, List.length_map, Array.length_toList]
    rw [kp.length_eq]
    omega
  refine wpAny_bind (wpAny_newList ?_ (by rw [lv]; exact l1))
  have hoL : (s1.heap.push (seqObj "list" vs.toArray 0)).get? s1.heap.objs.size = some (seqObj "list" vs.toArray 0) := Heap.get?_push_size _ rfl
  have hal : PySem.W.AllAlike (ks1.map PyData.str) := PySem.W.AllAlike.of fun b b' => rfl
  have hso : PySem.W.Sortable (ks1.map PyData.str) := PySem.W.Sortable.others fun b => ⟨(fun z => nomatch z), (fun xs z => nomatch z)⟩
  refine wpAny_bind (wpAny_holding (wpAny_mono (PySem.W.list_sort_data (s := { s1 with heap := s1.heap.push (seqObj "list" vs.toArray 0) }) (n := 0) (vs := vs) (bs := ks1) (enc := PyData.str) (Q := fun _ s' => Q (.ref s1.heap.objs.size) s') hoL eR (eR.mono fun v b z => by
    obtain ⟨t, rfl⟩ := z
    exact ⟨_, .str _ _, by simp⟩) hal hso l1 (fun b _ => ?_) fun out lo eo => ?_) (fun _ s' x => ?_) fun _ _ e => e))
  · have d1 : (PyData.str b).depth = 0 := rfl
    rw [d1]
    show A.units + 1 + 1 + 0 < cLine
    omega
  · obtain ⟨c, hc⟩ := sortedHeap_at (vs := vs) (out := out.toArray) hoL
    rw [PySem.W.dataLe_str] at eo
    have e1 : ks1.mergeSort (fun a b => decide (a.cps.toList ≤ b.cps.toList)) = ks.mergeSort leT := by
      have p1 := List.mergeSort_perm ks1 leT
      have p2 := List.mergeSort_perm ks leT
      exact ((p1.trans kp).trans p2.symm).eq_of_pairwise (fun a b _ _ h1 h2 => leT_anti h1 h2) (List.pairwise_mergeSort leT_trans leT_total ks1) (List.pairwise_mergeSort leT_trans leT_total ks)
    rw [e1] at eo
    refine q _ s1.heap.objs.size out.toArray c _ (fun b u e => ?_) g1 o1 hz hc (by rw [List.toList_toArray]; exact strs_back eo) rfl
    have q1 := k1 b u e
    have hlt := Heap.lt_size q1
    show (sortedHeap (s1.heap.push (seqObj "list" vs.toArray 0)) s1.heap.objs.size vs out.toArray).get? b = some u
    rw [sortedHeap_old (Nat.ne_of_lt hlt) (by rw [size_push']; exact Nat.lt_succ_of_lt hlt)]
    exact Heap.get?_push_of_some _ q1
  · exact wpAny_pure ⟨_, rfl, x⟩
end
end Og

set_option Elab.async false
set_option linter.all false
set_option maxRecDepth 100000
set_option maxHeartbeats 4000000
namespace Og
open PySem PySem.Spec PyProof.Rows L2
section
variable {X : Cx}
theorem vals_strs : ∀ {ys : List Str} {us : List Value}, StrsAre us ys → Vals (ys.map V.str) us
  | _, _, .nil => .nil
  | _, _, .cons y t r => .cons ⟨t, rfl⟩ (vals_strs r)
/-- set(a), a a list or a tuple of texts: what stands stands, the new set is at no name's place -/
theorem run_set {a : Expr} {ta : TE} {p2 q : Pos} {pins : List (Addr × Obj)} {s : Shared} {σ : L2.St} {H : Hp} {Q : Value → Shared → Prop} (hc : X.calm = true) (hg2 : Gl X "set") (hm2 : X.mg "set" = none) (ha : PE X a ta)
    (na : starEach [a] X.env = (false, eval a X.env) :: starEach [] X.env) (I : Inv X pins σ H s)
    {R0 : V → Hp → Prop} (h : ta σ H R0) (h0 : ∀ x H1, R0 x H1 → ∃ (l : Addr) (xs : List Str), x = .ref l ∧ (SqL X.K H1 l (xs.map V.str) ∨ SqT X.K H1 l (xs.map V.str)) ∧ xs.length < 4000 ∧
      ∀ s2 D ks, Inv X pins σ H1 s2 → TxS X.prog X.w s2.heap D ks → ks.length ≤ xs.length → (∀ z, z ∈ ks ↔ z ∈ xs) → Q (.ref D) s2) :
    wpAny (model X.prog X.w) X.A (eval (.Call (.Name "set" p2) [a] [] q) X.env) Q X.xe s := by
  refine Call_ (ld_blt I hg2 hm2 boot_set ?_)
  refine PyProof.Rows.callWith_type1 (PyProof.Rows.args_cons (thn (ha.run pins s σ H _ I h) fun v s1 ⟨x, H1, I1, r1, q1⟩ => PyProof.Rows.args_nil ?_) na) na rfl
  obtain ⟨l, xs, rfl, hq, few, q1⟩ := h0 x H1 q1
  cases r1
  rcases hq with hq | hq
  · obtain ⟨its, r, pl, hz⟩ := I1.list hq
    exact call_set_txl (I1.ok.hd hc) pl.isList (by simpa using strsAre_of r) few fun h' tk ks tx lk mem k => q1 { s1 with heap := h', toks := tk } _ ks (I1.kept k) tx lk mem
  · obtain ⟨its, r, pl, hz⟩ := I1.tuple hq
    exact call_set_txt (I1.ok.hd hc) pl (by simpa using strsAre_of r) few fun h' tk ks tx lk mem k => q1 { s1 with heap := h', toks := tk } _ ks (I1.kept k) tx lk mem
def tUniq (K : PySem.W.Frag) (ta : TE) : TE := fun σ H Q => ta σ H fun x H1 => ∃ (l : Addr) (xs : List Str), x = .ref l ∧ (SqL K H1 l (xs.map V.str) ∨ SqT K H1 l (xs.map V.str)) ∧ xs.length < 4000 ∧ ∀ p, H1 p = none → Q (.ref p) (upd H1 p (.lst ((uniqS xs).map V.str)))
theorem pe_uniq {a : Expr} {ta : TE} {p p2 q pos : Pos} (hc : X.calm = true) (hu : X.A.units + 64 < cLine) (hg : Gl X "sorted") (hm : X.mg "sorted" = none) (hg2 : Gl X "set") (hm2 : X.mg "set" = none) (ha : PE X a ta)
    (na : starEach [a] X.env = (false, eval a X.env) :: starEach [] X.env := by rfl)
    (ns : starEach [.Call (.Name "set" p2) [a] [] q] X.env = (false, eval (.Call (.Name "set" p2) [a] [] q) X.env) :: starEach [] X.env := by rfl) :
    PE X (.Call (.Name "sorted" p) [.Call (.Name "set" p2) [a] [] q] [] pos) (tUniq X.K ta) := by
  refine ⟨fun pins s σ H Q I h => ?_⟩
  have hv : bootBuiltins "sorted" = some (.builtin "sorted") := by decide +kernel
  refine wpAny_Call_Name_kw (ld_blt I hg hm hv ?_)
  refine PyProof.Rows.callWith_builtin1 ?_ ns rfl
  rw [ns]
  show wpAny _ _ (spliced ((false, eval (.Call (.Name "set" p2) [a] [] q) X.env) :: backTo pos (starEach [] X.env))) _ _ s
  refine Calls.spliced_cons ?_
  refine run_set hc hg2 hm2 ha na I h fun x H1 ⟨l, xs, e, hq, few, q1⟩ => ⟨l, xs, e, hq, few, fun s2 D ks I2 tx lk mem => ?_⟩
  refine Calls.spliced_nil ?_
  refine sorted_txs tx (I2.ok.hd hc) (by omega) fun s3 p out c ys k g o hz hp hys e => ?_
  have nd : ks.Nodup := by
    obtain ⟨_, _, _, _, _, _, _, _, _, nd, _⟩ := tx
    exact nd
  rw [uniqS_of nd mem] at e
  subst e
  have hlen : ((uniqS xs).map V.str).length ≤ sizeLine := by
    rw [List.length_map, uniqS_len, ← dedS_len nd mem]
    exact Nat.le_trans (by omega : ks.length ≤ 4000) (by decide)
  have hn : H1 p = none := I2.hok.fresh hz
  have J : Inv X pins σ (upd H1 p (.lst ((uniqS xs).map V.str))) s3 :=
    I2.call' (ch := []) o (Un.laid k hz hn) (I2.hok.laid k hz ⟨hlen, out.toList, c, vals_strs hys, by rw [Array.toArray_toList]; exact hp⟩) (by rw [g]; exact I2.bare) (fun _ z => nomatch z)
  exact ⟨.ref p, _, J, rfl, q1 p hn⟩
def tLenU (K : PySem.W.Frag) (ta : TE) : TE := fun σ H Q => ta σ H fun x H1 => ∃ (l : Addr) (xs : List Str), x = .ref l ∧ (SqL K H1 l (xs.map V.str) ∨ SqT K H1 l (xs.map V.str)) ∧ xs.length < 4000 ∧ Q (.int (dedS xs).length) H1
theorem pe_lenU {a : Expr} {ta : TE} {p p2 q pos : Pos} (hc : X.calm = true) (hg : Gl X "len") (hm : X.mg "len" = none) (hg2 : Gl X "set") (hm2 : X.mg "set" = none) (ha : PE X a ta)
    (na : starEach [a] X.env = (false, eval a X.env) :: starEach [] X.env := by rfl)
    (ns : starEach [.Call (.Name "set" p2) [a] [] q] X.env = (false, eval (.Call (.Name "set" p2) [a] [] q) X.env) :: starEach [] X.env := by rfl) :
    PE X (.Call (.Name "len" p) [.Call (.Name "set" p2) [a] [] q] [] pos) (tLenU X.K ta) := by
  refine ⟨fun pins s σ H Q I h => ?_⟩
  refine wpAny_Call_Name_kw (ld_blt I hg hm boot_len ?_)
  refine PyProof.Rows.callWith_builtin1 ?_ ns rfl
  rw [ns]
  show wpAny _ _ (spliced ((false, eval (.Call (.Name "set" p2) [a] [] q) X.env) :: backTo pos (starEach [] X.env))) _ _ s
  refine Calls.spliced_cons ?_
  refine run_set hc hg2 hm2 ha na I h fun x H1 ⟨l, xs, e, hq, few, q1⟩ => ⟨l, xs, e, hq, few, fun s2 D ks I2 tx lk mem => ?_⟩
  refine Calls.spliced_nil ?_
  obtain ⟨ob, en, ep, tb, ho, hx, hd, g, hm, nd, hb, hf, hr, hl⟩ := tx
  have sz : en.size = (dedS xs).length := by
    rw [← dedS_len nd mem, ← hm, List.length_map, Array.length_toList]
  have fit : ((en.size : Nat) : Int) < 2 ^ 63 := by
    have : en.size < 4096 := hb
    have e63 : (2 : Int) ^ 63 = 9223372036854775808 := by decide
    omega
  exact call_len_set ho hx hd hf fit ⟨.int (dedS xs).length, H1, I2.tok _, ⟨_, by rw [sz]⟩, q1⟩
end
end Og

set_option Elab.async false
set_option linter.all false
set_option maxRecDepth 100000
set_option maxHeartbeats 2000000
namespace Og
open PySem L2
section
variable {K : PySem.W.Frag} {ks : FK} {fa : Addr} {B : Hp}
theorem dda_strs : ∀ xs : List Str, DdA K fa B (xs.map V.str) (xs.map D.str)
  | [] => .nil
  | x :: xs => .cons (.str x) (dda_strs xs)
/-! sorted(set(xs)), len(set(xs)) -/
def textsO : D → Option (List Str)
  | .lst ds => strsOf ds
  | .tup ds => strsOf ds
  | _ => none
def uniqO (d : D) : Option D := (textsO d).bind fun xs => if xs.length < 4000 then some (.lst ((uniqS xs).map D.str)) else none
def lenUO (d : D) : Option D := (textsO d).bind fun xs => if xs.length < 4000 then some (.int ((dedS xs).length : Nat)) else none
theorem texts_of {Z : Zt K ks} {ad : Nat → Addr} {σ : L2.St} {H B Hs : Hp} {s : Sto} {x : V} {d : D} {xs : List Str} (rp : Rp Z ad σ H B s) (hx : rP Z ad s H B Hs x d) (e : textsO d = some xs) : ∃ l, x = .ref l ∧ (SqL K H l (xs.map V.str) ∨ SqT K H l (xs.map V.str)) := by
  unfold textsO at e
  split at e
  · obtain ⟨a, ys, rfl, ha, ra⟩ := rP_lst rp hx
    have e2 := strsOf_v ra e
    subst e2
    exact ⟨a, rfl, .inl (SqL.of ha)⟩
  · obtain ⟨a, ys, rfl, hb, ha, ra⟩ := rP_tup rp hx
    have e2 := strsOf_v ra e
    subst e2
    exact ⟨a, rfl, .inr ha⟩
  · cases e
def rUniq (K : PySem.W.Frag) : V → Hp → VK → Prop := fun x H Q => ∃ (l : Addr) (xs : List Str), x = .ref l ∧ (SqL K H l (xs.map V.str) ∨ SqT K H l (xs.map V.str)) ∧ xs.length < 4000 ∧ ∀ p, H p = none → Q (.ref p) (upd H p (.lst ((uniqS xs).map V.str)))
theorem o_uniq : Op1 (@rL K ks) (rUniq K) uniqO := by
  intro Z ad σ H B s x dx d Q rp hx e q
  unfold uniqO at e
  rw [Option.bind_eq_some_iff] at e
  obtain ⟨xs, e1, e2⟩ := e
  split at e2
  · rename_i few
    cases e2
    obtain ⟨l, rfl, h1⟩ := texts_of rp hx e1
    refine ⟨l, xs, rfl, h1, few, fun p hp => ?_⟩
    obtain ⟨r2, st⟩ := rp.made (.lst ((uniqS xs).map V.str)) hp
    exact q _ _ _ r2 st (rp.newL hp (dda_strs _))
  · cases e2
def rLenU (K : PySem.W.Frag) : V → Hp → VK → Prop := fun x H Q => ∃ (l : Addr) (xs : List Str), x = .ref l ∧ (SqL K H l (xs.map V.str) ∨ SqT K H l (xs.map V.str)) ∧ xs.length < 4000 ∧ Q (.int (dedS xs).length) H
theorem o_lenU : Op1 (@rV K ks) (rLenU K) lenUO := by
  intro Z ad σ H B s x dx d Q rp hx e q
  unfold lenUO at e
  rw [Option.bind_eq_some_iff] at e
  obtain ⟨xs, e1, e2⟩ := e
  split at e2
  · rename_i few
    cases e2
    obtain ⟨l, rfl, h1⟩ := texts_of rp hx e1
    exact ⟨l, xs, rfl, h1, few, q _ H B rp Stp.refl (.int _)⟩
  · cases e2
/-! all(xs) -/
def boolsOf : List D → Option (List Bool)
  | [] => some []
  | .bl b :: ds => (boolsOf ds).map (b :: ·)
  | _ => none
theorem boolsOf_v : ∀ {xs : List V} {ds : List D} {bs : List Bool}, DdA K fa B xs ds → boolsOf ds = some bs → xs = bs.map V.bl
  | _, [], _, .nil, h => by
    cases h
    rfl
  | _, .bl b :: ds, bs, .cons h t, e => by
    have e : (boolsOf ds).map (b :: ·) = some bs := e
    rw [Option.map_eq_some_iff] at e
    obtain ⟨cs, e1, rfl⟩ := e
    cases h
    rw [boolsOf_v t e1]
    rfl
  | _, .non :: _, _, .cons _ _, e => by cases e
  | _, .int _ :: _, _, .cons _ _, e => by cases e
  | _, .str _ :: _, _, .cons _ _, e => by cases e
  | _, .tup _ :: _, _, .cons _ _, e => by cases e
  | _, .lst _ :: _, _, .cons _ _, e => by cases e
  | _, .fd :: _, _, .cons _ _, e => by cases e
def allO : List D → Option D
  | [.lst ds] => (boolsOf ds).map fun bs => .bl (bs.all id)
  | _ => none
theorem o_all : OpA (@rV K ks) (rAll K) allO := by
  intro Z ad σ H B s xs dx d Q rp hx e q
  unfold allO at e
  split at e
  · rw [Option.map_eq_some_iff] at e
    obtain ⟨bs, e1, rfl⟩ := e
    obtain ⟨v, rfl, h⟩ := pka1 (ad := ad) (s := s) (Hs := H) hx
    obtain ⟨a, ys, rfl, ha, ra⟩ := rP_lst rp h
    have e2 := boolsOf_v ra e1
    subst e2
    exact ⟨a, bs, rfl, SqL.of ha, q _ H B rp Stp.refl (.bl _)⟩
  · cases e
/-! a slice of a list or a tuple or a text, as a value -/
def slV : D → Option Int → Option Int → Option D
  | .lst ds, lo, hi => some (.lst (cutD ds lo hi))
  | d, lo, hi => slO d lo hi
theorem o_slV : Op3 (@rV K ks) (fun x lo hi H Q => (rSlS x lo hi H Q ∨ rSlA K x lo hi H Q) ∨ rSlL K x lo hi H Q) slV := by
  intro Z ad σ H B s x lo hi dx d Q rp hx e q
  unfold slV at e
  split at e
  · cases e
    obtain ⟨a, xs, rfl, ha, ra⟩ := rP_lst rp hx
    refine .inr ⟨a, xs, rfl, SqL.of ha, fun p hp => ?_⟩
    obtain ⟨r2, st⟩ := rp.laid (.lst (cutV xs lo hi)) hp
    exact q _ _ _ r2 st (.lst upd_same ((ra.cut lo hi).mono st.bb))
  · exact .inl (o_sl Z ad σ H B s x lo hi dx d Q rp hx e q)
/-! x == (), x a tuple -/
def rNil (K : PySem.W.Frag) (neg : Bool) : R2 := fun x y H Q => ∃ a b xs, x = .ref a ∧ y = .ref b ∧ SqT K H a xs ∧ SqT K H b [] ∧ Q (.bl (if neg then !xs.isEmpty else xs.isEmpty)) H
def nilO (neg : Bool) : D → D → Option D
  | .tup ds, .tup [] => some (.bl (if neg then !ds.isEmpty else ds.isEmpty))
  | _, _ => none
theorem o_nil (neg : Bool) : Op2 (@rV K ks) (rNil K neg) (nilO neg) := by
  intro Z ad σ H B s x y dx dy d Q rp hx hy e q
  unfold nilO at e
  split at e
  · cases e
    obtain ⟨a, xs, rfl, _, ha, ra⟩ := rP_tup rp hx
    obtain ⟨b, ys, rfl, _, hb, rb⟩ := rP_tup rp hy
    cases rb
    refine ⟨a, b, xs, rfl, rfl, ha, hb, ?_⟩
    rw [isEmpty_len ra.len]
    exact q _ H B rp Stp.refl (.bl _)
  · cases e
end
end Og

set_option Elab.async false
set_option linter.all false
set_option maxRecDepth 100000
set_option maxHeartbeats 4000000
namespace Og
open PySem PySem.Spec PyProof.Rows L2 AutoSeq1
section
variable {prog : Program} {w : World} {A : Around} {R : Result → Shared → Prop}
theorem tup_eqNil (l b : Addr) (items : Array Value) (n n2 : Nat) (dd dd2 : Option Addr) (sl sl2 : Array (Option Value)) {s : Shared} (hl1 : s.heap.get? l = some { cls := .type "tuple", dict := dd, data := .seq items n, slots := sl }) (hb1 : s.heap.get? b = some { cls := .type "tuple", dict := dd2, data := .seq #[] n2, slots := sl2 })
    (fin : R (.ok (.ret (.bool (items.size == 0)))) s) :
    wpAny (model prog w) A.in1 (Builtin.«tuple.__eq__» ⟨[.ref l, .ref b], []⟩) (GQ.FinOf prog w A R) (fun e s' => R (.error e) s') s := by
  have f2 := AutoSeq1.sub_tuple_tuple
  have hz : items.toList.zip (#[] : Array Value).toList = [] := by simp
  obtain ⟨hp, g, d, tk, os⟩ := s
  wp_walk using wpAny_loadPart' hl1, wpAny_loadPart' hb1, wpAny_forIn_list _ (fun rest b s' => b.1 = none ∧ rest = [] ∧ s' = ⟨hp, g, d, tk, os⟩) _
  case turn =>
    rintro ⟨y, x⟩ rest b s' ⟨_, h, _⟩
    cases h
  case fin =>
    rintro ⟨b1, b2⟩ s' ⟨hb', _, rfl⟩
    simp only at hb'
    subst hb'
    wp_walk
    exact fin
  case h =>
    exact ⟨rfl, hz, rfl⟩
theorem tup_neNil (l b : Addr) (items : Array Value) (n n2 : Nat) (dd dd2 : Option Addr) (sl sl2 : Array (Option Value)) {s : Shared} (hl1 : s.heap.get? l = some { cls := .type "tuple", dict := dd, data := .seq items n, slots := sl }) (hb1 : s.heap.get? b = some { cls := .type "tuple", dict := dd2, data := .seq #[] n2, slots := sl2 })
    (fin : R (.ok (.ret (.bool (items.size != 0)))) s) :
    wpAny (model prog w) A.in1 (Builtin.«tuple.__ne__» ⟨[.ref l, .ref b], []⟩) (GQ.FinOf prog w A R) (fun e s' => R (.error e) s') s := by
  have f2 := AutoSeq1.sub_tuple_tuple
  have hz : items.toList.zip (#[] : Array Value).toList = [] := by simp
  obtain ⟨hp, g, d, tk, os⟩ := s
  wp_walk using wpAny_loadPart' hl1, wpAny_loadPart' hb1, wpAny_forIn_list _ (fun rest b s' => b.1 = none ∧ rest = [] ∧ s' = ⟨hp, g, d, tk, os⟩) _
  case turn =>
    rintro ⟨y, x⟩ rest b s' ⟨_, h, _⟩
    cases h
  case fin =>
    rintro ⟨b1, b2⟩ s' ⟨hb', _, rfl⟩
    simp only at hb'
    subst hb'
    wp_walk
    exact fin
  case h =>
    exact ⟨rfl, hz, rfl⟩
end
section
variable {prog : Program} {w : World} {A : Around} {E : Value → Shared → Prop} {s : Shared}
theorem rc_eqNil {l b : Addr} {items : Array Value} {Q : Value → Shared → Prop} (hu : A.units < cLine) (hl : s.heap.IsTuple l items) (hb : s.heap.IsTuple b #[]) (q : Q (.bool (items.size == 0)) s) : wpAny (model prog w) A (richCompare .Eq (.ref l) (.ref b)) Q E s := by
  obtain ⟨⟨cls, dd, data, sl⟩, ho, hc, n, hd⟩ := id hl
  obtain ⟨⟨cls2, dd2, data2, sl2⟩, ho2, hc2, n2, hd2⟩ := id hb
  simp only at hc hd hc2 hd2
  subst hc hd hc2 hd2
  refine wpAny_richCompare_same_room (op := .Eq) ⟨_, ho, rfl⟩ ⟨_, ho2, rfl⟩ PySem.F.slot_tuple_eq (GQ.call_here PySem.F.slot_tuple_eq ⟨_, ho, rfl⟩ PySem.F.entry_tuple_eq (PySem.F.args_tuple_eq_2 _ _) ?_) hu
  exact tup_eqNil (R := wants (fun v s' => v ≠ .notImplemented ∧ Q v s') E) l b items n n2 dd dd2 sl sl2 ho ho2 ⟨(fun x => nomatch x), q⟩
theorem rc_neNil {l b : Addr} {items : Array Value} {Q : Value → Shared → Prop} (hu : A.units < cLine) (hl : s.heap.IsTuple l items) (hb : s.heap.IsTuple b #[]) (q : Q (.bool (items.size != 0)) s) : wpAny (model prog w) A (richCompare .NotEq (.ref l) (.ref b)) Q E s := by
  obtain ⟨⟨cls, dd, data, sl⟩, ho, hc, n, hd⟩ := id hl
  obtain ⟨⟨cls2, dd2, data2, sl2⟩, ho2, hc2, n2, hd2⟩ := id hb
  simp only at hc hd hc2 hd2
  subst hc hd hc2 hd2
  refine wpAny_richCompare_same_room (op := .NotEq) ⟨_, ho, rfl⟩ ⟨_, ho2, rfl⟩ PySem.F.slot_tuple_ne (GQ.call_here PySem.F.slot_tuple_ne ⟨_, ho, rfl⟩ PySem.F.entry_tuple_ne (PySem.F.args_tuple_ne_2 _ _) ?_) hu
  exact tup_neNil (R := wants (fun v s' => v ≠ .notImplemented ∧ Q v s') E) l b items n n2 dd dd2 sl sl2 ho ho2 ⟨(fun x => nomatch x), q⟩
end
section
variable {X : Cx}
theorem op_eqNil (hu : X.A.units + 64 < cLine) : OpR X (compareOp .Eq) (rNil X.K false) := by
  intro pins s σ H x y v u Q I rx ry h
  obtain ⟨a, b, xs, rfl, rfl, ha, hb, q⟩ := h
  cases rx
  cases ry
  obtain ⟨its, r1, p1, _⟩ := I.tuple ha
  obtain ⟨its2, r2, p2, _⟩ := I.tuple hb
  cases r2
  have l := r1.length
  refine rc_eqNil (E := X.xe) (Q := EP X pins σ Q) (by omega) p1 p2 ⟨.bl _, H, I, rfl, ?_⟩
  have e : (its.toArray.size == 0) = xs.isEmpty := by
    rw [List.size_toArray, ← l]
    cases xs <;> rfl
  rw [e]
  exact q
theorem op_neNil (hu : X.A.units + 64 < cLine) : OpR X (compareOp .NotEq) (rNil X.K true) := by
  intro pins s σ H x y v u Q I rx ry h
  obtain ⟨a, b, xs, rfl, rfl, ha, hb, q⟩ := h
  cases rx
  cases ry
  obtain ⟨its, r1, p1, _⟩ := I.tuple ha
  obtain ⟨its2, r2, p2, _⟩ := I.tuple hb
  cases r2
  have l := r1.length
  refine rc_neNil (E := X.xe) (Q := EP X pins σ Q) (by omega) p1 p2 ⟨.bl _, H, I, rfl, ?_⟩
  have e : (its.toArray.size != 0) = !xs.isEmpty := by
    rw [List.size_toArray, ← l]
    cases xs <;> rfl
  rw [e]
  exact q
/-! x.extend(t), t a tuple -/
theorem ext_tup (l : Addr) (items : Array Value) (n : Nat) (b : Addr) (items2 : Array Value) (n2 : Nat) (dd : Option Addr) (sl : Array (Option Value)) (h0 : ¬(!items.isEmpty && Builtin.List.listTooLong (items.size + items2.size)) = true) (h1 : items.size ≤ sizeLine) (h2 : items.size + items2.size ≤ sizeLine + 1) :
    Meets (Builtin.«list.extend» ⟨[.ref l, .ref b], []⟩) (fun _ R s => s.heap.get? l = some { cls := .type "list", dict := none, data := .seq items n, slots := #[] } ∧ s.heap.get? b = some { cls := .type "tuple", dict := dd, data := .seq items2 n2, slots := sl } ∧
      R (.ok (.ret Value.none)) { s with heap := s.heap.update l (Obj.mapSeq fun x => x ++ items2), toks := s.toks }) :=
  .of_wp fun prog w A R s h => by
    obtain ⟨hp, g, d, tk, os⟩ := s
    obtain ⟨hl, hb, h⟩ := h
    have f1 := idx_int
    have f2 := AutoSeq1.sub_tuple_tuple
    have f3 := AutoSeq1.sub_list_list
    have f4 := AutoSeq1.sub_tuple_list
    have f5 := AutoSeq1.sub_list_tuple
    have hz2 : (items ++ items2).size ≤ sizeLine + 1 := by
      rw [Array.size_append]
      exact h2
    wp_walk using (wpAny_updateSeq hl rfl (hz := h1) (_hz' := hz2)), wpAny_loadPart' hl, wpAny_loadPart' hb
    exact ⟨_, rfl, h⟩
def rExtT (K : PySem.W.Frag) : V → List V → Hp → VK → Prop := fun x vs H Q => ∃ l b xs zs, x = .ref l ∧ vs = [.ref b] ∧ H l = some (.lst xs) ∧ SqT K H b zs ∧ xs.length + zs.length ≤ sizeLine ∧ Q .non (upd H l (.lst (xs ++ zs)))
theorem mt_extendT : MtM X "list.extend" (rExtT X.K) := by
  intro pins s σ H x vs v us Q I rx rv h
  obtain ⟨l, b, xs, zs, rfl, rfl, hH, hB, hz, q⟩ := h
  cases rx
  obtain ⟨u, rfl, ru⟩ := rv.one
  cases ru
  obtain ⟨z, its, n, r, hl, e⟩ := I.lstM hH
  obtain ⟨its2, r2, pl, _⟩ := I.tuple hB
  have hl2 := r2.length
  obtain ⟨⟨cls, dd, data, sl⟩, ho, hc, n2, hd⟩ := id pl
  simp only at hc hd
  subst hc hd
  have hsz : its.toArray.size + its2.toArray.size ≤ sizeLine := by
    rw [List.size_toArray, List.size_toArray]
    omega
  have hlong : ¬ (!its.toArray.isEmpty && Builtin.List.listTooLong (its.toArray.size + its2.toArray.size)) = true := by
    rw [notLongL hsz, Bool.and_false]
    exact Bool.false_ne_true
  refine call_meets PySem.F.slot_list_extend ⟨_, e, rfl⟩ PySem.F.entry_list_extend (PySem.F.args_list_extend_2 _ _)
    (ext_tup l its.toArray n b its2.toArray n2 dd sl hlong (by rw [List.size_toArray]; omega) (by omega)) ⟨e, ho, ?_⟩
  refine ⟨.non, _, I.lset (its' := its ++ its2) hH e (by simp) (r.append r2) ?_, rfl, q⟩
  rw [List.length_append]
  omega
end
end Og

set_option Elab.async false
set_option linter.all false
set_option maxRecDepth 100000
set_option maxHeartbeats 2000000
namespace Og
open PySem L2 RZ
section
variable {K : PySem.W.Frag} {a b : Addr} {xs ys : List V}
theorem walk_zipT {n : Nat} (hn : n = min xs.length ys.length) : Walk (ItzT K a b) n (fun H => SqT K H a xs ∧ SqT K H b ys) (YPair (fun i => xs[i]?) (fun i => ys[i]?)) := by
  subst hn
  refine ⟨fun i _ hi q => ?_, fun _ q => ⟨xs, ys, q.1, q.2, by omega⟩, fun i H v H' _ q y => ?_⟩
  · have h1 : i < xs.length := by omega
    have h2 : i < ys.length := by omega
    exact ⟨xs, ys, xs[i], ys[i], q.1, q.2, by simp [h1], by simp [h2]⟩
  · obtain ⟨T, x, z, h1, h2, h3, h4, h5⟩ := y
    exact ⟨T, x, z, h1, h2, h3, h4 xs q.1, h5 ys q.2⟩
end
def zipD (xs ys : List D) : List D := (xs.zip ys).map fun p => .tup [p.1, p.2]
def zipM : List D → M (List D)
  | [.lst xs, .lst ys] => retM (zipD xs ys)
  | [.tup xs, .tup ys] => retM (zipD xs ys)
  | _ => fun _ => .bad
section
variable {ks : FK} {X : Cx} {W : WX} {e e2 a b : Expr} {es : List Expr} {m ma mb : M D} {mas : M (List D)} {x y : Str} {q1 pos p p1 p2 p3 : Pos}
theorem iw_zip {K : PySem.W.Frag} {mg : Str → Option Value} {t : TA} (h : IA K ks mg W t mas) : IW K ks mg W (iZipA K t) (bindM mas zipM) := by
  refine im_bind (t2 := fun vs σ H R => ∃ a b xs ys, vs = [V.ref a, V.ref b] ∧ ((SqL K H a xs ∧ SqL K H b ys ∧ R (Itz K a b) H) ∨ (SqT K H a xs ∧ SqT K H b ys ∧ R (ItzT K a b) H))) rW_mono h fun ds vs Z ad σ s H B Hs Q rp hx q => ?_
  have got : ∀ {xs ys : List V} {as bs : List D} {i : Nat} {H' : Hp} {d : D} {u v : V}, DdA K Z.fa B xs as → DdA K Z.fa B ys bs → xs[i]? = some u → ys[i]? = some v → (zipD as bs)[i]? = some d → ∃ d1 d2, d = .tup [d1, d2] ∧ Dd K Z.fa B u d1 ∧ Dd K Z.fa B v d2 := by
    intro xs ys as bs i H' d u v ra rb h1 h2 hd
    obtain ⟨d1, k1, k2⟩ := ra.getV h1
    obtain ⟨d2, l1, l2⟩ := rb.getV h2
    unfold zipD at hd
    have z : (as.zip bs)[i]? = some (d1, d2) := List.getElem?_zip_eq_some.mpr ⟨k1, l1⟩
    rw [List.getElem?_map, z] at hd
    cases hd
    exact ⟨d1, d2, rfl, k2, l2⟩
  unfold zipM at q
  split at q
  · rename_i as bs
    obtain ⟨u, v, rfl, h1, h2⟩ := dda2 hx
    cases h1 with
    | lst q1 r1 =>
      cases h2 with
      | lst q2 r2 =>
        rename_i a xs b ys
        refine ⟨a, b, xs, ys, rfl, .inl ⟨SqL.of (rp.bh _ _ q1), SqL.of (rp.bh _ _ q2), q _ H B rp Stp.refl ⟨fun H => SqL K H a xs ∧ SqL K H b ys, YPair (fun i => xs[i]?) (fun i => ys[i]?), ?_, fun H e => ⟨SqL.of (e _ _ q1), SqL.of (e _ _ q2)⟩, fun i H x H' d e y hd => ?_⟩⟩⟩
        · refine walk_zip ?_
          unfold zipD
          rw [List.length_map, List.length_zip, ← r1.len, ← r2.len]
        · obtain ⟨T, u, v, rfl, hT, rfl, h1, h2⟩ := y
          obtain ⟨d1, d2, rfl, k1, k2⟩ := got (H' := H) r1 r2 h1 h2 hd
          exact .inr ⟨T, u, v, d1, d2, rfl, hT, rfl, rfl, k1, k2⟩
  · rename_i as bs
    obtain ⟨u, v, rfl, h1, h2⟩ := dda2 hx
    cases h1 with
    | tup q1 r1 =>
      cases h2 with
      | tup q2 r2 =>
        rename_i a xs b ys
        refine ⟨a, b, xs, ys, rfl, .inr ⟨sqt_mono rp.bh q1, sqt_mono rp.bh q2, q _ H B rp Stp.refl ⟨fun H => SqT K H a xs ∧ SqT K H b ys, YPair (fun i => xs[i]?) (fun i => ys[i]?), ?_, fun H e => ⟨sqt_mono e q1, sqt_mono e q2⟩, fun i H x H' d e y hd => ?_⟩⟩⟩
        · refine walk_zipT ?_
          unfold zipD
          rw [List.length_map, List.length_zip, ← r1.len, ← r2.len]
        · obtain ⟨T, u, v, rfl, hT, rfl, h1, h2⟩ := y
          obtain ⟨d1, d2, rfl, k1, k2⟩ := got (H' := H) r1 r2 h1 h2 hd
          exact .inr ⟨T, u, v, d1, d2, rfl, hT, rfl, rfl, k1, k2⟩
  · exact q.elim
theorem ew_zip {elts : List Expr} {kk : Nat} {tpos : Pos} (hm : X.mg "zip" = none) (h : EA ks X W [e, e2] mas) (hg : Gl X "zip" := by rfl) (hs : starEach [e, e2] X.env = (false, eval e X.env) :: starEach [e2] X.env := by rfl) (hpl : (backTo pos (starEach [e2] X.env)).any (·.1) = false := by rfl) :
    EW ks X W (.Tuple elts kk tpos) (.Call (.Name "zip" q1) [e, e2] [] pos) (bindM mas zipM) := let ⟨_, h1, h2⟩ := h; ⟨_, pi_zipA hg hm h1 hs hpl, iw_zip h2⟩
theorem el_lc2 (i j : Nat) (ne : i ≠ j) {scope : Scope} {kt : Nat} {pt px py : Pos} (hc : X.calm = true) (nd : X.N.Nodup) (hw : EW ks X W (.Tuple [.Name x px, .Name y py] kt pt) e mas) (hk : blkC X.N X.env.scope scope [(x, i), (y, j)] = true) (he : BlkE ks X scope a ma)
    (hN : X.N[i]? = some x := by rfl) (hN2 : X.N[j]? = some y := by rfl)
    (hl : ∀ (s : Shared) (H : Hp) (C : Addr) (cl : List (Str × Addr)) (fp : List Addr), L2.Loc (X.blk s H scope (compEnvC scope cl C X.env) fp).env.scope x := by intros; first | exact Or.inl rfl | exact Or.inr rfl)
    (hl2 : ∀ (s : Shared) (H : Hp) (C : Addr) (cl : List (Str × Addr)) (fp : List Addr), L2.Loc (X.blk s H scope (compEnvC scope cl C X.env) fp).env.scope y := by intros; first | exact Or.inl rfl | exact Or.inr rfl)
    (hf : ∀ (s : Shared) (H : Hp) (C : Addr) (cl : List (Str × Addr)) (fp : List Addr), (X.blk s H scope (compEnvC scope cl C X.env) fp).fn x = true ∨ (X.blk s H scope (compEnvC scope cl C X.env) fp).env.scope.names.lookup x = some .local := by intros; first | exact Or.inr rfl | exact Or.inl rfl)
    (hf2 : ∀ (s : Shared) (H : Hp) (C : Addr) (cl : List (Str × Addr)) (fp : List Addr), (X.blk s H scope (compEnvC scope cl C X.env) fp).fn y = true ∨ (X.blk s H scope (compEnvC scope cl C X.env) fp).env.scope.names.lookup y = some .local := by intros; first | exact Or.inr rfl | exact Or.inl rfl)
    (hs : ∀ v : Value, foldedSetIterable e X.env v = pure v := by intro _; rfl) : EL ks X W (.ListComp a [{ target := .Tuple [.Name x px, .Name y py] kt pt, iter := e, ifs := [], is_async := 0 }] scope pos) (lcM [i, j] (tg2 i j) (retM true) ma mas) := by
  obtain ⟨_, h1, h2⟩ := hw
  obtain ⟨te, g1, g2⟩ := uni_e (ι := Shared × Hp × Addr × List (Str × Addr) × List Addr) (Y := fun z => X.blk z.1 z.2.1 scope (compEnvC scope z.2.2.2.1 z.2.2.1 X.env) z.2.2.2.2) fun z => he z.1 z.2.1 z.2.2.1 z.2.2.2.1 z.2.2.2.2
  exact ⟨_, pe_lc (own := [(x, i), (y, j)]) (g := gTup X.K 2 (gCons (gName i) (gCons (gName j) gNil))) (tt := tYes) hc nd h1 (blkOk_by hk) (fun s H C cl fp => pg_tup (n := 2) hc (pgs_cons (pg_name (i := i) nd hN (hl s H C cl fp) (hf s H C cl fp)) (pgs_cons (pg_name (i := j) nd hN2 (hl2 s H C cl fp) (hf2 s H C cl fp)) pgs_nil)) rfl rfl) (fun _ _ _ _ _ => pts_nil) (fun s H C cl fp => g1 (s, H, C, cl, fp)) hs, im_lc h2 (lc_two i j ne) im_yes g2⟩
/-! the rest, in the bundled form -/
theorem el_uniq {q : Pos} (hc : X.calm = true) (hu : X.A.units + 64 < cLine) (hm : X.mg "sorted" = none) (hm2 : X.mg "set" = none) (h : EP' ks X W a m) (hg : Gl X "sorted" := by rfl) (hg2 : Gl X "set" := by rfl) (na : starEach [a] X.env = (false, eval a X.env) :: starEach [] X.env := by rfl)
    (ns : starEach [.Call (.Name "set" p2) [a] [] q] X.env = (false, eval (.Call (.Name "set" p2) [a] [] q) X.env) :: starEach [] X.env := by rfl) :
    EL ks X W (.Call (.Name "sorted" p) [.Call (.Name "set" p2) [a] [] q] [] pos) (m1 uniqO m) := let ⟨_, h1, h2⟩ := h; ⟨_, pe_uniq hc hu hg hm hg2 hm2 h1 na ns, im_op1 (r := rUniq X.K) rL_mono o_uniq h2⟩
theorem ev_lenU {q : Pos} (hc : X.calm = true) (hm : X.mg "len" = none) (hm2 : X.mg "set" = none) (h : EP' ks X W a m) (hg : Gl X "len" := by rfl) (hg2 : Gl X "set" := by rfl) (na : starEach [a] X.env = (false, eval a X.env) :: starEach [] X.env := by rfl)
    (ns : starEach [.Call (.Name "set" p2) [a] [] q] X.env = (false, eval (.Call (.Name "set" p2) [a] [] q) X.env) :: starEach [] X.env := by rfl) :
    EV ks X W (.Call (.Name "len" p) [.Call (.Name "set" p2) [a] [] q] [] pos) (m1 lenUO m) := let ⟨_, h1, h2⟩ := h; ⟨_, pe_lenU hc hg hm hg2 hm2 h1 na ns, im_op1 (r := rLenU X.K) rV_mono o_lenU h2⟩
theorem ev_all (hc : X.calm = true) (hm : X.mg "all" = none) (h : EPA ks X W (e :: es) mas) (hg : Gl X "all" := by rfl) (hs : starEach (e :: es) X.env = (false, eval e X.env) :: starEach es X.env := by rfl) (hpl : (backTo pos (starEach es X.env)).any (·.1) = false := by rfl) :
    EV ks X W (.Call (.Name "all" q1) (e :: es) [] pos) (mA allO mas) := let ⟨_, h1, h2⟩ := h; ⟨_, pe_callB (cr_all hc) hg hm (show bootBuiltins "all" = some (.builtin "all") by decide +kernel) h1 (by decide) (by decide) hs hpl, im_cb rV_mono o_all h2⟩
theorem ev_slV {lo hi : Option Expr} {ml mh : M (Option Int)} (ha : EP' ks X W a ma) (hl : EO ks X W lo ml) (hh : EO ks X W hi mh) : EV ks X W (.Subscript a (.Slice lo hi none p2) pos) (m3 slV ma ml mh) := let ⟨_, h1, h2⟩ := ha; let ⟨_, g1, g2⟩ := hl; let ⟨_, k1, k2⟩ := hh; ⟨_, pe_slice ((sl_str.or sl_tupA).or sl_list) h1 g1 k1, im_sl rV_mono o_slV h2 g2 k2⟩
theorem ev_eqN (hu : X.A.units + 64 < cLine) (ha : EP' ks X W a ma) (hb : EP' ks X W b mb) : EV ks X W (.Compare a [.Eq] [b] pos) (m2 (nilO false) ma mb) := ev_cmp (op_eqNil hu) (o_nil false) ha hb (nomark _)
theorem ev_neN (hu : X.A.units + 64 < cLine) (ha : EP' ks X W a ma) (hb : EP' ks X W b mb) : EV ks X W (.Compare a [.NotEq] [b] pos) (m2 (nilO true) ma mb) := ev_cmp (op_neNil hu) (o_nil true) ha hb (nomark _)
/-! xs[::-1] of a list -/
def revLO : D → Option D
  | .lst ds => some (.lst ds.reverse)
  | _ => none
def rRevL (K : PySem.W.Frag) : V → Hp → VK → Prop := fun x H Q => ∃ a xs, x = .ref a ∧ SqL K H a xs ∧ ∀ p, H p = none → Q (.ref p) (upd H p (.lst xs.reverse))
theorem o_revL {K : PySem.W.Frag} : Op1 (@rL K ks) (rRevL K) revLO := by
  intro Z ad σ H B s x dx d Q rp hx e q
  unfold revLO at e
  split at e
  · cases e
    obtain ⟨a, xs, rfl, ha, ra⟩ := rP_lst rp hx
    refine ⟨a, xs, rfl, SqL.of ha, fun p hp => ?_⟩
    obtain ⟨r2, st⟩ := rp.made (.lst xs.reverse) hp
    exact q _ _ _ r2 st (rp.newL hp ra.rev)
  · cases e
theorem el_revL {k : Nat} (h : EP' ks X W e m) : EL ks X W (.Subscript e (.Slice none none (some (.UnaryOp .USub (.Constant (.int 1) k p1) p2)) p3) pos) (m1 revLO m) := let ⟨_, h1, h2⟩ := h; ⟨_, pe_revL h1, im_op1 (r := rRevL X.K) rL_mono o_revL h2⟩
end
end Og

set_option Elab.async false
set_option linter.all false
set_option maxRecDepth 100000
set_option maxHeartbeats 2000000
namespace Og
open PySem L2 PyProof.Rows
section
variable {K : PySem.W.Frag} {ks : FK} {mg : Str → Option Value} {W : WX}
variable {Z : Zt K ks} {ad : Nat → Addr} {σ : L2.St} {s s1 : Sto} {H B H1 B1 Hs : Hp}
/-! x.extend(e), e a tuple or a list -/
def extTM (i : Nat) (m : M D) : MS := fun s => match s.at i with
  | .own _ => bindS m (fun d s => match s.at i, d with
    | .own ds, .tup es => if ds.length + es.length ≤ sizeLine then .nx (s.put i (.own (ds ++ es))) else .bad
    | _, _ => .bad) s
  | _ => .bad
theorem is_extT {te : TE} {m : M D} (i : Nat) (h : IP K ks mg W te m) : IS K ks mg W (tDrop (tBM K "list" (rExtT K) (tVar i) (tCons te tNil))) (extTM i m) := by
  intro Z ad σ H B s D rp q
  unfold extTM at q
  cases e : s.at i with
  | un => rw [e] at q; exact q.elim
  | dic kvs => rw [e] at q; exact q.elim
  | val d => rw [e] at q; exact q.elim
  | own ds =>
    rw [e] at q
    obtain ⟨h1, _, _, _, xs, h5, _⟩ := rp.own e
    refine ⟨_, h1, .inl ⟨rfl, xs, SqL.of h5⟩, ?_⟩
    refine h Z ad σ H B s _ rp ?_
    simp only [bindS] at q
    cases e2 : m s with
    | exc x s1 => rw [e2] at q; exact fun cls dd H' B' rp' st r => q ad σ H' B' cls dd rp' st.bb r
    | bad => rw [e2] at q; exact q
    | ok d s1 =>
      rw [e2] at q
      intro v H1 B1 rp1 st hv
      cases e3 : s1.at i with
      | un => simp only [e3] at q; exact q.elim
      | dic kvs => simp only [e3] at q; exact q.elim
      | val d => simp only [e3] at q; exact q.elim
      | own es =>
        cases d with
        | tup fs =>
          simp only [e3] at q
          obtain ⟨_, _, _, _, ys, g5, g6⟩ := rp1.own e3
          obtain ⟨b, zs, rfl, _, hb, rb⟩ := rP_tup rp1 hv
          by_cases c : es.length + fs.length ≤ sizeLine
          · rw [if_pos c] at q
            exact ⟨ad i, b, ys, zs, rfl, rfl, g5, hb, by rw [g6.len, rb.len]; exact c, q ad σ _ B1 (rp1.chg e3 (g6.app rb)) st.bb⟩
          · rw [if_neg c] at q
            exact q.elim
        | _ => simp only [e3] at q; exact q.elim
/-! sorted(xs), xs pairs of texts -/
theorem vals_refsT : ∀ ts : List Addr, Vals (ts.map V.ref) (ts.map Value.ref)
  | [] => .nil
  | t :: ts => .cons rfl (vals_refsT ts)
theorem vals_refs_inv : ∀ {ts : List Addr} {us : List Value}, Vals (ts.map V.ref) us → us = ts.map Value.ref
  | [], _, .nil => rfl
  | t :: ts, _, .cons r q => by
    rw [vals_refs_inv q]
    cases r
    rfl
def rSortP (K : PySem.W.Frag) : List V → Hp → VK → Prop := fun vs H Q => ∃ (a : Addr) (ts : List Addr) (ps : List (Str × Str)) (G : Addr → Str × Str → Prop), vs = [V.ref a] ∧ SqL K H a (ts.map V.ref) ∧ ps.length ≤ sizeLine ∧ (∀ t b, G t b → SqT K H t [.str b.1, .str b.2]) ∧ Paired G ts ps ∧
  ∀ (ts' : List Addr) (p : Addr), Paired G ts' (srtP ps) → H p = none → Q (.ref p) (upd H p (.lst (ts'.map V.ref)))
theorem each_of' {G : Addr → Str × Str → Prop} : ∀ {as : List Addr} {ps : List (Str × Str)}, Paired G as ps → PySem.W.EachIs (fun (v : Value) b => ∃ t, v = .ref t ∧ G t b) (as.map Value.ref) ps
  | _, _, .nil => .nil
  | _, _, .cons r t => .cons ⟨_, rfl, r⟩ (each_of' t)
theorem each_back' {G : Addr → Str × Str → Prop} : ∀ {out : List Value} {ps : List (Str × Str)}, PySem.W.EachIs (fun (v : Value) b => ∃ t, v = .ref t ∧ G t b) out ps → ∃ ts : List Addr, out = ts.map Value.ref ∧ Paired G ts ps
  | _, _, .nil => ⟨[], rfl, .nil⟩
  | _, _, .cons r t => by
    obtain ⟨x, rfl, h2⟩ := r
    obtain ⟨ts, rfl, h4⟩ := each_back' t
    exact ⟨x :: ts, rfl, .cons h2 h4⟩
theorem cr_sortP {X : Cx} (hu : X.A.units + 64 < cLine) : CallR X (.builtin "sorted") (rSortP X.K) := by
  intro pins s σ H vs us Q I r h
  obtain ⟨a, ts, ps, G, rfl, hs, hz, hG, hp, q⟩ := h
  obtain ⟨its, rv, hl, _⟩ := I.list hs
  rw [Vals.ref1 r]
  have e0 := vals_refs_inv rv
  subst e0
  have hal : PySem.W.AllAlike (ps.map encP) := PySem.W.AllAlike.of fun b b' => rfl
  have hso : PySem.W.Sortable (ps.map encP) := PySem.W.Sortable.tuples fun b => ⟨_, _, rfl⟩
  have hR := each_of' hp
  refine PySem.W.sorted_data (enc := encP) hl.isList hR (hR.mono fun v b z => ?_) hal hso hz (fun b _ => ?_) fun out ho eo => ?_
  · obtain ⟨t, rfl, g⟩ := z
    obtain ⟨its2, r2, pl, _⟩ := I.tuple (hG t b g)
    obtain ⟨⟨cls, dd, data, sl⟩, ho, hc, n, hd⟩ := id pl
    simp only at hc hd
    subst hc hd
    obtain ⟨u1, u2, rfl, k1, k2⟩ := Vals.two r2
    obtain ⟨t1, rfl⟩ : ∃ t1, u1 = .str b.1 t1 := k1
    obtain ⟨t2, rfl⟩ : ∃ t2, u2 = .str b.2 t2 := k2
    exact ⟨_, .tuple ho rfl rfl (.cons (.str _ _) (.cons (.str _ _) .nil))⟩
  · have d1 : (encP b).depth = 1 := rfl
    rw [d1]
    omega
  · obtain ⟨ts', rfl, hp'⟩ := each_back' eo
    obtain ⟨ep, he'⟩ := PyProof.Rows.sortedAll_at s.heap (ts.map Value.ref) (ts'.map Value.ref).toArray
    have lts : ts'.length = ps.length := by
      rw [List.length_map] at ho
      exact ho
    have hlen : (ts'.map V.ref).length ≤ sizeLine := by rw [List.length_map, lts]; exact hz
    exact ⟨.ref _, upd H (s.heap.objs.size + 1) (.lst (ts'.map V.ref)), I.laid (t' := s.toks) (fun _ _ => PyProof.Rows.sortedAll_old) (Nat.le_succ _) ⟨hlen, ts'.map Value.ref, ep, vals_refsT ts', he'⟩, rfl, q ts' _ hp' (I.hok.fresh (Nat.le_succ _))⟩
def prsL : List D → Option (List (Str × Str))
  | [] => some []
  | .tup [.str a, .str b] :: r => (prsL r).map fun ps => (a, b) :: ps
  | _ :: _ => none
theorem prsL_v : ∀ {xs : List V} {ds : List D} {ps : List (Str × Str)}, DdA K fa B xs ds → prsL ds = some ps → ∃ ts : List Addr, xs = ts.map V.ref ∧ Paired (fun t (b : Str × Str) => SqT K B t [.str b.1, .str b.2]) ts ps := by
  intro xs ds ps h e
  induction ds generalizing xs ps with
  | nil =>
    cases h
    cases e
    exact ⟨[], rfl, .nil⟩
  | cons d ds ih =>
    cases h with
    | cons h t =>
      unfold prsL at e
      split at e
      · rename_i heq
        cases heq
      · rename_i a b r heq
        cases heq
        rw [Option.map_eq_some_iff] at e
        obtain ⟨qs, e1, rfl⟩ := e
        obtain ⟨ts, rfl, hp⟩ := ih t e1
        cases h with
        | tup q r =>
          cases r with
          | cons r1 r2 =>
            cases r2 with
            | cons r2 r3 =>
              cases r3
              cases r1
              cases r2
              exact ⟨_ :: ts, rfl, .cons q hp⟩
      · cases e
theorem dda_prs {fa : Addr} : ∀ {ts : List Addr} {ps : List (Str × Str)}, Paired (fun t (b : Str × Str) => SqT K B t [.str b.1, .str b.2]) ts ps → DdA K fa B (ts.map V.ref) (ps.map fun q => .tup [.str q.1, .str q.2])
  | _, _, .nil => .nil
  | _, _, .cons r t => .cons (.tup r (.cons (.str _) (.cons (.str _) .nil))) (dda_prs t)
def sortPO : List D → Option D
  | [.lst ds] => (prsL ds).bind fun ps => if ps.length ≤ sizeLine then some (.lst ((srtP ps).map fun q => .tup [.str q.1, .str q.2])) else none
  | _ => none
theorem o_sortP : OpA (@rL K ks) (rSortP K) sortPO := by
  intro Z ad σ H B s xs dx d Q rp hx e q
  unfold sortPO at e
  split at e
  · rw [Option.bind_eq_some_iff] at e
    obtain ⟨ps, e1, e2⟩ := e
    split at e2
    · rename_i hz
      cases e2
      obtain ⟨v, rfl, h⟩ := pka1 (ad := ad) (s := s) (Hs := H) hx
      obtain ⟨a, ys, rfl, ha, ra⟩ := rP_lst rp h
      obtain ⟨ts, rfl, hp⟩ := prsL_v ra e1
      refine ⟨a, ts, ps, fun t b => SqT K B t [.str b.1, .str b.2], rfl, SqL.of ha, hz, fun t b g => sqt_mono rp.bh g, hp, fun ts' p hp' hn => ?_⟩
      obtain ⟨r2, st⟩ := rp.made (.lst (ts'.map V.ref)) hn
      exact q _ _ _ r2 st (rp.newL hn (dda_prs hp'))
    · cases e2
  · cases e
end
section
variable {ks : FK} {X : Cx} {W : WX} {e a b : Expr} {es : List Expr} {m ma mb : M D} {mas : M (List D)} {x y : Str} {q1 pos p p1 p2 p3 : Pos}
theorem es_extendT (i : Nat) {apos cpos : Pos} (h : EP' ks X W e m) (hN : X.N[i]? = some x := by rfl) (hv : Vis X.env.scope x := by first | exact Or.inl rfl | exact Or.inr (Or.inl rfl) | exact Or.inr (Or.inr rfl)) (hd : (x == ("__debug__" : Str)) = false := by decide) (hcd : (x == ("__classdict__" : Str)) = false := by decide)
    (h1 : attributeBase (.Name x p2) "extend" X.env (eval (.Name x p2) X.env) = eval (.Name x p2) X.env := by rfl)
    (h2 : ((((backTo cpos (starEach [e] X.env)).all fun x => !x.fst) && (backToKw cpos (keywordEach [] X.env)).all fun x => x.fst.isSome) && decide (([e].length + ([] : List Keyword).length + if ([] : List Keyword).isEmpty = true then 0 else 1) < 30)) = true := by rfl)
    (h3 : (apos.endLine == cpos.line) = true := by rfl) (hs : starEach [e] X.env = (false, eval e X.env) :: starEach [] X.env := by rfl) (hpl : (backTo cpos (starEach [] X.env)).any (·.1) = false := by rfl)
    (hw : swapsWith (.Call (.Attribute (.Name x p2) "extend" apos) [e] [] cpos) none pos.line X.env = pure false := by rfl) : ES ks X W (.Expr (.Call (.Attribute (.Name x p2) "extend" apos) [e] [] cpos) pos) (extTM i m) :=
  let ⟨_, g1, g2⟩ := h; ⟨_, ps_expr (pe_bm PySem.F.plainAttrs_list PySem.F.slot_list_extend PySem.F.type_list_extend mt_extendT (pe_var hN hv hd hcd) (pa_cons g1 pa_nil hs) h1 h2 h3 hs hpl) hw, is_extT i g2⟩
theorem es_pop (j i : Nat) {apos cpos : Pos} (nd : X.N.Nodup) (hN : X.N[i]? = some x := by rfl) (hNj : X.N[j]? = some y := by rfl) (hl : L2.Loc X.env.scope y := by first | exact Or.inl rfl | exact Or.inr rfl) (hv : Vis X.env.scope x := by first | exact Or.inl rfl | exact Or.inr (Or.inl rfl) | exact Or.inr (Or.inr rfl)) (hd : (x == ("__debug__" : Str)) = false := by decide) (hcd : (x == ("__classdict__" : Str)) = false := by decide)
    (h1 : attributeBase (.Name x p2) "pop" X.env (eval (.Name x p2) X.env) = eval (.Name x p2) X.env := by rfl) (h3 : (apos.endLine == cpos.line) = true := by rfl)
    (hs : swapsWith (.Call (.Attribute (.Name x p2) "pop" apos) [] [] cpos) (some (Expr.Name y p1)) pos.line X.env = pure false := by rfl) (hf : X.fn y = true ∨ List.lookup y X.env.scope.names = some NameKind.local := by first | exact Or.inl rfl | exact Or.inr rfl) :
    ES ks X W (.Assign [.Name y p1] (.Call (.Attribute (.Name x p2) "pop" apos) [] [] cpos) pos) (popS j i) :=
  ⟨_, ps_set nd hNj hl (pe_bm0 PySem.F.plainAttrs_list PySem.F.slot_list_pop PySem.F.type_list_pop mt_pop (pe_var hN hv hd hcd) h1 h3) hs hf, is_pop j i⟩
theorem el_sortP (hu : X.A.units + 64 < cLine) (hm : X.mg "sorted" = none) (h : EPA ks X W (e :: es) mas) (hg : Gl X "sorted" := by rfl) (hs : starEach (e :: es) X.env = (false, eval e X.env) :: starEach es X.env := by rfl) (hpl : (backTo pos (starEach es X.env)).any (·.1) = false := by rfl) :
    EL ks X W (.Call (.Name "sorted" q1) (e :: es) [] pos) (mA sortPO mas) := let ⟨_, h1, h2⟩ := h; ⟨_, pe_callB (cr_sortP hu) hg hm (show bootBuiltins "sorted" = some (.builtin "sorted") by decide +kernel) h1 (by decide) (by decide) hs hpl, im_cb rL_mono o_sortP h2⟩
end
end Og

set_option Elab.async false
set_option linter.all false
set_option maxRecDepth 100000
set_option maxHeartbeats 2000000
namespace Og
open PySem L2 PyProof.Rows
section
variable {ks : FK} {X : Cx} {W : WX} {e a b : Expr} {es : List Expr} {m ma mb : M D} {mas : M (List D)} {x y : Str} {q1 pos p p1 p2 p3 py spos : Pos}
/-! y = [a for x in e] on one line -/
theorem es_setLc (k i : Nat) {scope : Scope} (hc : X.calm = true) (nd : X.N.Nodup) (hw : EW ks X W (.Name x p2) e mas) (hk : blkC X.N X.env.scope scope [(x, i)] = true) (he : BlkE ks X scope a ma)
    (hy : X.N[k]? = some y := by rfl) (hyl : X.env.scope.names.lookup y = some .local := by rfl) (hsw : swapsWith (.ListComp a [{ target := .Name x p2, iter := e, ifs := [], is_async := 0 }] scope pos) (some (.Name y py)) spos.line X.env = pure true := by rfl)
    (hN : X.N[i]? = some x := by rfl) (hl : ∀ (s : Shared) (H : Hp) (C : Addr) (cl : List (Str × Addr)) (fp : List Addr), L2.Loc (X.blk s H scope (compEnvC scope cl C X.env) fp).env.scope x := by intros; first | exact Or.inl rfl | exact Or.inr rfl)
    (hf : ∀ (s : Shared) (H : Hp) (C : Addr) (cl : List (Str × Addr)) (fp : List Addr), (X.blk s H scope (compEnvC scope cl C X.env) fp).fn x = true ∨ (X.blk s H scope (compEnvC scope cl C X.env) fp).env.scope.names.lookup x = some .local := by intros; first | exact Or.inr rfl | exact Or.inl rfl)
    (hs : ∀ v : Value, foldedSetIterable e X.env v = pure v := by intro _; rfl) : ES ks X W (.Assign [.Name y py] (.ListComp a [{ target := .Name x p2, iter := e, ifs := [], is_async := 0 }] scope pos) spos) (asgL k (lcM [i] (tgN i) (retM true) ma mas)) := by
  obtain ⟨_, h1, h2⟩ := hw
  obtain ⟨te, g1, g2⟩ := uni_e (ι := Shared × Hp × Addr × List (Str × Addr) × List Addr) (Y := fun z => X.blk z.1 z.2.1 scope (compEnvC scope z.2.2.2.1 z.2.2.1 X.env) z.2.2.2.2) fun z => he z.1 z.2.1 z.2.2.1 z.2.2.2.1 z.2.2.2.2
  exact ⟨_, ps_setLc (own := [(x, i)]) (g := gName i) (tt := tYes) hc nd hy hyl hsw h1 (blkOk_by hk) (fun s H C cl fp => pg_name (i := i) nd hN (hl s H C cl fp) (hf s H C cl fp)) (fun _ _ _ _ _ => pts_nil) (fun s H C cl fp => g1 (s, H, C, cl, fp)) hs, is_asgL k (im_lc h2 (lc_name i) im_yes g2)⟩
end
end Og

set_option linter.all false
namespace Gr
/-! ### kinds as rows of signs: by their parts, and from left to right -/
abbrev W := List Nat
def sp : W := [32, 45, 62, 32]
def Ttl (w : W) : Prop := 1 ≤ w.length ∧ w.length ≤ 8 ∧ ∀ c ∈ w, 97 ≤ c ∧ c ≤ 122
/-- a kind; whether it has an arrow -/
inductive Kd : W → Bool → Prop
  | last {t : W} : Ttl t → Kd t false
  | name {t r : W} {b : Bool} : Ttl t → Kd r b → Kd (t ++ (sp ++ r)) true
  | paren {k r : W} {b : Bool} : Kd k true → Kd r b → Kd (40 :: (k ++ (41 :: (sp ++ r)))) true
/-- what may stand behind d open parentheses, at the beginning of a part -/
inductive Au : Nat → W → Prop
  | fin {t : W} : Ttl t → Au 0 t
  | step {t r : W} {d : Nat} (k : Nat) : Ttl t → Au (d + k) r → Au d (List.replicate k 40 ++ (t ++ (sp ++ r)))
  | close {t r : W} {d : Nat} : Ttl t → Au d r → Au (d + 1) (t ++ (41 :: (sp ++ r)))
/-- a kind, then the rest of d kinds around it -/
def Ks (b : Bool) : Nat → W → Prop
  | 0, z => Kd z b
  | d + 1, z => ∃ k r b', Kd k b ∧ Ks b' d r ∧ z = k ++ (41 :: (sp ++ r))
theorem ks_name {t : W} (ht : Ttl t) : ∀ {d : Nat} {r : W} {b : Bool}, Ks b d r → Ks true d (t ++ (sp ++ r))
  | 0, _, _, h => .name ht h
  | d + 1, _, _, ⟨k, r, b', h1, h2, e⟩ => ⟨t ++ (sp ++ k), r, b', .name ht h1, h2, by rw [e]; simp⟩
theorem ks_paren : ∀ {d : Nat} {z : W}, Ks true (d + 1) z → Ks true d (40 :: z)
  | 0, _, ⟨k, r, b', h1, h2, e⟩ => by
    subst e
    exact .paren h1 h2
  | d + 1, _, ⟨k, r, b', h1, ⟨k2, r2, b2, h3, h4, e2⟩, e⟩ => by
    subst e e2
    exact ⟨40 :: (k ++ (41 :: (sp ++ k2))), r2, b2, .paren h1 h3, h4, by simp⟩
theorem ks_step {t : W} (ht : Ttl t) : ∀ (k : Nat) {d : Nat} {r : W} {b : Bool}, Ks b (d + k) r → Ks true d (List.replicate k 40 ++ (t ++ (sp ++ r)))
  | 0, _, _, _, h => ks_name ht h
  | k + 1, d, r, b, h => by
    have h' : Ks b ((d + 1) + k) r := by
      rw [show d + 1 + k = d + (k + 1) by omega]
      exact h
    exact ks_paren (ks_step ht k h')
theorem au_ks {d : Nat} {z : W} (h : Au d z) : ∃ b, Ks b d z := by
  induction h with
  | fin ht => exact ⟨false, .last ht⟩
  | step k ht _ ih =>
    obtain ⟨b, h⟩ := ih
    exact ⟨true, ks_step ht k h⟩
  | close ht _ ih =>
    obtain ⟨b, h⟩ := ih
    exact ⟨false, _, _, b, .last ht, h, rfl⟩
/-- what stands behind a kind -/
def Tl (k : W) (d : Nat) (z : W) : Prop := (d = 0 ∧ z = k) ∨ ∃ d' r, d = d' + 1 ∧ z = k ++ (41 :: (sp ++ r)) ∧ Au d' r
theorem tl_app {p r z : W} {d : Nat} (h : Tl (p ++ r) d z) : ∃ z', z = p ++ z' ∧ Tl r d z' := by
  rcases h with ⟨h1, h2⟩ | ⟨d', q, h1, h2, h3⟩
  · exact ⟨r, h2, .inl ⟨h1, rfl⟩⟩
  · exact ⟨r ++ (41 :: (sp ++ q)), by rw [h2]; simp, .inr ⟨d', q, h1, rfl, h3⟩⟩
theorem kd_au {k : W} {b : Bool} (h : Kd k b) : ∀ (d : Nat) (z : W), Tl k d z → Au d z ∧ (b = true → ∃ n t r, z = List.replicate n 40 ++ (t ++ (sp ++ r)) ∧ Ttl t ∧ Au (d + n) r) := by
  induction h with
  | @last t ht =>
    intro d z e
    refine ⟨?_, fun c => nomatch c⟩
    rcases e with ⟨rfl, rfl⟩ | ⟨d', r, rfl, rfl, a⟩
    · exact .fin ht
    · exact .close ht a
  | @name t r b ht _ ih =>
    intro d z e
    obtain ⟨z1, rfl, e1⟩ := tl_app e
    obtain ⟨z2, rfl, e2⟩ := tl_app e1
    have a := (ih d z2 e2).1
    exact ⟨.step 0 ht a, fun _ => ⟨0, t, z2, rfl, ht, a⟩⟩
  | @paren k r b _ _ ih1 ih2 =>
    intro d z e
    have e' : Tl ((40 :: k) ++ ((41 :: sp) ++ r)) d z := by
      have : (40 :: k) ++ ((41 :: sp) ++ r) = 40 :: (k ++ (41 :: (sp ++ r))) := by simp
      rw [this]
      exact e
    obtain ⟨z1, rfl, e1⟩ := tl_app e'
    obtain ⟨z2, rfl, e2⟩ := tl_app e1
    have a := (ih2 d z2 e2).1
    obtain ⟨n, t, q, f1, f2, f3⟩ := (ih1 (d + 1) (k ++ (41 :: (sp ++ z2))) (.inr ⟨d, z2, rfl, rfl, a⟩)).2 rfl
    have f3' : Au (d + (n + 1)) q := by
      rw [show d + (n + 1) = d + 1 + n by omega]
      exact f3
    have ez : (40 :: k) ++ ((41 :: sp) ++ z2) = List.replicate (n + 1) 40 ++ (t ++ (sp ++ q)) := by
      have : (40 :: k) ++ ((41 :: sp) ++ z2) = 40 :: (k ++ (41 :: (sp ++ z2))) := by simp
      rw [this, f1]
      rfl
    rw [ez]
    exact ⟨.step (n + 1) f2 f3', fun _ => ⟨n + 1, t, q, rfl, f2, f3'⟩⟩
/-- from left to right, and by the parts: the same -/
theorem au_iff (z : W) : Au 0 z ↔ ∃ b, Kd z b := ⟨fun h => au_ks h, fun ⟨_, h⟩ => (kd_au h 0 z (.inl ⟨rfl, rfl⟩)).1⟩
end Gr

set_option linter.all false
namespace Gr
/-! ### the parting of a row of signs at the arrows outside all parentheses -/
def dl (c : Nat) : Int := if c = 40 then 1 else if c = 41 then -1 else 0
def Pc : W → Int → W → List W
  | [], _, cur => [cur]
  | 32 :: 45 :: 62 :: 32 :: z, 0, cur => cur :: Pc z 0 []
  | c :: z, d, cur => Pc z (d + dl c) (cur ++ [c])
theorem pc_arrow (z cur : W) : Pc (sp ++ z) 0 cur = cur :: Pc z 0 [] := by
  show Pc (32 :: 45 :: 62 :: 32 :: z) 0 cur = _
  rw [Pc]
theorem pc_sign {c : Nat} {z : W} {d : Int} {cur : W} (h : d ≠ 0 ∨ c ≠ 32) : Pc (c :: z) d cur = Pc z (d + dl c) (cur ++ [c]) := by
  rw [Pc]
  intro z' e1 e2 e3
  rcases h with h | h
  · exact h e1
  · exact h e2
theorem dl_0 {c : Nat} (h : c ≠ 40 ∧ c ≠ 41) : dl c = 0 := by
  unfold dl
  rw [if_neg h.1, if_neg h.2]
/-- signs without parentheses -/
theorem pc_plain {d : Int} : ∀ (t : W) (z cur : W), (∀ c ∈ t, c ≠ 40 ∧ c ≠ 41 ∧ (d ≠ 0 ∨ c ≠ 32)) → Pc (t ++ z) d cur = Pc z d (cur ++ t)
  | [], z, cur, _ => by simp
  | c :: t, z, cur, h => by
    have hc := h c List.mem_cons_self
    rw [List.cons_append, pc_sign hc.2.2, dl_0 ⟨hc.1, hc.2.1⟩, Int.add_zero, pc_plain t z (cur ++ [c]) fun x hx => h x (List.mem_cons_of_mem _ hx)]
    simp
theorem pc_title {d : Int} {t z cur : W} (h : Ttl t) : Pc (t ++ z) d cur = Pc z d (cur ++ t) := pc_plain t z cur fun c hc => by
  have := h.2.2 c hc
  exact ⟨by omega, by omega, .inr (by omega)⟩
theorem pc_sp {d : Int} {z cur : W} (h : d ≠ 0) : Pc (sp ++ z) d cur = Pc z d (cur ++ sp) := pc_plain sp z cur fun c hc => by
  simp [sp] at hc
  refine ⟨by omega, by omega, .inl h⟩
theorem pc_open {d : Int} {z cur : W} : Pc (40 :: z) d cur = Pc z (d + 1) (cur ++ [40]) := pc_sign (.inr (by decide))
theorem pc_close {d : Int} {z cur : W} : Pc (41 :: z) d cur = Pc z (d - 1) (cur ++ [41]) := pc_sign (.inr (by decide))
/-- within parentheses a kind is gone through whole -/
theorem pc_kind {k : W} {b : Bool} (h : Kd k b) : ∀ (d : Int) (z cur : W), 0 < d → Pc (k ++ z) d cur = Pc z d (cur ++ k) := by
  induction h with
  | last ht => exact fun d z cur _ => pc_title ht
  | name ht _ ih =>
    intro d z cur hd
    rw [List.append_assoc, pc_title ht, List.append_assoc, pc_sp (by omega), ih d z _ hd]
    simp
  | @paren k r b _ _ ih1 ih2 =>
    intro d z cur hd
    rw [List.cons_append, pc_open, List.append_assoc, ih1 (d + 1) _ _ (by omega), List.cons_append, pc_close, show d + 1 - 1 = d by omega, List.append_assoc, pc_sp (by omega), ih2 d z _ hd]
    simp
theorem pc_paren {k r : W} (h : Kd k true) : Pc (40 :: (k ++ (41 :: (sp ++ r)))) 0 [] = (40 :: (k ++ [41])) :: Pc r 0 [] := by
  rw [pc_open, pc_kind h _ _ _ (by omega), pc_close, show (0 : Int) + 1 - 1 = 0 by omega, pc_arrow]
  simp
def jn : List W → W
  | [] => []
  | [a] => a
  | a :: b :: r => a ++ (sp ++ jn (b :: r))
theorem jn_cons {a : W} {l : List W} (h : l ≠ []) : jn (a :: l) = a ++ (sp ++ jn l) := by
  cases l with
  | nil => exact absurd rfl h
  | cons b r => rfl
theorem pc_ne : ∀ (n : Nat) (z : W) (d : Int) (cur : W), z.length ≤ n → Pc z d cur ≠ [] := by
  intro n
  induction n with
  | zero =>
    intro z d cur h
    cases z with
    | nil => simp [Pc]
    | cons c z => simp at h
  | succ n ih =>
    intro z d cur h
    cases z with
    | nil => simp [Pc]
    | cons c z =>
      by_cases e : d = 0 ∧ ∃ z', c :: z = sp ++ z'
      · obtain ⟨rfl, z', e⟩ := e
        rw [e, pc_arrow]
        simp
      · have st : Pc (c :: z) d cur = Pc z (d + dl c) (cur ++ [c]) := by
          rw [Pc]
          intro z' e1 e2 e3
          exact e ⟨e1, z', by rw [e2, e3]; rfl⟩
        rw [st]
        exact ih z _ _ (by simp at h; omega)
theorem pc_join : ∀ (n : Nat) (z : W) (d : Int) (cur : W), z.length ≤ n → jn (Pc z d cur) = cur ++ z := by
  intro n
  induction n with
  | zero =>
    intro z d cur h
    cases z with
    | nil => simp [Pc, jn]
    | cons c z => simp at h
  | succ n ih =>
    intro z d cur h
    cases z with
    | nil => simp [Pc, jn]
    | cons c z =>
      by_cases e : d = 0 ∧ ∃ z', c :: z = sp ++ z'
      · obtain ⟨rfl, z', e⟩ := e
        have l : z'.length ≤ n := by
          have := congrArg List.length e
          simp [sp] at this h
          omega
        rw [e, pc_arrow, jn_cons (pc_ne n z' 0 [] l), ih z' 0 [] l]
        simp
      · have st : Pc (c :: z) d cur = Pc z (d + dl c) (cur ++ [c]) := by
          rw [Pc]
          intro z' e1 e2 e3
          exact e ⟨e1, z', by rw [e2, e3]; rfl⟩
        rw [st, ih z _ _ (by simp at h; omega)]
        simp
/-- what the law's own reading says: the parts, at most n deep -/
def Pr : Nat → W → Bool → Prop
  | 0, _, _ => False
  | n + 1, z, b => ∃ ps t, Pc z 0 [] = ps ++ [t] ∧ Ttl t ∧ (b = !ps.isEmpty) ∧ ∀ p ∈ ps, Ttl p ∨ ∃ k, p = 40 :: (k ++ [41]) ∧ Pr n k true
theorem pr_of {z : W} {b : Bool} (h : Kd z b) : ∀ n, z.length < n → Pr n z b := by
  induction h with
  | @last t ht =>
    intro n hn
    match n, hn with
    | n + 1, _ =>
      refine ⟨[], t, ?_, ht, rfl, fun p hp => nomatch hp⟩
      have e := pc_title (d := 0) (z := []) (cur := []) ht
      rw [List.append_nil] at e
      rw [e]
      rfl
  | @name t r b ht _ ih =>
    intro n hn
    match n, hn with
    | n + 1, hn =>
      obtain ⟨ps, t', e1, e2, e3, e4⟩ := ih (n + 1) (by simp at hn; omega)
      refine ⟨t :: ps, t', ?_, e2, rfl, fun p hp => ?_⟩
      · rw [pc_title ht, pc_arrow, e1]
        simp
      · rcases List.mem_cons.mp hp with rfl | hp
        · exact .inl ht
        · exact e4 p hp
  | @paren k r b hk _ ih1 ih2 =>
    intro n hn
    match n, hn with
    | n + 1, hn =>
      simp at hn
      obtain ⟨ps, t', e1, e2, e3, e4⟩ := ih2 (n + 1) (by omega)
      refine ⟨(40 :: (k ++ [41])) :: ps, t', ?_, e2, rfl, fun p hp => ?_⟩
      · rw [pc_paren hk, e1]
        simp
      · rcases List.mem_cons.mp hp with rfl | hp
        · exact .inr ⟨k, rfl, ih1 n (by omega)⟩
        · exact e4 p hp
theorem kd_jn {n : Nat} {t : W} (ht : Ttl t) (ih : ∀ k, Pr n k true → Kd k true) : ∀ ps : List W, (∀ p ∈ ps, Ttl p ∨ ∃ k, p = 40 :: (k ++ [41]) ∧ Pr n k true) → Kd (jn (ps ++ [t])) (!ps.isEmpty)
  | [], _ => .last ht
  | p :: ps, h => by
    have r := kd_jn ht ih ps fun q hq => h q (List.mem_cons_of_mem _ hq)
    rw [List.cons_append, jn_cons (by simp)]
    rcases h p List.mem_cons_self with hp | ⟨k, rfl, hk⟩
    · exact .name hp r
    · have e : 40 :: (k ++ [41]) ++ (sp ++ jn (ps ++ [t])) = 40 :: (k ++ (41 :: (sp ++ jn (ps ++ [t])))) := by simp
      rw [e]
      exact .paren (ih k hk) r
theorem kd_of : ∀ (n : Nat) (z : W) (b : Bool), Pr n z b → Kd z b
  | 0, _, _, h => h.elim
  | n + 1, z, b, h => by
    obtain ⟨ps, t, e1, e2, rfl, e4⟩ := h
    have j := pc_join z.length z 0 [] (Nat.le_refl _)
    rw [e1, List.nil_append] at j
    rw [← j]
    exact kd_jn e2 (fun k hk => kd_of n k true hk) ps e4
/-- the law's own reading, and from left to right: the same -/
theorem pr_iff {z : W} {n : Nat} (h : z.length < n) : (∃ b, Pr n z b) ↔ Au 0 z := by
  rw [au_iff]
  exact ⟨fun ⟨b, p⟩ => ⟨b, kd_of n z b p⟩, fun ⟨b, k⟩ => ⟨b, pr_of k n h⟩⟩
end Gr

set_option linter.all false
namespace Gr
/-! ### one turn of the reader from left to right -/
def isL (c : Nat) : Bool := decide (97 ≤ c ∧ c ≤ 122)
/-- how many parentheses open it -/
def opn (r : W) : Nat := (r.takeWhile (· == 40)).length
/-- its name: at most eight letters -/
def nam (r : W) : W := (r.take 8).takeWhile isL
/-- a turn at r, d open: the rest is read whole (some none), goes on at (d', r'), or no kind -/
inductive Tn where
  | no
  | stop (r : W)
  | go (d : Nat) (r : W)
def aft (d : Nat) (r : W) : Tn := if r.take 4 = sp then .go d (r.drop 4) else .no
def turn (d : Nat) (r : W) : Tn :=
  let k := opn r
  let n := nam (r.drop k)
  let r2 := (r.drop k).drop n.length
  if n = [] then .no
  else if 0 < d ∧ k = 0 ∧ r2.take 1 = [41] then aft (d - 1) (r2.drop 1)
  else if d + k = 0 ∧ r2.take 1 ≠ [32] then .stop r2
  else aft (d + k) r2
theorem mem_tw {p : Nat → Bool} {c : Nat} : ∀ l : W, c ∈ l.takeWhile p → p c = true
  | [], h => nomatch h
  | a :: l, h => by
    by_cases q : p a = true
    · rw [List.takeWhile_cons_of_pos q] at h
      rcases List.mem_cons.mp h with rfl | h
      · exact q
      · exact mem_tw l h
    · rw [List.takeWhile_cons_of_neg q] at h
      cases h
theorem nam_title {t z : W} (ht : Ttl t) (hz : ∀ c, z.head? = some c → isL c = false) : nam (t ++ z) = t := by
  unfold nam
  have e : (t ++ z).take 8 = t ++ z.take (8 - t.length) := by
    rw [List.take_append, List.take_of_length_le ht.2.1]
  have h1 : ∀ c ∈ t, isL c = true := fun c hc => by
    have := ht.2.2 c hc
    simp [isL, this]
  rw [e, List.takeWhile_append_of_pos h1]
  have : (z.take (8 - t.length)).takeWhile isL = [] := by
    cases z with
    | nil => simp
    | cons c z =>
      have := hz c rfl
      cases q : 8 - t.length with
      | zero => simp
      | succ n => simp [this]
  rw [this, List.append_nil]
theorem nam_ok {r : W} (h : nam r ≠ []) : Ttl (nam r) := by
  refine ⟨?_, ?_, fun c hc => ?_⟩
  · cases e : nam r with
    | nil => exact absurd e h
    | cons c z => simp
  · unfold nam
    exact Nat.le_trans (List.takeWhile_prefix _).length_le (List.length_take_le _ _)
  · have := mem_tw _ hc
    simpa [isL] using this
theorem nam_pre (r : W) : r = nam r ++ r.drop (nam r).length := by
  have p : nam r <+: r := (List.takeWhile_prefix _).trans (List.take_prefix _ _)
  exact (List.prefix_iff_eq_append.mp p).symm
theorem opn_pre (r : W) : r = List.replicate (opn r) 40 ++ r.drop (opn r) := by
  have p : r.takeWhile (· == 40) <+: r := List.takeWhile_prefix _
  have e := (List.prefix_iff_eq_append.mp p).symm
  have f : r.takeWhile (· == 40) = List.replicate (opn r) 40 := by
    rw [List.eq_replicate_iff]
    exact ⟨rfl, fun c hc => by simpa using mem_tw _ hc⟩
  rw [← f]
  exact e
theorem opn_title {t z : W} (k : Nat) (ht : Ttl t) : opn (List.replicate k 40 ++ (t ++ z)) = k := by
  unfold opn
  rw [List.takeWhile_append_of_pos (by intro c hc; simp [List.eq_of_mem_replicate hc])]
  match t, ht with
  | c :: t, ht =>
    have := ht.2.2 c List.mem_cons_self
    have n : (c == 40) = false := by simp; omega
    simp [n]
  | [], ht => exact absurd ht.1 (by simp)
/-- no kind, where the turn says so; else as the turn says -/
theorem au_turn {d : Nat} {r : W} : Au d r ↔ (match turn d r with
    | .no => False
    | .stop r2 => r2 = []
    | .go d' r' => Au d' r') := by
  constructor
  · intro h
    cases h with
    | fin ht =>
      have o : opn r = 0 := by simpa using opn_title (z := []) 0 ht
      have n : nam r = r := by simpa using nam_title (z := []) ht (by simp)
      have t0 : r ≠ [] := by
        intro e
        rw [e] at ht
        exact absurd ht.1 (by simp)
      simp [turn, o, n, t0]
    | @step t r d k ht a =>
      have o := opn_title (z := sp ++ r) k ht
      have n : nam (t ++ (sp ++ r)) = t := nam_title ht (by simp [sp, isL])
      have t0 : t ≠ [] := by
        intro e
        rw [e] at ht
        exact absurd ht.1 (by simp)
      have dr : (List.replicate k 40 ++ (t ++ (sp ++ r))).drop k = t ++ (sp ++ r) := by
        rw [List.drop_append]
        simp
      have e1 : (sp ++ r).take 1 = [32] := rfl
      have e2 : (sp ++ r).take 4 = sp := rfl
      have e3 : (sp ++ r).drop 4 = r := rfl
      simp [turn, o, dr, n, t0, e1, aft, e2, e3, a]
    | @close t r d ht a =>
      have o : opn (t ++ (41 :: (sp ++ r))) = 0 := by simpa using opn_title (z := 41 :: (sp ++ r)) 0 ht
      have n : nam (t ++ (41 :: (sp ++ r))) = t := nam_title ht (by simp [isL])
      have t0 : t ≠ [] := by
        intro e
        rw [e] at ht
        exact absurd ht.1 (by simp)
      have e2 : (sp ++ r).take 4 = sp := rfl
      have e3 : (sp ++ r).drop 4 = r := rfl
      simp [turn, o, n, t0, aft, e2, e3, a]
  · intro h
    unfold turn at h
    dsimp only at h
    have p1 := opn_pre r
    have p2 := nam_pre (r.drop (opn r))
    generalize opn r = k at *
    generalize hn : nam (r.drop k) = n at *
    generalize ((r.drop k).drop n.length) = r2 at *
    have af : ∀ d' q, (match aft d' q with
        | .no => False
        | .stop r2 => r2 = []
        | .go d' r' => Au d' r') → ∃ q', q = sp ++ q' ∧ Au d' q' := fun d' q z => by
      unfold aft at z
      by_cases c : q.take 4 = sp
      · rw [if_pos c] at z
        refine ⟨q.drop 4, ?_, z⟩
        rw [← c, List.take_append_drop]
      · rw [if_neg c] at z
        exact z.elim
    by_cases c0 : n = []
    · rw [if_pos c0] at h
      exact h.elim
    · rw [if_neg c0] at h
      have ht : Ttl n := by
        rw [← hn]
        exact nam_ok (by rw [hn]; exact c0)
      by_cases c1 : 0 < d ∧ k = 0 ∧ r2.take 1 = [41]
      · rw [if_pos c1] at h
        obtain ⟨q, e, a⟩ := af _ _ h
        have e2 : r2 = 41 :: (sp ++ q) := by
          rw [← List.take_append_drop 1 r2, c1.2.2, e]
          rfl
        have er : r = n ++ (41 :: (sp ++ q)) := by
          rw [p1, p2, c1.2.1, e2]
          rfl
        obtain ⟨d', rfl⟩ : ∃ d', d = d' + 1 := ⟨d - 1, by omega⟩
        rw [er]
        exact .close ht a
      · rw [if_neg c1] at h
        by_cases c2 : d + k = 0 ∧ r2.take 1 ≠ [32]
        · rw [if_pos c2] at h
          have h : r2 = [] := h
          have d0 : d = 0 := by omega
          have k0 : k = 0 := by omega
          rw [p1, p2, k0, h, d0]
          simpa using Au.fin ht
        · rw [if_neg c2] at h
          obtain ⟨q, e, a⟩ := af _ _ h
          rw [p1, p2, e]
          exact .step k ht a
end Gr

set_option linter.all false
namespace Gr
theorem pr_of2 {z : W} {b : Bool} (h : Kd z b) : ∀ n, z.length < 2 * n → Pr n z b := by
  induction h with
  | @last t ht =>
    intro n hn
    cases n with
    | zero => omega
    | succ n =>
      refine ⟨[], t, ?_, ht, rfl, fun p hp => nomatch hp⟩
      have e := pc_title (d := 0) (z := []) (cur := []) ht
      rw [List.append_nil] at e
      rw [e]
      rfl
  | @name t r b ht _ ih =>
    intro n hn
    cases n with
    | zero => omega
    | succ n =>
      obtain ⟨ps, t', e1, e2, e3, e4⟩ := ih (n + 1) (by simp at hn; omega)
      refine ⟨t :: ps, t', ?_, e2, rfl, fun p hp => ?_⟩
      · rw [pc_title ht, pc_arrow, e1]
        simp
      · rcases List.mem_cons.mp hp with rfl | hp
        · exact .inl ht
        · exact e4 p hp
  | @paren k r b hk _ ih1 ih2 =>
    intro n hn
    cases n with
    | zero => omega
    | succ n =>
      simp at hn
      obtain ⟨ps, t', e1, e2, e3, e4⟩ := ih2 (n + 1) (by omega)
      refine ⟨(40 :: (k ++ [41])) :: ps, t', ?_, e2, rfl, fun p hp => ?_⟩
      · rw [pc_paren hk, e1]
        simp
      · rcases List.mem_cons.mp hp with rfl | hp
        · exact .inr ⟨k, rfl, ih1 n (by omega)⟩
        · exact e4 p hp
theorem pr_iff2 {z : W} {n : Nat} (h : z.length < 2 * n) : (∃ b, Pr n z b) ↔ Au 0 z := by
  rw [au_iff]
  exact ⟨fun ⟨b, p⟩ => ⟨b, kd_of n z b p⟩, fun ⟨b, k⟩ => ⟨b, pr_of2 k n h⟩⟩
end Gr

set_option Elab.async false
set_option linter.all false
set_option maxRecDepth 100000
set_option maxHeartbeats 4000000
namespace K01
open PySem L2 Og
def topS (i : Nat) : Stmt := PySem.Challenge.pw_onlygiven_k01_kinds_told.main.body.getD i (.Pass ⟨0, 0, 0, 0⟩)
abbrev ks : FK := ⟨"cells", "next", "left", "count"⟩
theorem ks_ok : ks.ok := by unfold FK.ok; decide +kernel
structure GG (P : Program) (w : World) (K : PySem.W.Frag) (mg : Str → Option Value) (base : Heap) : Prop where
  len : mg "len" = none
  int : mg "int" = none
  str : mg "str" = none
  tuple : mg "tuple" = none
  list : mg "list" = none
  repr : mg "repr" = none
  isinstance : mg "isinstance" = none
  range : mg "range" = none
  sorted : mg "sorted" = none
  set : mg "set" = none
  all : mg "all" = none
  zip : mg "zip" = none
  bool : mg "bool" = none
  LETTERSx : ∃ t, mg "LETTERS" = some (.str "abcdefghijklmnopqrstuvwxyz" t)
  LONGEST_NAMEx : ∃ t, mg "LONGEST_NAME" = some (.int 8 t)
  err_InvalidText : ErrC P w K mg base 4 "InvalidText" "line" "column"
  cls_InvalidText : ∃ C, mg "InvalidText" = some (.ref C) ∧ PySem.W.exmOne K (.ref C) (.ref C) = some true
theorem GG.LETTERS {P : Program} {w : World} {K : PySem.W.Frag} {mg : Str → Option Value} {base : Heap} (g : GG P w K mg base) : mg "LETTERS" = some (.str "abcdefghijklmnopqrstuvwxyz" g.LETTERSx.choose) := g.LETTERSx.choose_spec
theorem GG.LONGEST_NAME {P : Program} {w : World} {K : PySem.W.Frag} {mg : Str → Option Value} {base : Heap} (g : GG P w K mg base) : mg "LONGEST_NAME" = some (.int 8 g.LONGEST_NAMEx.choose) := g.LONGEST_NAMEx.choose_spec
section
variable {P : Program} {w : World} {K : PySem.W.Frag} {mg : Str → Option Value} {base : Heap}
abbrev s_p_common_length : Stmt := topS 9
theorem sc_p_common_length : FnScope ["text", "word", "length"] ["text", "word"] (defScope s_p_common_length) := ⟨rfl, rfl, rfl, by decide +kernel, rfl, by decide +kernel, by decide +kernel⟩
def m_p_common_length : MS := (seqS (asgV 2 (retM (.int 0))) (seqS (whileS (mIf (bindM (m2 ltO (mPk 2) (mA lenO (mCons (mPk 1) (retM [])))) asB) (bindM (m2 (eqO false) (m3 slO (mPk 0) (bindM (mPk 2) asInt) (bindM (m2 addO (mPk 2) (retM (.int 1))) asInt)) (m2 ixO (mPk 1) (mPk 2))) asB) (retM false)) (seqS (asgV 2 (m2 addO (mPk 2) (retM (.int 1)))) (fun s => .nx s)) 100000) (seqS (bindS (mVar 2) fun d s => .rt d s) (fun s => .nx s))))
def f_p_common_length : Fn := fnM 3 m_p_common_length
theorem x_p_common_length {f : Addr} {fd : FuncData} (g : GG P w K mg base) (F : Fun K "common_length" "common_length" s_p_common_length f fd) (hmg : mg "common_length" = some (.ref f)) (hb : Binds K fd ["text", "word"] [])   : FnX P w K mg base ks "common_length" 2 2 f_p_common_length :=
  fn_mkE F sc_p_common_length hmg hb rfl (fun cdv A outer s H E hG hr tk hp => by
    have hu : (cxOf (L2.CX P w) P w K mg base ["text", "word", "length"] "common_length" (defScope s_p_common_length) f cdv A outer s H E).A.units + 64 < cLine := hr.units
    have hu1 := Nat.lt_of_le_of_lt (Nat.add_le_add_left (by decide : 1 ≤ 64) _) hu
    have hu2 : (cxOf (L2.CX P w) P w K mg base ["text", "word", "length"] "common_length" (defScope s_p_common_length) f cdv A outer s H E).A.units + 66 < cLine := Nat.lt_of_le_of_lt (by omega) hr.un
    exact (ess_cons (es_set 2 sc_p_common_length.nd ev_int) (ess_cons (es_while 100000 hp (ew_t (ew_and (et_cmp (opr_or op_lt op_lt_str) (o_ltI.or o_ltS) (ep_var 2) (EV.p (ev_len g.len (epa_cons (ep_var 1) epa_nil))) (nomark _)) (ew_and1 (et_cmp (op_eqD hu) (o_eqD) (EV.p (ev_sl (ep_var 0) (eo_some (ep_var 2)) (eo_some (EV.p (ev_add (ep_var 2) (EV.p ev_int)))))) (EV.p (ev_ix (ep_var 1) (ep_var 2))) (nomark _))))) (ess_cons (es_set 2 sc_p_common_length.nd (ev_add (ep_var 2) (EV.p ev_int))) ess_nil)) (ess_cons (es_ret (ev_var 2)) ess_nil))))
abbrev s_p_word_end : Stmt := topS 10
theorem sc_p_word_end : FnScope ["line", "text", "at", "word", "end"] ["line", "text", "at", "word"] (defScope s_p_word_end) := ⟨rfl, rfl, rfl, by decide +kernel, rfl, by decide +kernel, by decide +kernel⟩
def m_p_word_end : MS := (seqS (asgV 4 (m2 addO (mPk 2) (mA lenO (mCons (mPk 3) (retM []))))) (seqS (ifS (bindM (m2 (eqO true) (m3 slO (mPk 1) (bindM (mPk 2) asInt) (bindM (mPk 4) asInt)) (mPk 3)) asB) (seqS (raiseS "InvalidText" "line" "column" (mCons (mVar 0) (mCons (m2 addO (mPk 2) (callM 2 f_p_common_length (mCons (m3 slO (mPk 1) (bindM (mPk 2) asInt) (bindM (mPk 4) asInt)) (mCons (mVar 3) (retM []))))) (retM [])))) (fun s => .nx s)) (fun s => .nx s)) (seqS (bindS (mVar 4) fun d s => .rt d s) (fun s => .nx s))))
def f_p_word_end : Fn := fnM 5 m_p_word_end
theorem x_p_word_end {f : Addr} {fd : FuncData} (g : GG P w K mg base) (F : Fun K "word_end" "word_end" s_p_word_end f fd) (hmg : mg "word_end" = some (.ref f)) (hb : Binds K fd ["line", "text", "at", "word"] []) (h_p_common_length : FnX P w K mg base ks "common_length" 2 2 f_p_common_length)  : FnX P w K mg base ks "word_end" 7 4 f_p_word_end :=
  fn_mkE F sc_p_word_end hmg hb rfl (fun cdv A outer s H E hG hr tk hp => by
    have hu : (cxOf (L2.CX P w) P w K mg base ["line", "text", "at", "word", "end"] "word_end" (defScope s_p_word_end) f cdv A outer s H E).A.units + 64 < cLine := hr.units
    have hu1 := Nat.lt_of_le_of_lt (Nat.add_le_add_left (by decide : 1 ≤ 64) _) hu
    have hu2 : (cxOf (L2.CX P w) P w K mg base ["line", "text", "at", "word", "end"] "word_end" (defScope s_p_word_end) f cdv A outer s H E).A.units + 66 < cLine := Nat.lt_of_le_of_lt (by omega) hr.un
    exact (ess_cons (es_set 4 sc_p_word_end.nd (ev_add (ep_var 2) (EV.p (ev_len g.len (epa_cons (ep_var 3) epa_nil))))) (ess_cons (es_if (et_cmp (op_neD hu) (o_neD) (EV.p (ev_sl (ep_var 1) (eo_some (ep_var 2)) (eo_some (ep_var 4)))) (ep_var 3) (nomark _)) (ess_cons (es_raise g.err_InvalidText rfl (hr.mono (by omega)) tk (ea_cons (ev_var 0) (ea_cons (ev_add (ep_var 2) (EV.p (ev_call h_p_common_length hG (hr.mono (by omega)) tk (ea_cons (ev_sl (ep_var 1) (eo_some (ep_var 2)) (eo_some (ep_var 4))) (ea_cons (ev_var 3) ea_nil))))) ea_nil))) ess_nil) ess_nil) (ess_cons (es_ret (ev_var 4)) ess_nil))))
abbrev s_p_run_end : Stmt := topS 11
theorem sc_p_run_end : FnScope ["text", "at", "signs", "most", "window"] ["text", "at", "signs", "most"] (defScope s_p_run_end) := ⟨rfl, rfl, rfl, by decide +kernel, rfl, by decide +kernel, by decide +kernel⟩
def m_p_run_end : MS := (seqS (asgV 4 (m3 slO (mPk 0) (bindM (mPk 1) asInt) (bindM (m2 addO (mPk 1) (mPk 3)) asInt))) (seqS (bindS (m2 subI (m2 addO (mPk 1) (mA lenO (mCons (mPk 4) (retM [])))) (mA lenO (mCons (mMt lstripO (mPk 4) (mCons (mPk 2) (retM []))) (retM [])))) fun d s => .rt d s) (fun s => .nx s)))
def f_p_run_end : Fn := fnM 5 m_p_run_end
theorem x_p_run_end {f : Addr} {fd : FuncData} (g : GG P w K mg base) (F : Fun K "run_end" "run_end" s_p_run_end f fd) (hmg : mg "run_end" = some (.ref f)) (hb : Binds K fd ["text", "at", "signs", "most"] [])   : FnX P w K mg base ks "run_end" 2 4 f_p_run_end :=
  fn_mkE F sc_p_run_end hmg hb rfl (fun cdv A outer s H E hG hr tk hp => by
    have hu : (cxOf (L2.CX P w) P w K mg base ["text", "at", "signs", "most", "window"] "run_end" (defScope s_p_run_end) f cdv A outer s H E).A.units + 64 < cLine := hr.units
    have hu1 := Nat.lt_of_le_of_lt (Nat.add_le_add_left (by decide : 1 ≤ 64) _) hu
    have hu2 : (cxOf (L2.CX P w) P w K mg base ["text", "at", "signs", "most", "window"] "run_end" (defScope s_p_run_end) f cdv A outer s H E).A.units + 66 < cLine := Nat.lt_of_le_of_lt (by omega) hr.un
    exact (ess_cons (es_set 4 sc_p_run_end.nd (ev_sl (ep_var 0) (eo_some (ep_var 1)) (eo_some (EV.p (ev_add (ep_var 1) (ep_var 3)))))) (ess_cons (es_ret (ev_sub (EV.p (ev_add (ep_var 1) (EV.p (ev_len g.len (epa_cons (ep_var 4) epa_nil))))) (EV.p (ev_len g.len (epa_cons (EV.p (ev_mt PySem.F.slot_str_lstrip PySem.F.type_str_lstrip mt_lstripChars o_lstrip (ep_var 4) (epa_cons (ep_var 2) epa_nil))) epa_nil))))) ess_nil)))
abbrev s_p_name_end : Stmt := topS 12
theorem sc_p_name_end : FnScope ["line", "text", "at", "above", "end"] ["line", "text", "at", "above"] (defScope s_p_name_end) := ⟨rfl, rfl, rfl, by decide +kernel, rfl, by decide +kernel, by decide +kernel⟩
def m_p_name_end : MS := (seqS (asgV 4 (callM 4 f_p_run_end (mCons (mVar 1) (mCons (mVar 2) (mCons (retM (.str "abcdefghijklmnopqrstuvwxyz")) (mCons (retM (.int 8)) (retM []))))))) (seqS (ifS (bindM (m2 gtO (m3 slO (mPk 1) (bindM (mPk 2) asInt) (bindM (mPk 4) asInt)) (mPk 3)) asB) (seqS (bindS (mVar 4) fun d s => .rt d s) (fun s => .nx s)) (fun s => .nx s)) (seqS (whileS (mIf (bindM (m2 gtO (mPk 4) (mPk 2)) asB) (bindM (m2 leO (fun _ => .bad) (mPk 3)) asB) (retM false)) (seqS (asgV 4 (m2 subI (mPk 4) (retM (.int 1)))) (fun s => .nx s)) 100000) (seqS (raiseS "InvalidText" "line" "column" (mCons (mVar 0) (mCons (mVar 4) (retM [])))) (fun s => .nx s)))))
def f_p_name_end : Fn := fnM 5 m_p_name_end
theorem x_p_name_end {f : Addr} {fd : FuncData} (g : GG P w K mg base) (F : Fun K "name_end" "name_end" s_p_name_end f fd) (hmg : mg "name_end" = some (.ref f)) (hb : Binds K fd ["line", "text", "at", "above"] []) (h_p_run_end : FnX P w K mg base ks "run_end" 2 4 f_p_run_end)  : FnX P w K mg base ks "name_end" 7 4 f_p_name_end :=
  fn_mkE F sc_p_name_end hmg hb rfl (fun cdv A outer s H E hG hr tk hp => by
    have hu : (cxOf (L2.CX P w) P w K mg base ["line", "text", "at", "above", "end"] "name_end" (defScope s_p_name_end) f cdv A outer s H E).A.units + 64 < cLine := hr.units
    have hu1 := Nat.lt_of_le_of_lt (Nat.add_le_add_left (by decide : 1 ≤ 64) _) hu
    have hu2 : (cxOf (L2.CX P w) P w K mg base ["line", "text", "at", "above", "end"] "name_end" (defScope s_p_name_end) f cdv A outer s H E).A.units + 66 < cLine := Nat.lt_of_le_of_lt (by omega) hr.un
    exact (ess_cons (es_set 4 sc_p_name_end.nd (ev_call h_p_run_end hG (hr.mono (by omega)) tk (ea_cons (ev_var 1) (ea_cons (ev_var 2) (ea_cons (ev_globS g.LETTERS) (ea_cons (ev_globI g.LONGEST_NAME) ea_nil)))))) (ess_cons (es_if (et_cmp (opr_or op_gt op_gt_str) (o_gtI.or o_gtS) (EV.p (ev_sl (ep_var 1) (eo_some (ep_var 2)) (eo_some (ep_var 4)))) (ep_var 3) (nomark _)) (ess_cons (es_ret (ev_var 4)) ess_nil) ess_nil) (ess_cons (es_while 100000 hp (ew_t (ew_and (et_cmp (opr_or op_gt op_gt_str) (o_gtI.or o_gtS) (ep_var 4) (ep_var 2) (nomark _)) (ew_and1 (et_cmp (opr_or op_le op_le_str) (o_leI.or o_leS) (EV.p ev_never) (ep_var 3) (nomark _))))) (ess_cons (es_set 4 sc_p_name_end.nd (ev_sub (ep_var 4) (EV.p ev_int))) ess_nil)) (ess_cons (es_raise g.err_InvalidText rfl (hr.mono (by omega)) tk (ea_cons (ev_var 0) (ea_cons (ev_var 4) ea_nil))) ess_nil)))))
abbrev s_p_kind_end : Stmt := topS 13
theorem sc_p_kind_end : FnScope ["line", "text", "at", "depth", "start", "may_close"] ["line", "text", "at"] (defScope s_p_kind_end) := ⟨rfl, rfl, rfl, by decide +kernel, rfl, by decide +kernel, by decide +kernel⟩
def m_p_kind_end : MS := (seqS (asgV 3 (retM (.int 0))) (seqS (whileS (bindM (retM (.bl true)) asB) (seqS (asgV 4 (mVar 2)) (seqS (whileS (bindM (m2 (eqO false) (m3 slO (mPk 1) (bindM (mPk 4) asInt) (bindM (m2 addO (mPk 4) (retM (.int 1))) asInt)) (retM (.str "("))) asB) (seqS (asgV 4 (m2 addO (mPk 4) (retM (.int 1)))) (fun s => .nx s)) 100000) (seqS (asgV 3 (m2 subI (m2 addO (mPk 3) (mPk 4)) (mPk 2))) (seqS (asgV 5 (mIf (bindM (m2 gtO (mPk 3) (retM (.int 0))) asB) (m2 (eqO false) (mPk 4) (mPk 2)) (retM (.bl false)))) (seqS (asgV 2 (callM 4 f_p_name_end (mCons (mVar 0) (mCons (mVar 1) (mCons (mVar 4) (mCons (retM (.str "")) (retM []))))))) (seqS (ifS (mIf (bindM (mPk 5) fun d => optM (truD d)) (bindM (m2 (eqO false) (m3 slO (mPk 1) (bindM (mPk 2) asInt) (bindM (m2 addO (mPk 2) (retM (.int 1))) asInt)) (retM (.str ")"))) asB) (retM false)) (seqS (asgV 3 (m2 subI (mPk 3) (retM (.int 1)))) (seqS (asgV 2 (m2 addO (mPk 2) (retM (.int 1)))) (fun s => .nx s))) (seqS (ifS (mIf (bindM (m2 (eqO false) (mPk 3) (retM (.int 0))) asB) (bindM (m2 (eqO true) (m3 slO (mPk 1) (bindM (mPk 2) asInt) (bindM (m2 addO (mPk 2) (retM (.int 1))) asInt)) (retM (.str " "))) asB) (retM false)) (seqS (bindS (mVar 2) fun d s => .rt d s) (fun s => .nx s)) (fun s => .nx s)) (fun s => .nx s))) (seqS (asgV 2 (callM 4 f_p_word_end (mCons (mVar 0) (mCons (mVar 1) (mCons (mVar 2) (mCons (retM (.str " -> ")) (retM []))))))) (fun s => .nx s)))))))) 100000) (fun s => .nx s)))
def f_p_kind_end : Fn := fnM 6 m_p_kind_end
theorem x_p_kind_end {f : Addr} {fd : FuncData} (g : GG P w K mg base) (F : Fun K "kind_end" "kind_end" s_p_kind_end f fd) (hmg : mg "kind_end" = some (.ref f)) (hb : Binds K fd ["line", "text", "at"] []) (h_p_word_end : FnX P w K mg base ks "word_end" 7 4 f_p_word_end) (h_p_name_end : FnX P w K mg base ks "name_end" 7 4 f_p_name_end)  : FnX P w K mg base ks "kind_end" 8 3 f_p_kind_end :=
  fn_mkE F sc_p_kind_end hmg hb rfl (fun cdv A outer s H E hG hr tk hp => by
    have hu : (cxOf (L2.CX P w) P w K mg base ["line", "text", "at", "depth", "start", "may_close"] "kind_end" (defScope s_p_kind_end) f cdv A outer s H E).A.units + 64 < cLine := hr.units
    have hu1 := Nat.lt_of_le_of_lt (Nat.add_le_add_left (by decide : 1 ≤ 64) _) hu
    have hu2 : (cxOf (L2.CX P w) P w K mg base ["line", "text", "at", "depth", "start", "may_close"] "kind_end" (defScope s_p_kind_end) f cdv A outer s H E).A.units + 66 < cLine := Nat.lt_of_le_of_lt (by omega) hr.un
    exact (ess_cons (es_set 3 sc_p_kind_end.nd ev_int) (ess_cons (es_while 100000 hp (et_val (EV.p ev_bl)) (ess_cons (es_set 4 sc_p_kind_end.nd (ev_var 2)) (ess_cons (es_while 100000 hp (et_cmp (op_eqD hu) (o_eqD) (EV.p (ev_sl (ep_var 1) (eo_some (ep_var 4)) (eo_some (EV.p (ev_add (ep_var 4) (EV.p ev_int)))))) (EV.p ev_str) (nomark _)) (ess_cons (es_set 4 sc_p_kind_end.nd (ev_add (ep_var 4) (EV.p ev_int))) ess_nil)) (ess_cons (es_set 3 sc_p_kind_end.nd (ev_sub (EV.p (ev_add (ep_var 3) (ep_var 4))) (ep_var 2))) (ess_cons (es_set 5 sc_p_kind_end.nd (ev_and (EV.p (ev_gt (ep_var 3) (EV.p ev_int))) (ev_one (ev_eq hu (ep_var 4) (ep_var 2))))) (ess_cons (es_set 2 sc_p_kind_end.nd (ev_call h_p_name_end hG (hr.mono (by omega)) tk (ea_cons (ev_var 0) (ea_cons (ev_var 1) (ea_cons (ev_var 4) (ea_cons ev_str ea_nil)))))) (ess_cons (es_if (ew_t (ew_and (et_truth (ep_var 5)) (ew_and1 (et_cmp (op_eqD hu) (o_eqD) (EV.p (ev_sl (ep_var 1) (eo_some (ep_var 2)) (eo_some (EV.p (ev_add (ep_var 2) (EV.p ev_int)))))) (EV.p ev_str) (nomark _))))) (ess_cons (es_set 3 sc_p_kind_end.nd (ev_sub (ep_var 3) (EV.p ev_int))) (ess_cons (es_set 2 sc_p_kind_end.nd (ev_add (ep_var 2) (EV.p ev_int))) ess_nil)) (ess_cons (es_if (ew_t (ew_and (et_cmp (op_eqD hu) (o_eqD) (ep_var 3) (EV.p ev_int) (nomark _)) (ew_and1 (et_cmp (op_neD hu) (o_neD) (EV.p (ev_sl (ep_var 1) (eo_some (ep_var 2)) (eo_some (EV.p (ev_add (ep_var 2) (EV.p ev_int)))))) (EV.p ev_str) (nomark _))))) (ess_cons (es_ret (ev_var 2)) ess_nil) ess_nil) ess_nil)) (ess_cons (es_set 2 sc_p_kind_end.nd (ev_call h_p_word_end hG (hr.mono (by omega)) tk (ea_cons (ev_var 0) (ea_cons (ev_var 1) (ea_cons (ev_var 2) (ea_cons ev_str ea_nil)))))) ess_nil)))))))) ess_nil)))
abbrev s_p_is_integer : Stmt := topS 15
theorem sc_p_is_integer : FnScope ["thing"] ["thing"] (defScope s_p_is_integer) := ⟨rfl, rfl, rfl, by decide +kernel, rfl, by decide +kernel, by decide +kernel⟩
def m_p_is_integer : MS := (seqS (bindS (mIf (bindM (m1 (isiO "int") (mPk 0)) asB) (m1 notO (m1 (isiO "bool") (mPk 0))) (retM (.bl false))) fun d s => .rt d s) (fun s => .nx s))
def f_p_is_integer : Fn := fnM 1 m_p_is_integer
theorem x_p_is_integer {f : Addr} {fd : FuncData} (g : GG P w K mg base) (F : Fun K "is_integer" "is_integer" s_p_is_integer f fd) (hmg : mg "is_integer" = some (.ref f)) (hb : Binds K fd ["thing"] [])   : FnX P w K mg base ks "is_integer" 2 1 f_p_is_integer :=
  fn_mkE F sc_p_is_integer hmg hb rfl (fun cdv A outer s H E hG hr tk hp => by
    have hu : (cxOf (L2.CX P w) P w K mg base ["thing"] "is_integer" (defScope s_p_is_integer) f cdv A outer s H E).A.units + 64 < cLine := hr.units
    have hu1 := Nat.lt_of_le_of_lt (Nat.add_le_add_left (by decide : 1 ≤ 64) _) hu
    have hu2 : (cxOf (L2.CX P w) P w K mg base ["thing"] "is_integer" (defScope s_p_is_integer) f cdv A outer s H E).A.units + 66 < cLine := Nat.lt_of_le_of_lt (by omega) hr.un
    exact (ess_cons (es_ret (ev_and (EV.p (ev_isi g.isinstance g.int (by decide +kernel) (ep_var 0))) (ev_one (ev_not (EV.p (ev_isi g.isinstance g.bool (by decide +kernel) (ep_var 0))))))) ess_nil))
theorem xg_p_is_integer {f : Addr} {fd : FuncData} (g : GG P w K mg base) (F : Fun K "is_integer" "is_integer" s_p_is_integer f fd) (hmg : mg "is_integer" = some (.ref f)) (hb : Binds K fd ["thing"] [])   : FnG P w K mg base 2 f fd ["thing"] (spG K ks mg 1 f_p_is_integer) :=
  fn_mkG F sc_p_is_integer (fun cdv A outer s H E hG hr tk hp => by
    have hu : (cxOf (L2.CX P w) P w K mg base ["thing"] "is_integer" (defScope s_p_is_integer) f cdv A outer s H E).A.units + 64 < cLine := hr.units
    have hu1 := Nat.lt_of_le_of_lt (Nat.add_le_add_left (by decide : 1 ≤ 64) _) hu
    have hu2 : (cxOf (L2.CX P w) P w K mg base ["thing"] "is_integer" (defScope s_p_is_integer) f cdv A outer s H E).A.units + 66 < cLine := Nat.lt_of_le_of_lt (by omega) hr.un
    exact (ess_cons (es_ret (ev_and (EV.p (ev_isi g.isinstance g.int (by decide +kernel) (ep_var 0))) (ev_one (ev_not (EV.p (ev_isi g.isinstance g.bool (by decide +kernel) (ep_var 0))))))) ess_nil))
abbrev s_p_is_number : Stmt := topS 16
theorem sc_p_is_number : FnScope ["thing"] ["thing"] (defScope s_p_is_number) := ⟨rfl, rfl, rfl, by decide +kernel, rfl, by decide +kernel, by decide +kernel⟩
def m_p_is_number : MS := (seqS (bindS (mIf (bindM (callM 1 f_p_is_integer (mCons (mVar 0) (retM []))) asB) (m2 geO (mPk 0) (retM (.int 0))) (retM (.bl false))) fun d s => .rt d s) (fun s => .nx s))
def f_p_is_number : Fn := fnM 1 m_p_is_number
theorem x_p_is_number {f : Addr} {fd : FuncData} (g : GG P w K mg base) (F : Fun K "is_number" "is_number" s_p_is_number f fd) (hmg : mg "is_number" = some (.ref f)) (hb : Binds K fd ["thing"] []) (h_p_is_integer : FnX P w K mg base ks "is_integer" 2 1 f_p_is_integer)  : FnX P w K mg base ks "is_number" 3 1 f_p_is_number :=
  fn_mkE F sc_p_is_number hmg hb rfl (fun cdv A outer s H E hG hr tk hp => by
    have hu : (cxOf (L2.CX P w) P w K mg base ["thing"] "is_number" (defScope s_p_is_number) f cdv A outer s H E).A.units + 64 < cLine := hr.units
    have hu1 := Nat.lt_of_le_of_lt (Nat.add_le_add_left (by decide : 1 ≤ 64) _) hu
    have hu2 : (cxOf (L2.CX P w) P w K mg base ["thing"] "is_number" (defScope s_p_is_number) f cdv A outer s H E).A.units + 66 < cLine := Nat.lt_of_le_of_lt (by omega) hr.un
    exact (ess_cons (es_ret (ev_and (EV.p (ev_call h_p_is_integer hG (hr.mono (by omega)) tk (ea_cons (ev_var 0) ea_nil))) (ev_one (ev_ge (ep_var 0) (EV.p ev_int))))) ess_nil))
theorem xg_p_is_number {f : Addr} {fd : FuncData} (g : GG P w K mg base) (F : Fun K "is_number" "is_number" s_p_is_number f fd) (hmg : mg "is_number" = some (.ref f)) (hb : Binds K fd ["thing"] []) (h_p_is_integer : FnX P w K mg base ks "is_integer" 2 1 f_p_is_integer)  : FnG P w K mg base 3 f fd ["thing"] (spG K ks mg 1 f_p_is_number) :=
  fn_mkG F sc_p_is_number (fun cdv A outer s H E hG hr tk hp => by
    have hu : (cxOf (L2.CX P w) P w K mg base ["thing"] "is_number" (defScope s_p_is_number) f cdv A outer s H E).A.units + 64 < cLine := hr.units
    have hu1 := Nat.lt_of_le_of_lt (Nat.add_le_add_left (by decide : 1 ≤ 64) _) hu
    have hu2 : (cxOf (L2.CX P w) P w K mg base ["thing"] "is_number" (defScope s_p_is_number) f cdv A outer s H E).A.units + 66 < cLine := Nat.lt_of_le_of_lt (by omega) hr.un
    exact (ess_cons (es_ret (ev_and (EV.p (ev_call h_p_is_integer hG (hr.mono (by omega)) tk (ea_cons (ev_var 0) ea_nil))) (ev_one (ev_ge (ep_var 0) (EV.p ev_int))))) ess_nil))
abbrev s_p_is_name : Stmt := topS 17
theorem sc_p_is_name : FnScope ["thing"] ["thing"] (defScope s_p_is_name) := ⟨rfl, rfl, rfl, by decide +kernel, rfl, by decide +kernel, by decide +kernel⟩
def m_p_is_name : MS := (seqS (ifS (bindM (bindM (m1 (isiO "str") (mPk 0)) fun d => optM (truD d)) fun v => retM (!v)) (seqS (bindS (retM (.bl false)) fun d s => .rt d s) (fun s => .nx s)) (fun s => .nx s)) (seqS (bindS (mIf (bindM (mCh ltO leO (retM (.int 0)) (mA lenO (mCons (mPk 0) (retM []))) (retM (.int 8))) asB) (m2 (eqO false) (mMt stripO (mPk 0) (mCons (retM (.str "abcdefghijklmnopqrstuvwxyz")) (retM []))) (retM (.str ""))) (retM (.bl false))) fun d s => .rt d s) (fun s => .nx s)))
def f_p_is_name : Fn := fnM 1 m_p_is_name
theorem x_p_is_name {f : Addr} {fd : FuncData} (g : GG P w K mg base) (F : Fun K "is_name" "is_name" s_p_is_name f fd) (hmg : mg "is_name" = some (.ref f)) (hb : Binds K fd ["thing"] [])   : FnX P w K mg base ks "is_name" 2 1 f_p_is_name :=
  fn_mkE F sc_p_is_name hmg hb rfl (fun cdv A outer s H E hG hr tk hp => by
    have hu : (cxOf (L2.CX P w) P w K mg base ["thing"] "is_name" (defScope s_p_is_name) f cdv A outer s H E).A.units + 64 < cLine := hr.units
    have hu1 := Nat.lt_of_le_of_lt (Nat.add_le_add_left (by decide : 1 ≤ 64) _) hu
    have hu2 : (cxOf (L2.CX P w) P w K mg base ["thing"] "is_name" (defScope s_p_is_name) f cdv A outer s H E).A.units + 66 < cLine := Nat.lt_of_le_of_lt (by omega) hr.un
    exact (ess_cons (es_if (et_not (et_truth (EV.p (ev_isi g.isinstance g.str (by decide +kernel) (ep_var 0))))) (ess_cons (es_ret ev_bl) ess_nil) ess_nil) (ess_cons (es_ret (ev_and (EV.p (ev_chain (opr_or op_lt op_lt_str) (opr_or op_le op_le_str) (o_ltI.or o_ltS) (o_leI.or o_leS) (EV.p ev_int) (EV.p (ev_len g.len (epa_cons (ep_var 0) epa_nil))) (EV.p (ev_globI g.LONGEST_NAME)))) (ev_one (ev_eq hu (EV.p (ev_mt PySem.F.slot_str_strip PySem.F.type_str_strip mt_stripChars o_strip (ep_var 0) (epa_cons (EV.p (ev_globS g.LETTERS)) epa_nil))) (EV.p ev_str))))) ess_nil)))
theorem xg_p_is_name {f : Addr} {fd : FuncData} (g : GG P w K mg base) (F : Fun K "is_name" "is_name" s_p_is_name f fd) (hmg : mg "is_name" = some (.ref f)) (hb : Binds K fd ["thing"] [])   : FnG P w K mg base 2 f fd ["thing"] (spG K ks mg 1 f_p_is_name) :=
  fn_mkG F sc_p_is_name (fun cdv A outer s H E hG hr tk hp => by
    have hu : (cxOf (L2.CX P w) P w K mg base ["thing"] "is_name" (defScope s_p_is_name) f cdv A outer s H E).A.units + 64 < cLine := hr.units
    have hu1 := Nat.lt_of_le_of_lt (Nat.add_le_add_left (by decide : 1 ≤ 64) _) hu
    have hu2 : (cxOf (L2.CX P w) P w K mg base ["thing"] "is_name" (defScope s_p_is_name) f cdv A outer s H E).A.units + 66 < cLine := Nat.lt_of_le_of_lt (by omega) hr.un
    exact (ess_cons (es_if (et_not (et_truth (EV.p (ev_isi g.isinstance g.str (by decide +kernel) (ep_var 0))))) (ess_cons (es_ret ev_bl) ess_nil) ess_nil) (ess_cons (es_ret (ev_and (EV.p (ev_chain (opr_or op_lt op_lt_str) (opr_or op_le op_le_str) (o_ltI.or o_ltS) (o_leI.or o_leS) (EV.p ev_int) (EV.p (ev_len g.len (epa_cons (ep_var 0) epa_nil))) (EV.p (ev_globI g.LONGEST_NAME)))) (ev_one (ev_eq hu (EV.p (ev_mt PySem.F.slot_str_strip PySem.F.type_str_strip mt_stripChars o_strip (ep_var 0) (epa_cons (EV.p (ev_globS g.LETTERS)) epa_nil))) (EV.p ev_str))))) ess_nil)))
abbrev s_p_is_kind : Stmt := topS 18
theorem sc_p_is_kind : FnScope ["thing"] ["thing"] (defScope s_p_is_kind) := ⟨rfl, rfl, rfl, by decide +kernel, rfl, by decide +kernel, by decide +kernel⟩
def m_p_is_kind : MS := (seqS (ifS (bindM (bindM (m1 (isiO "str") (mPk 0)) fun d => optM (truD d)) fun v => retM (!v)) (seqS (bindS (retM (.bl false)) fun d s => .rt d s) (fun s => .nx s)) (fun s => .nx s)) (seqS (tryS "InvalidText" (seqS (bindS (m2 (eqO false) (callM 3 f_p_kind_end (mCons (retM (.int 0)) (mCons (mVar 0) (mCons (retM (.int 0)) (retM []))))) (mA lenO (mCons (mPk 0) (retM [])))) fun d s => .rt d s) (fun s => .nx s)) fun _ s => .rt (.bl false) s) (fun s => .nx s)))
def f_p_is_kind : Fn := fnM 1 m_p_is_kind
theorem x_p_is_kind {f : Addr} {fd : FuncData} (g : GG P w K mg base) (F : Fun K "is_kind" "is_kind" s_p_is_kind f fd) (hmg : mg "is_kind" = some (.ref f)) (hb : Binds K fd ["thing"] []) (h_p_kind_end : FnX P w K mg base ks "kind_end" 8 3 f_p_kind_end)  : FnX P w K mg base ks "is_kind" 9 1 f_p_is_kind :=
  fn_mkE F sc_p_is_kind hmg hb rfl (fun cdv A outer s H E hG hr tk hp => by
    have hu : (cxOf (L2.CX P w) P w K mg base ["thing"] "is_kind" (defScope s_p_is_kind) f cdv A outer s H E).A.units + 64 < cLine := hr.units
    have hu1 := Nat.lt_of_le_of_lt (Nat.add_le_add_left (by decide : 1 ≤ 64) _) hu
    have hu2 : (cxOf (L2.CX P w) P w K mg base ["thing"] "is_kind" (defScope s_p_is_kind) f cdv A outer s H E).A.units + 66 < cLine := Nat.lt_of_le_of_lt (by omega) hr.un
    exact (ess_cons (es_if (et_not (et_truth (EV.p (ev_isi g.isinstance g.str (by decide +kernel) (ep_var 0))))) (ess_cons (es_ret ev_bl) ess_nil) ess_nil) (ess_cons (es_try rfl rfl g.cls_InvalidText.choose_spec.1 g.cls_InvalidText.choose_spec.2 tk (fun W' pn xe tk' hp' => (ess_cons (es_ret (ev_eq hu (EV.p (ev_call h_p_kind_end hG (hr.mono (by omega)) tk' (ea_cons ev_int (ea_cons (ev_var 0) (ea_cons ev_int ea_nil))))) (EV.p (ev_len g.len (epa_cons (ep_var 0) epa_nil))))) ess_nil)) (fun _ _ _ _ _ _ _ => pss_one (ps_ret pe_bl)) (isx_ret fun _ _ => .bl false)) ess_nil)))
theorem xg_p_is_kind {f : Addr} {fd : FuncData} (g : GG P w K mg base) (F : Fun K "is_kind" "is_kind" s_p_is_kind f fd) (hmg : mg "is_kind" = some (.ref f)) (hb : Binds K fd ["thing"] []) (h_p_kind_end : FnX P w K mg base ks "kind_end" 8 3 f_p_kind_end)  : FnG P w K mg base 9 f fd ["thing"] (spG K ks mg 1 f_p_is_kind) :=
  fn_mkG F sc_p_is_kind (fun cdv A outer s H E hG hr tk hp => by
    have hu : (cxOf (L2.CX P w) P w K mg base ["thing"] "is_kind" (defScope s_p_is_kind) f cdv A outer s H E).A.units + 64 < cLine := hr.units
    have hu1 := Nat.lt_of_le_of_lt (Nat.add_le_add_left (by decide : 1 ≤ 64) _) hu
    have hu2 : (cxOf (L2.CX P w) P w K mg base ["thing"] "is_kind" (defScope s_p_is_kind) f cdv A outer s H E).A.units + 66 < cLine := Nat.lt_of_le_of_lt (by omega) hr.un
    exact (ess_cons (es_if (et_not (et_truth (EV.p (ev_isi g.isinstance g.str (by decide +kernel) (ep_var 0))))) (ess_cons (es_ret ev_bl) ess_nil) ess_nil) (ess_cons (es_try rfl rfl g.cls_InvalidText.choose_spec.1 g.cls_InvalidText.choose_spec.2 tk (fun W' pn xe tk' hp' => (ess_cons (es_ret (ev_eq hu (EV.p (ev_call h_p_kind_end hG (hr.mono (by omega)) tk' (ea_cons ev_int (ea_cons (ev_var 0) (ea_cons ev_int ea_nil))))) (EV.p (ev_len g.len (epa_cons (ep_var 0) epa_nil))))) ess_nil)) (fun _ _ _ _ _ _ _ => pss_one (ps_ret pe_bl)) (isx_ret fun _ _ => .bl false)) ess_nil)))
abbrev s_p_is_row : Stmt := topS 19
theorem sc_p_is_row : FnScope ["thing", "length"] ["thing", "length"] (defScope s_p_is_row) := ⟨rfl, rfl, rfl, by decide +kernel, rfl, by decide +kernel, by decide +kernel⟩
def m_p_is_row : MS := (seqS (bindS (mIf (bindM (m1 (isiO "tuple") (mPk 0)) asB) (m2 (eqO false) (mA lenO (mCons (mPk 0) (retM []))) (mPk 1)) (retM (.bl false))) fun d s => .rt d s) (fun s => .nx s))
def f_p_is_row : Fn := fnM 2 m_p_is_row
theorem x_p_is_row {f : Addr} {fd : FuncData} (g : GG P w K mg base) (F : Fun K "is_row" "is_row" s_p_is_row f fd) (hmg : mg "is_row" = some (.ref f)) (hb : Binds K fd ["thing", "length"] [])   : FnX P w K mg base ks "is_row" 2 2 f_p_is_row :=
  fn_mkE F sc_p_is_row hmg hb rfl (fun cdv A outer s H E hG hr tk hp => by
    have hu : (cxOf (L2.CX P w) P w K mg base ["thing", "length"] "is_row" (defScope s_p_is_row) f cdv A outer s H E).A.units + 64 < cLine := hr.units
    have hu1 := Nat.lt_of_le_of_lt (Nat.add_le_add_left (by decide : 1 ≤ 64) _) hu
    have hu2 : (cxOf (L2.CX P w) P w K mg base ["thing", "length"] "is_row" (defScope s_p_is_row) f cdv A outer s H E).A.units + 66 < cLine := Nat.lt_of_le_of_lt (by omega) hr.un
    exact (ess_cons (es_ret (ev_and (EV.p (ev_isi g.isinstance g.tuple (by decide +kernel) (ep_var 0))) (ev_one (ev_eq hu (EV.p (ev_len g.len (epa_cons (ep_var 0) epa_nil))) (ep_var 1))))) ess_nil))
abbrev s_p_is_ascending : Stmt := topS 20
theorem sc_p_is_ascending : FnScope ["row", "low", "high"] ["row"] (defScope s_p_is_ascending) := ⟨rfl, rfl, rfl, by decide +kernel, rfl, by decide +kernel, by decide +kernel⟩
def m_p_is_ascending : MS := (seqS (bindS (mA allO (mCons (lcM [1, 2] (tg2 1 2) (retM true) (m2 ltO (mPk 1) (mPk 2)) (bindM (mCons (mVar 0) (mCons (m3 slV (mPk 0) (bindM (retM (.int 1)) asInt) (retM none)) (retM []))) zipM)) (retM []))) fun d s => .rt d s) (fun s => .nx s))
def f_p_is_ascending : Fn := fnM 3 m_p_is_ascending
theorem x_p_is_ascending {f : Addr} {fd : FuncData} (g : GG P w K mg base) (F : Fun K "is_ascending" "is_ascending" s_p_is_ascending f fd) (hmg : mg "is_ascending" = some (.ref f)) (hb : Binds K fd ["row"] [])   : FnX P w K mg base ks "is_ascending" 2 1 f_p_is_ascending :=
  fn_mkE F sc_p_is_ascending hmg hb rfl (fun cdv A outer s H E hG hr tk hp => by
    have hu : (cxOf (L2.CX P w) P w K mg base ["row", "low", "high"] "is_ascending" (defScope s_p_is_ascending) f cdv A outer s H E).A.units + 64 < cLine := hr.units
    have hu1 := Nat.lt_of_le_of_lt (Nat.add_le_add_left (by decide : 1 ≤ 64) _) hu
    have hu2 : (cxOf (L2.CX P w) P w K mg base ["row", "low", "high"] "is_ascending" (defScope s_p_is_ascending) f cdv A outer s H E).A.units + 66 < cLine := Nat.lt_of_le_of_lt (by omega) hr.un
    exact (ess_cons (es_ret (ev_all rfl g.all (epa_cons (EL.p (el_lc2 1 2 (by decide) rfl sc_p_is_ascending.nd (ew_zip g.zip (ea_cons (ev_var 0) (ea_cons (ev_slV (ep_var 0) (eo_some (EV.p ev_int)) eo_none) ea_nil))) (by show blkC ["row", "low", "high"] (defScope s_p_is_ascending) _ _ = true; decide +kernel) (fun _ _ _ _ _ => (ev_lt (ep_var 1) (ep_var 2))))) epa_nil))) ess_nil))
abbrev s_p_is_entry : Stmt := topS 21
theorem sc_p_is_entry : FnScope ["thing"] ["thing"] (defScope s_p_is_entry) := ⟨rfl, rfl, rfl, by decide +kernel, rfl, by decide +kernel, by decide +kernel⟩
def m_p_is_entry : MS := (seqS (bindS (mIf (bindM (callM 2 f_p_is_row (mCons (mVar 0) (mCons (retM (.int 2)) (retM [])))) asB) (mIf (bindM (callM 1 f_p_is_name (mCons (m2 ixO (mPk 0) (retM (.int 0))) (retM []))) asB) (callM 1 f_p_is_kind (mCons (m2 ixO (mPk 0) (retM (.int 1))) (retM []))) (retM (.bl false))) (retM (.bl false))) fun d s => .rt d s) (fun s => .nx s))
def f_p_is_entry : Fn := fnM 1 m_p_is_entry
theorem x_p_is_entry {f : Addr} {fd : FuncData} (g : GG P w K mg base) (F : Fun K "is_entry" "is_entry" s_p_is_entry f fd) (hmg : mg "is_entry" = some (.ref f)) (hb : Binds K fd ["thing"] []) (h_p_is_kind : FnX P w K mg base ks "is_kind" 9 1 f_p_is_kind) (h_p_is_name : FnX P w K mg base ks "is_name" 2 1 f_p_is_name) (h_p_is_row : FnX P w K mg base ks "is_row" 2 2 f_p_is_row)  : FnX P w K mg base ks "is_entry" 10 1 f_p_is_entry :=
  fn_mkE F sc_p_is_entry hmg hb rfl (fun cdv A outer s H E hG hr tk hp => by
    have hu : (cxOf (L2.CX P w) P w K mg base ["thing"] "is_entry" (defScope s_p_is_entry) f cdv A outer s H E).A.units + 64 < cLine := hr.units
    have hu1 := Nat.lt_of_le_of_lt (Nat.add_le_add_left (by decide : 1 ≤ 64) _) hu
    have hu2 : (cxOf (L2.CX P w) P w K mg base ["thing"] "is_entry" (defScope s_p_is_entry) f cdv A outer s H E).A.units + 66 < cLine := Nat.lt_of_le_of_lt (by omega) hr.un
    exact (ess_cons (es_ret (ev_and (EV.p (ev_call h_p_is_row hG (hr.mono (by omega)) tk (ea_cons (ev_var 0) (ea_cons ev_int ea_nil)))) (ev_and (EV.p (ev_call h_p_is_name hG (hr.mono (by omega)) tk (ea_cons (ev_ix (ep_var 0) (EV.p ev_int)) ea_nil))) (ev_one (ev_call h_p_is_kind hG (hr.mono (by omega)) tk (ea_cons (ev_ix (ep_var 0) (EV.p ev_int)) ea_nil)))))) ess_nil))
theorem xg_p_is_entry {f : Addr} {fd : FuncData} (g : GG P w K mg base) (F : Fun K "is_entry" "is_entry" s_p_is_entry f fd) (hmg : mg "is_entry" = some (.ref f)) (hb : Binds K fd ["thing"] []) (h_p_is_kind : FnX P w K mg base ks "is_kind" 9 1 f_p_is_kind) (h_p_is_name : FnX P w K mg base ks "is_name" 2 1 f_p_is_name) (h_p_is_row : FnX P w K mg base ks "is_row" 2 2 f_p_is_row)  : FnG P w K mg base 10 f fd ["thing"] (spG K ks mg 1 f_p_is_entry) :=
  fn_mkG F sc_p_is_entry (fun cdv A outer s H E hG hr tk hp => by
    have hu : (cxOf (L2.CX P w) P w K mg base ["thing"] "is_entry" (defScope s_p_is_entry) f cdv A outer s H E).A.units + 64 < cLine := hr.units
    have hu1 := Nat.lt_of_le_of_lt (Nat.add_le_add_left (by decide : 1 ≤ 64) _) hu
    have hu2 : (cxOf (L2.CX P w) P w K mg base ["thing"] "is_entry" (defScope s_p_is_entry) f cdv A outer s H E).A.units + 66 < cLine := Nat.lt_of_le_of_lt (by omega) hr.un
    exact (ess_cons (es_ret (ev_and (EV.p (ev_call h_p_is_row hG (hr.mono (by omega)) tk (ea_cons (ev_var 0) (ea_cons ev_int ea_nil)))) (ev_and (EV.p (ev_call h_p_is_name hG (hr.mono (by omega)) tk (ea_cons (ev_ix (ep_var 0) (EV.p ev_int)) ea_nil))) (ev_one (ev_call h_p_is_kind hG (hr.mono (by omega)) tk (ea_cons (ev_ix (ep_var 0) (EV.p ev_int)) ea_nil)))))) ess_nil))
abbrev s_p_are_entries : Stmt := topS 22
theorem sc_p_are_entries : FnScope ["thing", "entry"] ["thing"] (defScope s_p_are_entries) := ⟨rfl, rfl, rfl, by decide +kernel, rfl, by decide +kernel, by decide +kernel⟩
def m_p_are_entries : MS := (seqS (bindS (mIf (bindM (m1 (isiO "tuple") (mPk 0)) asB) (mA allO (mCons (lcM [1] (tgN 1) (retM true) (callM 1 f_p_is_entry (mCons (mVar 1) (retM []))) (bindM (mVar 0) asT)) (retM []))) (retM (.bl false))) fun d s => .rt d s) (fun s => .nx s))
def f_p_are_entries : Fn := fnM 2 m_p_are_entries
theorem x_p_are_entries {f : Addr} {fd : FuncData} (g : GG P w K mg base) (F : Fun K "are_entries" "are_entries" s_p_are_entries f fd) (hmg : mg "are_entries" = some (.ref f)) (hb : Binds K fd ["thing"] []) (h_p_is_entry : FnX P w K mg base ks "is_entry" 10 1 f_p_is_entry)  : FnX P w K mg base ks "are_entries" 11 1 f_p_are_entries :=
  fn_mkE F sc_p_are_entries hmg hb rfl (fun cdv A outer s H E hG hr tk hp => by
    have hu : (cxOf (L2.CX P w) P w K mg base ["thing", "entry"] "are_entries" (defScope s_p_are_entries) f cdv A outer s H E).A.units + 64 < cLine := hr.units
    have hu1 := Nat.lt_of_le_of_lt (Nat.add_le_add_left (by decide : 1 ≤ 64) _) hu
    have hu2 : (cxOf (L2.CX P w) P w K mg base ["thing", "entry"] "are_entries" (defScope s_p_are_entries) f cdv A outer s H E).A.units + 66 < cLine := Nat.lt_of_le_of_lt (by omega) hr.un
    exact (ess_cons (es_ret (ev_and (EV.p (ev_isi g.isinstance g.tuple (by decide +kernel) (ep_var 0))) (ev_one (ev_all rfl g.all (epa_cons (EL.p (el_lc 1 rfl sc_p_are_entries.nd (ew_tup (ev_var 0)) (by show blkC ["thing", "entry"] (defScope s_p_are_entries) _ _ = true; decide +kernel) (fun _ _ _ _ _ => (ev_call h_p_is_entry hG (hr.mono (by omega)) takes0 (ea_cons (ev_var 1) ea_nil))))) epa_nil))))) ess_nil))
abbrev s_p_names_of : Stmt := topS 23
theorem sc_p_names_of : FnScope ["entries", "entry"] ["entries"] (defScope s_p_names_of) := ⟨rfl, rfl, rfl, by decide +kernel, rfl, by decide +kernel, by decide +kernel⟩
def m_p_names_of : MS := (seqS (bindS (lcM [1] (tgN 1) (retM true) (m2 ixO (mPk 1) (retM (.int 0))) (bindM (mVar 0) asT)) fun d s => .rt d s) (fun s => .nx s))
def f_p_names_of : Fn := fnM 2 m_p_names_of
theorem x_p_names_of {f : Addr} {fd : FuncData} (g : GG P w K mg base) (F : Fun K "names_of" "names_of" s_p_names_of f fd) (hmg : mg "names_of" = some (.ref f)) (hb : Binds K fd ["entries"] [])   : FnX P w K mg base ks "names_of" 2 1 f_p_names_of :=
  fn_mkE F sc_p_names_of hmg hb rfl (fun cdv A outer s H E hG hr tk hp => by
    have hu : (cxOf (L2.CX P w) P w K mg base ["entries", "entry"] "names_of" (defScope s_p_names_of) f cdv A outer s H E).A.units + 64 < cLine := hr.units
    have hu1 := Nat.lt_of_le_of_lt (Nat.add_le_add_left (by decide : 1 ≤ 64) _) hu
    have hu2 : (cxOf (L2.CX P w) P w K mg base ["entries", "entry"] "names_of" (defScope s_p_names_of) f cdv A outer s H E).A.units + 66 < cLine := Nat.lt_of_le_of_lt (by omega) hr.un
    exact (ess_cons (es_ret (EL.v (el_lc 1 rfl sc_p_names_of.nd (ew_tup (ev_var 0)) (by show blkC ["entries", "entry"] (defScope s_p_names_of) _ _ = true; decide +kernel) (fun _ _ _ _ _ => (ev_ix (ep_var 1) (EV.p ev_int)))))) ess_nil))
abbrev s_p_is_book : Stmt := topS 24
theorem sc_p_is_book : FnScope ["thing"] ["thing"] (defScope s_p_is_book) := ⟨rfl, rfl, rfl, by decide +kernel, rfl, by decide +kernel, by decide +kernel⟩
def m_p_is_book : MS := (seqS (bindS (mIf (bindM (callM 1 f_p_are_entries (mCons (mVar 0) (retM []))) asB) (callM 1 f_p_is_ascending (mCons (callM 1 f_p_names_of (mCons (mVar 0) (retM []))) (retM []))) (retM (.bl false))) fun d s => .rt d s) (fun s => .nx s))
def f_p_is_book : Fn := fnM 1 m_p_is_book
theorem x_p_is_book {f : Addr} {fd : FuncData} (g : GG P w K mg base) (F : Fun K "is_book" "is_book" s_p_is_book f fd) (hmg : mg "is_book" = some (.ref f)) (hb : Binds K fd ["thing"] []) (h_p_is_ascending : FnX P w K mg base ks "is_ascending" 2 1 f_p_is_ascending) (h_p_names_of : FnX P w K mg base ks "names_of" 2 1 f_p_names_of) (h_p_are_entries : FnX P w K mg base ks "are_entries" 11 1 f_p_are_entries)  : FnX P w K mg base ks "is_book" 12 1 f_p_is_book :=
  fn_mkE F sc_p_is_book hmg hb rfl (fun cdv A outer s H E hG hr tk hp => by
    have hu : (cxOf (L2.CX P w) P w K mg base ["thing"] "is_book" (defScope s_p_is_book) f cdv A outer s H E).A.units + 64 < cLine := hr.units
    have hu1 := Nat.lt_of_le_of_lt (Nat.add_le_add_left (by decide : 1 ≤ 64) _) hu
    have hu2 : (cxOf (L2.CX P w) P w K mg base ["thing"] "is_book" (defScope s_p_is_book) f cdv A outer s H E).A.units + 66 < cLine := Nat.lt_of_le_of_lt (by omega) hr.un
    exact (ess_cons (es_ret (ev_and (EV.p (ev_call h_p_are_entries hG (hr.mono (by omega)) tk (ea_cons (ev_var 0) ea_nil))) (ev_one (ev_call h_p_is_ascending hG (hr.mono (by omega)) tk (ea_cons (ev_call h_p_names_of hG (hr.mono (by omega)) tk (ea_cons (ev_var 0) ea_nil)) ea_nil))))) ess_nil))
theorem xg_p_is_book {f : Addr} {fd : FuncData} (g : GG P w K mg base) (F : Fun K "is_book" "is_book" s_p_is_book f fd) (hmg : mg "is_book" = some (.ref f)) (hb : Binds K fd ["thing"] []) (h_p_is_ascending : FnX P w K mg base ks "is_ascending" 2 1 f_p_is_ascending) (h_p_names_of : FnX P w K mg base ks "names_of" 2 1 f_p_names_of) (h_p_are_entries : FnX P w K mg base ks "are_entries" 11 1 f_p_are_entries)  : FnG P w K mg base 12 f fd ["thing"] (spG K ks mg 1 f_p_is_book) :=
  fn_mkG F sc_p_is_book (fun cdv A outer s H E hG hr tk hp => by
    have hu : (cxOf (L2.CX P w) P w K mg base ["thing"] "is_book" (defScope s_p_is_book) f cdv A outer s H E).A.units + 64 < cLine := hr.units
    have hu1 := Nat.lt_of_le_of_lt (Nat.add_le_add_left (by decide : 1 ≤ 64) _) hu
    have hu2 : (cxOf (L2.CX P w) P w K mg base ["thing"] "is_book" (defScope s_p_is_book) f cdv A outer s H E).A.units + 66 < cLine := Nat.lt_of_le_of_lt (by omega) hr.un
    exact (ess_cons (es_ret (ev_and (EV.p (ev_call h_p_are_entries hG (hr.mono (by omega)) tk (ea_cons (ev_var 0) ea_nil))) (ev_one (ev_call h_p_is_ascending hG (hr.mono (by omega)) tk (ea_cons (ev_call h_p_names_of hG (hr.mono (by omega)) tk (ea_cons (ev_var 0) ea_nil)) ea_nil))))) ess_nil))
abbrev s_p_has_maker_form : Stmt := topS 25
theorem sc_p_has_maker_form : FnScope ["thing"] ["thing"] (defScope s_p_has_maker_form) := ⟨rfl, rfl, rfl, by decide +kernel, rfl, by decide +kernel, by decide +kernel⟩
def m_p_has_maker_form : MS := (seqS (bindS (mIf (bindM (callM 2 f_p_is_row (mCons (mVar 0) (mCons (retM (.int 2)) (retM [])))) asB) (mIf (bindM (mIf (bindM (callM 1 f_p_is_name (mCons (m2 ixO (mPk 0) (retM (.int 0))) (retM []))) asB) (retM (.bl true)) (callM 1 f_p_is_number (mCons (m2 ixO (mPk 0) (retM (.int 0))) (retM [])))) asB) (m1 (isiO "tuple") (m2 ixO (mPk 0) (retM (.int 1)))) (retM (.bl false))) (retM (.bl false))) fun d s => .rt d s) (fun s => .nx s))
def f_p_has_maker_form : Fn := fnM 1 m_p_has_maker_form
theorem x_p_has_maker_form {f : Addr} {fd : FuncData} (g : GG P w K mg base) (F : Fun K "has_maker_form" "has_maker_form" s_p_has_maker_form f fd) (hmg : mg "has_maker_form" = some (.ref f)) (hb : Binds K fd ["thing"] []) (h_p_is_number : FnX P w K mg base ks "is_number" 3 1 f_p_is_number) (h_p_is_name : FnX P w K mg base ks "is_name" 2 1 f_p_is_name) (h_p_is_row : FnX P w K mg base ks "is_row" 2 2 f_p_is_row)  : FnX P w K mg base ks "has_maker_form" 4 1 f_p_has_maker_form :=
  fn_mkE F sc_p_has_maker_form hmg hb rfl (fun cdv A outer s H E hG hr tk hp => by
    have hu : (cxOf (L2.CX P w) P w K mg base ["thing"] "has_maker_form" (defScope s_p_has_maker_form) f cdv A outer s H E).A.units + 64 < cLine := hr.units
    have hu1 := Nat.lt_of_le_of_lt (Nat.add_le_add_left (by decide : 1 ≤ 64) _) hu
    have hu2 : (cxOf (L2.CX P w) P w K mg base ["thing"] "has_maker_form" (defScope s_p_has_maker_form) f cdv A outer s H E).A.units + 66 < cLine := Nat.lt_of_le_of_lt (by omega) hr.un
    exact (ess_cons (es_ret (ev_and (EV.p (ev_call h_p_is_row hG (hr.mono (by omega)) tk (ea_cons (ev_var 0) (ea_cons ev_int ea_nil)))) (ev_and (EV.p (ev_or (EV.p (ev_call h_p_is_name hG (hr.mono (by omega)) tk (ea_cons (ev_ix (ep_var 0) (EV.p ev_int)) ea_nil))) (ev_one (ev_call h_p_is_number hG (hr.mono (by omega)) tk (ea_cons (ev_ix (ep_var 0) (EV.p ev_int)) ea_nil))))) (ev_one (ev_isi g.isinstance g.tuple (by decide +kernel) (EV.p (ev_ix (ep_var 0) (EV.p ev_int)))))))) ess_nil))
abbrev s_p_is_maker : Stmt := topS 26
theorem sc_p_is_maker : FnScope ["thing", "waiting", "maker"] ["thing"] (defScope s_p_is_maker) := ⟨rfl, rfl, rfl, by decide +kernel, rfl, by decide +kernel, by decide +kernel⟩
def m_p_is_maker : MS := (seqS (asgL 1 (bindM (mCons (mVar 0) (retM [])) fun ds => optM (lstO ds))) (seqS (whileS (bindM (mPk 1) fun d => optM (truD d)) (seqS (popS 2 1) (seqS (ifS (bindM (bindM (callM 1 f_p_has_maker_form (mCons (mVar 2) (retM []))) fun d => optM (truD d)) fun v => retM (!v)) (seqS (bindS (retM (.bl false)) fun d s => .rt d s) (fun s => .nx s)) (fun s => .nx s)) (seqS (extTM 1 (m2 ixO (mPk 2) (retM (.int 1)))) (fun s => .nx s)))) 100000) (seqS (bindS (retM (.bl true)) fun d s => .rt d s) (fun s => .nx s))))
def f_p_is_maker : Fn := fnM 3 m_p_is_maker
theorem x_p_is_maker {f : Addr} {fd : FuncData} (g : GG P w K mg base) (F : Fun K "is_maker" "is_maker" s_p_is_maker f fd) (hmg : mg "is_maker" = some (.ref f)) (hb : Binds K fd ["thing"] []) (h_p_has_maker_form : FnX P w K mg base ks "has_maker_form" 4 1 f_p_has_maker_form)  : FnX P w K mg base ks "is_maker" 5 1 f_p_is_maker :=
  fn_mkE F sc_p_is_maker hmg hb rfl (fun cdv A outer s H E hG hr tk hp => by
    have hu : (cxOf (L2.CX P w) P w K mg base ["thing", "waiting", "maker"] "is_maker" (defScope s_p_is_maker) f cdv A outer s H E).A.units + 64 < cLine := hr.units
    have hu1 := Nat.lt_of_le_of_lt (Nat.add_le_add_left (by decide : 1 ≤ 64) _) hu
    have hu2 : (cxOf (L2.CX P w) P w K mg base ["thing", "waiting", "maker"] "is_maker" (defScope s_p_is_maker) f cdv A outer s H E).A.units + 66 < cLine := Nat.lt_of_le_of_lt (by omega) hr.un
    exact (ess_cons (es_setL 1 sc_p_is_maker.nd (el_lst (ea_cons (ev_var 0) ea_nil))) (ess_cons (es_while 100000 hp (et_truth (ep_var 1)) (ess_cons (es_pop 2 1 sc_p_is_maker.nd) (ess_cons (es_if (et_not (et_truth (EV.p (ev_call h_p_has_maker_form hG (hr.mono (by omega)) tk (ea_cons (ev_var 2) ea_nil))))) (ess_cons (es_ret ev_bl) ess_nil) ess_nil) (ess_cons (es_extendT 1 (EV.p (ev_ix (ep_var 2) (EV.p ev_int)))) ess_nil)))) (ess_cons (es_ret ev_bl) ess_nil))))
theorem xg_p_is_maker {f : Addr} {fd : FuncData} (g : GG P w K mg base) (F : Fun K "is_maker" "is_maker" s_p_is_maker f fd) (hmg : mg "is_maker" = some (.ref f)) (hb : Binds K fd ["thing"] []) (h_p_has_maker_form : FnX P w K mg base ks "has_maker_form" 4 1 f_p_has_maker_form)  : FnG P w K mg base 5 f fd ["thing"] (spG K ks mg 1 f_p_is_maker) :=
  fn_mkG F sc_p_is_maker (fun cdv A outer s H E hG hr tk hp => by
    have hu : (cxOf (L2.CX P w) P w K mg base ["thing", "waiting", "maker"] "is_maker" (defScope s_p_is_maker) f cdv A outer s H E).A.units + 64 < cLine := hr.units
    have hu1 := Nat.lt_of_le_of_lt (Nat.add_le_add_left (by decide : 1 ≤ 64) _) hu
    have hu2 : (cxOf (L2.CX P w) P w K mg base ["thing", "waiting", "maker"] "is_maker" (defScope s_p_is_maker) f cdv A outer s H E).A.units + 66 < cLine := Nat.lt_of_le_of_lt (by omega) hr.un
    exact (ess_cons (es_setL 1 sc_p_is_maker.nd (el_lst (ea_cons (ev_var 0) ea_nil))) (ess_cons (es_while 100000 hp (et_truth (ep_var 1)) (ess_cons (es_pop 2 1 sc_p_is_maker.nd) (ess_cons (es_if (et_not (et_truth (EV.p (ev_call h_p_has_maker_form hG (hr.mono (by omega)) tk (ea_cons (ev_var 2) ea_nil))))) (ess_cons (es_ret ev_bl) ess_nil) ess_nil) (ess_cons (es_extendT 1 (EV.p (ev_ix (ep_var 2) (EV.p ev_int)))) ess_nil)))) (ess_cons (es_ret ev_bl) ess_nil))))
abbrev s_p_has_call_form : Stmt := topS 27
theorem sc_p_has_call_form : FnScope ["thing"] ["thing"] (defScope s_p_has_call_form) := ⟨rfl, rfl, rfl, by decide +kernel, rfl, by decide +kernel, by decide +kernel⟩
def m_p_has_call_form : MS := (seqS (bindS (mIf (bindM (callM 2 f_p_is_row (mCons (mVar 0) (mCons (retM (.int 3)) (retM [])))) asB) (mIf (bindM (m2 (eqO false) (m2 ixO (mPk 0) (retM (.int 0))) (retM (.str "call"))) asB) (mIf (bindM (m1 (isiO "tuple") (m2 ixO (mPk 0) (retM (.int 2)))) asB) (m2 gtO (mA lenO (mCons (m2 ixO (mPk 0) (retM (.int 2))) (retM []))) (retM (.int 0))) (retM (.bl false))) (retM (.bl false))) (retM (.bl false))) fun d s => .rt d s) (fun s => .nx s))
def f_p_has_call_form : Fn := fnM 1 m_p_has_call_form
theorem x_p_has_call_form {f : Addr} {fd : FuncData} (g : GG P w K mg base) (F : Fun K "has_call_form" "has_call_form" s_p_has_call_form f fd) (hmg : mg "has_call_form" = some (.ref f)) (hb : Binds K fd ["thing"] []) (h_p_is_row : FnX P w K mg base ks "is_row" 2 2 f_p_is_row)  : FnX P w K mg base ks "has_call_form" 3 1 f_p_has_call_form :=
  fn_mkE F sc_p_has_call_form hmg hb rfl (fun cdv A outer s H E hG hr tk hp => by
    have hu : (cxOf (L2.CX P w) P w K mg base ["thing"] "has_call_form" (defScope s_p_has_call_form) f cdv A outer s H E).A.units + 64 < cLine := hr.units
    have hu1 := Nat.lt_of_le_of_lt (Nat.add_le_add_left (by decide : 1 ≤ 64) _) hu
    have hu2 : (cxOf (L2.CX P w) P w K mg base ["thing"] "has_call_form" (defScope s_p_has_call_form) f cdv A outer s H E).A.units + 66 < cLine := Nat.lt_of_le_of_lt (by omega) hr.un
    exact (ess_cons (es_ret (ev_and (EV.p (ev_call h_p_is_row hG (hr.mono (by omega)) tk (ea_cons (ev_var 0) (ea_cons ev_int ea_nil)))) (ev_and (EV.p (ev_eq hu (EV.p (ev_ix (ep_var 0) (EV.p ev_int))) (EV.p ev_str))) (ev_and (EV.p (ev_isi g.isinstance g.tuple (by decide +kernel) (EV.p (ev_ix (ep_var 0) (EV.p ev_int))))) (ev_one (ev_gt (EV.p (ev_len g.len (epa_cons (EV.p (ev_ix (ep_var 0) (EV.p ev_int))) epa_nil))) (EV.p ev_int))))))) ess_nil))
abbrev s_p_has_fun_form : Stmt := topS 28
theorem sc_p_has_fun_form : FnScope ["thing", "names"] ["thing"] (defScope s_p_has_fun_form) := ⟨rfl, rfl, rfl, by decide +kernel, rfl, by decide +kernel, by decide +kernel⟩
def m_p_has_fun_form : MS := (seqS (ifS (mIf (bindM (bindM (callM 2 f_p_is_row (mCons (mVar 0) (mCons (retM (.int 3)) (retM [])))) fun d => optM (truD d)) fun v => retM (!v)) (retM true) (mIf (bindM (m2 (eqO true) (m2 ixO (mPk 0) (retM (.int 0))) (retM (.str "fun"))) asB) (retM true) (bindM (bindM (callM 1 f_p_are_entries (mCons (m2 ixO (mPk 0) (retM (.int 1))) (retM []))) fun d => optM (truD d)) fun v => retM (!v)))) (seqS (bindS (retM (.bl false)) fun d s => .rt d s) (fun s => .nx s)) (fun s => .nx s)) (seqS (asgV 1 (callM 1 f_p_names_of (mCons (m2 ixO (mPk 0) (retM (.int 1))) (retM [])))) (seqS (bindS (mIf (bindM (m2 gtO (mA lenO (mCons (mPk 1) (retM []))) (retM (.int 0))) asB) (m2 (eqO false) (m1 lenUO (mPk 1)) (mA lenO (mCons (mPk 1) (retM [])))) (retM (.bl false))) fun d s => .rt d s) (fun s => .nx s))))
def f_p_has_fun_form : Fn := fnM 2 m_p_has_fun_form
theorem x_p_has_fun_form {f : Addr} {fd : FuncData} (g : GG P w K mg base) (F : Fun K "has_fun_form" "has_fun_form" s_p_has_fun_form f fd) (hmg : mg "has_fun_form" = some (.ref f)) (hb : Binds K fd ["thing"] []) (h_p_names_of : FnX P w K mg base ks "names_of" 2 1 f_p_names_of) (h_p_are_entries : FnX P w K mg base ks "are_entries" 11 1 f_p_are_entries) (h_p_is_row : FnX P w K mg base ks "is_row" 2 2 f_p_is_row)  : FnX P w K mg base ks "has_fun_form" 12 1 f_p_has_fun_form :=
  fn_mkE F sc_p_has_fun_form hmg hb rfl (fun cdv A outer s H E hG hr tk hp => by
    have hu : (cxOf (L2.CX P w) P w K mg base ["thing", "names"] "has_fun_form" (defScope s_p_has_fun_form) f cdv A outer s H E).A.units + 64 < cLine := hr.units
    have hu1 := Nat.lt_of_le_of_lt (Nat.add_le_add_left (by decide : 1 ≤ 64) _) hu
    have hu2 : (cxOf (L2.CX P w) P w K mg base ["thing", "names"] "has_fun_form" (defScope s_p_has_fun_form) f cdv A outer s H E).A.units + 66 < cLine := Nat.lt_of_le_of_lt (by omega) hr.un
    exact (ess_cons (es_if (ew_t (ew_or (et_not (et_truth (EV.p (ev_call h_p_is_row hG (hr.mono (by omega)) tk (ea_cons (ev_var 0) (ea_cons ev_int ea_nil)))))) (ew_or (et_cmp (op_neD hu) (o_neD) (EV.p (ev_ix (ep_var 0) (EV.p ev_int))) (EV.p ev_str) (nomark _)) (ew_or1 (et_not (et_truth (EV.p (ev_call h_p_are_entries hG (hr.mono (by omega)) tk (ea_cons (ev_ix (ep_var 0) (EV.p ev_int)) ea_nil))))))))) (ess_cons (es_ret ev_bl) ess_nil) ess_nil) (ess_cons (es_set 1 sc_p_has_fun_form.nd (ev_call h_p_names_of hG (hr.mono (by omega)) tk (ea_cons (ev_ix (ep_var 0) (EV.p ev_int)) ea_nil))) (ess_cons (es_ret (ev_and (EV.p (ev_gt (EV.p (ev_len g.len (epa_cons (ep_var 1) epa_nil))) (EV.p ev_int))) (ev_one (ev_eq hu (EV.p (ev_lenU rfl g.len g.set (ep_var 1))) (EV.p (ev_len g.len (epa_cons (ep_var 1) epa_nil))))))) ess_nil))))
abbrev s_p_has_term_form : Stmt := topS 29
theorem sc_p_has_term_form : FnScope ["thing"] ["thing"] (defScope s_p_has_term_form) := ⟨rfl, rfl, rfl, by decide +kernel, rfl, by decide +kernel, by decide +kernel⟩
def m_p_has_term_form : MS := (seqS (bindS (mIf (bindM (callM 1 f_p_is_name (mCons (mVar 0) (retM []))) asB) (retM (.bl true)) (mIf (bindM (callM 1 f_p_has_call_form (mCons (mVar 0) (retM []))) asB) (retM (.bl true)) (callM 1 f_p_has_fun_form (mCons (mVar 0) (retM []))))) fun d s => .rt d s) (fun s => .nx s))
def f_p_has_term_form : Fn := fnM 1 m_p_has_term_form
theorem x_p_has_term_form {f : Addr} {fd : FuncData} (g : GG P w K mg base) (F : Fun K "has_term_form" "has_term_form" s_p_has_term_form f fd) (hmg : mg "has_term_form" = some (.ref f)) (hb : Binds K fd ["thing"] []) (h_p_has_fun_form : FnX P w K mg base ks "has_fun_form" 12 1 f_p_has_fun_form) (h_p_has_call_form : FnX P w K mg base ks "has_call_form" 3 1 f_p_has_call_form) (h_p_is_name : FnX P w K mg base ks "is_name" 2 1 f_p_is_name)  : FnX P w K mg base ks "has_term_form" 13 1 f_p_has_term_form :=
  fn_mkE F sc_p_has_term_form hmg hb rfl (fun cdv A outer s H E hG hr tk hp => by
    have hu : (cxOf (L2.CX P w) P w K mg base ["thing"] "has_term_form" (defScope s_p_has_term_form) f cdv A outer s H E).A.units + 64 < cLine := hr.units
    have hu1 := Nat.lt_of_le_of_lt (Nat.add_le_add_left (by decide : 1 ≤ 64) _) hu
    have hu2 : (cxOf (L2.CX P w) P w K mg base ["thing"] "has_term_form" (defScope s_p_has_term_form) f cdv A outer s H E).A.units + 66 < cLine := Nat.lt_of_le_of_lt (by omega) hr.un
    exact (ess_cons (es_ret (ev_or (EV.p (ev_call h_p_is_name hG (hr.mono (by omega)) tk (ea_cons (ev_var 0) ea_nil))) (ev_or (EV.p (ev_call h_p_has_call_form hG (hr.mono (by omega)) tk (ea_cons (ev_var 0) ea_nil))) (ev_one (ev_call h_p_has_fun_form hG (hr.mono (by omega)) tk (ea_cons (ev_var 0) ea_nil)))))) ess_nil))
abbrev s_p_inner_terms : Stmt := topS 30
theorem sc_p_inner_terms : FnScope ["term"] ["term"] (defScope s_p_inner_terms) := ⟨rfl, rfl, rfl, by decide +kernel, rfl, by decide +kernel, by decide +kernel⟩
def m_p_inner_terms : MS := (seqS (ifS (bindM (callM 1 f_p_has_call_form (mCons (mVar 0) (retM []))) fun d => optM (truD d)) (seqS (bindS (m2 addL (bindM (mCons (m2 ixO (mPk 0) (retM (.int 1))) (retM [])) fun ds => optM (lstO ds)) (mA listO (mCons (m2 ixO (mPk 0) (retM (.int 2))) (retM [])))) fun d s => .rt d s) (fun s => .nx s)) (fun s => .nx s)) (seqS (bindS (mIf (bindM (callM 1 f_p_has_fun_form (mCons (mVar 0) (retM []))) fun d => optM (truD d)) (bindM (mCons (m2 ixO (mPk 0) (retM (.int 2))) (retM [])) fun ds => optM (lstO ds)) (bindM (retM []) fun ds => optM (lstO ds))) fun d s => .rt d s) (fun s => .nx s)))
def f_p_inner_terms : Fn := fnM 1 m_p_inner_terms
theorem x_p_inner_terms {f : Addr} {fd : FuncData} (g : GG P w K mg base) (F : Fun K "inner_terms" "inner_terms" s_p_inner_terms f fd) (hmg : mg "inner_terms" = some (.ref f)) (hb : Binds K fd ["term"] []) (h_p_has_fun_form : FnX P w K mg base ks "has_fun_form" 12 1 f_p_has_fun_form) (h_p_has_call_form : FnX P w K mg base ks "has_call_form" 3 1 f_p_has_call_form)  : FnX P w K mg base ks "inner_terms" 13 1 f_p_inner_terms :=
  fn_mkE F sc_p_inner_terms hmg hb rfl (fun cdv A outer s H E hG hr tk hp => by
    have hu : (cxOf (L2.CX P w) P w K mg base ["term"] "inner_terms" (defScope s_p_inner_terms) f cdv A outer s H E).A.units + 64 < cLine := hr.units
    have hu1 := Nat.lt_of_le_of_lt (Nat.add_le_add_left (by decide : 1 ≤ 64) _) hu
    have hu2 : (cxOf (L2.CX P w) P w K mg base ["term"] "inner_terms" (defScope s_p_inner_terms) f cdv A outer s H E).A.units + 66 < cLine := Nat.lt_of_le_of_lt (by omega) hr.un
    exact (ess_cons (es_if (et_truth (EV.p (ev_call h_p_has_call_form hG (hr.mono (by omega)) tk (ea_cons (ev_var 0) ea_nil)))) (ess_cons (es_ret (EL.v (el_cat (EL.p (el_lst (ea_cons (ev_ix (ep_var 0) (EV.p ev_int)) ea_nil))) (EL.p (el_list g.list (epa_cons (EV.p (ev_ix (ep_var 0) (EV.p ev_int))) epa_nil)))))) ess_nil) ess_nil) (ess_cons (es_ret (ev_if (et_truth (EV.p (ev_call h_p_has_fun_form hG (hr.mono (by omega)) tk (ea_cons (ev_var 0) ea_nil)))) (EL.v (el_lst (ea_cons (ev_ix (ep_var 0) (EV.p ev_int)) ea_nil))) (EL.v (el_lst ea_nil)))) ess_nil)))
abbrev s_p_is_term : Stmt := topS 31
theorem sc_p_is_term : FnScope ["thing", "waiting", "term"] ["thing"] (defScope s_p_is_term) := ⟨rfl, rfl, rfl, by decide +kernel, rfl, by decide +kernel, by decide +kernel⟩
def m_p_is_term : MS := (seqS (asgL 1 (bindM (mCons (mVar 0) (retM [])) fun ds => optM (lstO ds))) (seqS (whileS (bindM (mPk 1) fun d => optM (truD d)) (seqS (popS 2 1) (seqS (ifS (bindM (bindM (callM 1 f_p_has_term_form (mCons (mVar 2) (retM []))) fun d => optM (truD d)) fun v => retM (!v)) (seqS (bindS (retM (.bl false)) fun d s => .rt d s) (fun s => .nx s)) (fun s => .nx s)) (seqS (extS 1 (callM 1 f_p_inner_terms (mCons (mVar 2) (retM [])))) (fun s => .nx s)))) 100000) (seqS (bindS (retM (.bl true)) fun d s => .rt d s) (fun s => .nx s))))
def f_p_is_term : Fn := fnM 3 m_p_is_term
theorem x_p_is_term {f : Addr} {fd : FuncData} (g : GG P w K mg base) (F : Fun K "is_term" "is_term" s_p_is_term f fd) (hmg : mg "is_term" = some (.ref f)) (hb : Binds K fd ["thing"] []) (h_p_inner_terms : FnX P w K mg base ks "inner_terms" 13 1 f_p_inner_terms) (h_p_has_term_form : FnX P w K mg base ks "has_term_form" 13 1 f_p_has_term_form)  : FnX P w K mg base ks "is_term" 14 1 f_p_is_term :=
  fn_mkE F sc_p_is_term hmg hb rfl (fun cdv A outer s H E hG hr tk hp => by
    have hu : (cxOf (L2.CX P w) P w K mg base ["thing", "waiting", "term"] "is_term" (defScope s_p_is_term) f cdv A outer s H E).A.units + 64 < cLine := hr.units
    have hu1 := Nat.lt_of_le_of_lt (Nat.add_le_add_left (by decide : 1 ≤ 64) _) hu
    have hu2 : (cxOf (L2.CX P w) P w K mg base ["thing", "waiting", "term"] "is_term" (defScope s_p_is_term) f cdv A outer s H E).A.units + 66 < cLine := Nat.lt_of_le_of_lt (by omega) hr.un
    exact (ess_cons (es_setL 1 sc_p_is_term.nd (el_lst (ea_cons (ev_var 0) ea_nil))) (ess_cons (es_while 100000 hp (et_truth (ep_var 1)) (ess_cons (es_pop 2 1 sc_p_is_term.nd) (ess_cons (es_if (et_not (et_truth (EV.p (ev_call h_p_has_term_form hG (hr.mono (by omega)) tk (ea_cons (ev_var 2) ea_nil))))) (ess_cons (es_ret ev_bl) ess_nil) ess_nil) (ess_cons (es_extend 1 (EV.p (ev_call h_p_inner_terms hG (hr.mono (by omega)) tk (ea_cons (ev_var 2) ea_nil)))) ess_nil)))) (ess_cons (es_ret ev_bl) ess_nil))))
theorem xg_p_is_term {f : Addr} {fd : FuncData} (g : GG P w K mg base) (F : Fun K "is_term" "is_term" s_p_is_term f fd) (hmg : mg "is_term" = some (.ref f)) (hb : Binds K fd ["thing"] []) (h_p_inner_terms : FnX P w K mg base ks "inner_terms" 13 1 f_p_inner_terms) (h_p_has_term_form : FnX P w K mg base ks "has_term_form" 13 1 f_p_has_term_form)  : FnG P w K mg base 14 f fd ["thing"] (spG K ks mg 1 f_p_is_term) :=
  fn_mkG F sc_p_is_term (fun cdv A outer s H E hG hr tk hp => by
    have hu : (cxOf (L2.CX P w) P w K mg base ["thing", "waiting", "term"] "is_term" (defScope s_p_is_term) f cdv A outer s H E).A.units + 64 < cLine := hr.units
    have hu1 := Nat.lt_of_le_of_lt (Nat.add_le_add_left (by decide : 1 ≤ 64) _) hu
    have hu2 : (cxOf (L2.CX P w) P w K mg base ["thing", "waiting", "term"] "is_term" (defScope s_p_is_term) f cdv A outer s H E).A.units + 66 < cLine := Nat.lt_of_le_of_lt (by omega) hr.un
    exact (ess_cons (es_setL 1 sc_p_is_term.nd (el_lst (ea_cons (ev_var 0) ea_nil))) (ess_cons (es_while 100000 hp (et_truth (ep_var 1)) (ess_cons (es_pop 2 1 sc_p_is_term.nd) (ess_cons (es_if (et_not (et_truth (EV.p (ev_call h_p_has_term_form hG (hr.mono (by omega)) tk (ea_cons (ev_var 2) ea_nil))))) (ess_cons (es_ret ev_bl) ess_nil) ess_nil) (ess_cons (es_extend 1 (EV.p (ev_call h_p_inner_terms hG (hr.mono (by omega)) tk (ea_cons (ev_var 2) ea_nil)))) ess_nil)))) (ess_cons (es_ret ev_bl) ess_nil))))
abbrev s_p_is_kind_set : Stmt := topS 32
theorem sc_p_is_kind_set : FnScope ["thing", "kind"] ["thing"] (defScope s_p_is_kind_set) := ⟨rfl, rfl, rfl, by decide +kernel, rfl, by decide +kernel, by decide +kernel⟩
def m_p_is_kind_set : MS := (seqS (bindS (mIf (bindM (m1 (isiO "tuple") (mPk 0)) asB) (mIf (bindM (mA allO (mCons (lcM [1] (tgN 1) (retM true) (callM 1 f_p_is_kind (mCons (mVar 1) (retM []))) (bindM (mVar 0) asT)) (retM []))) asB) (callM 1 f_p_is_ascending (mCons (mVar 0) (retM []))) (retM (.bl false))) (retM (.bl false))) fun d s => .rt d s) (fun s => .nx s))
def f_p_is_kind_set : Fn := fnM 2 m_p_is_kind_set
theorem x_p_is_kind_set {f : Addr} {fd : FuncData} (g : GG P w K mg base) (F : Fun K "is_kind_set" "is_kind_set" s_p_is_kind_set f fd) (hmg : mg "is_kind_set" = some (.ref f)) (hb : Binds K fd ["thing"] []) (h_p_is_ascending : FnX P w K mg base ks "is_ascending" 2 1 f_p_is_ascending) (h_p_is_kind : FnX P w K mg base ks "is_kind" 9 1 f_p_is_kind)  : FnX P w K mg base ks "is_kind_set" 10 1 f_p_is_kind_set :=
  fn_mkE F sc_p_is_kind_set hmg hb rfl (fun cdv A outer s H E hG hr tk hp => by
    have hu : (cxOf (L2.CX P w) P w K mg base ["thing", "kind"] "is_kind_set" (defScope s_p_is_kind_set) f cdv A outer s H E).A.units + 64 < cLine := hr.units
    have hu1 := Nat.lt_of_le_of_lt (Nat.add_le_add_left (by decide : 1 ≤ 64) _) hu
    have hu2 : (cxOf (L2.CX P w) P w K mg base ["thing", "kind"] "is_kind_set" (defScope s_p_is_kind_set) f cdv A outer s H E).A.units + 66 < cLine := Nat.lt_of_le_of_lt (by omega) hr.un
    exact (ess_cons (es_ret (ev_and (EV.p (ev_isi g.isinstance g.tuple (by decide +kernel) (ep_var 0))) (ev_and (EV.p (ev_all rfl g.all (epa_cons (EL.p (el_lc 1 rfl sc_p_is_kind_set.nd (ew_tup (ev_var 0)) (by show blkC ["thing", "kind"] (defScope s_p_is_kind_set) _ _ = true; decide +kernel) (fun _ _ _ _ _ => (ev_call h_p_is_kind hG (hr.mono (by omega)) takes0 (ea_cons (ev_var 1) ea_nil))))) epa_nil))) (ev_one (ev_call h_p_is_ascending hG (hr.mono (by omega)) tk (ea_cons (ev_var 0) ea_nil)))))) ess_nil))
abbrev s_p_is_stand : Stmt := topS 33
theorem sc_p_is_stand : FnScope ["thing"] ["thing"] (defScope s_p_is_stand) := ⟨rfl, rfl, rfl, by decide +kernel, rfl, by decide +kernel, by decide +kernel⟩
def m_p_is_stand : MS := (seqS (bindS (mIf (bindM (callM 2 f_p_is_row (mCons (mVar 0) (mCons (retM (.int 2)) (retM [])))) asB) (mIf (bindM (callM 1 f_p_is_kind_set (mCons (m2 ixO (mPk 0) (retM (.int 0))) (retM []))) asB) (callM 1 f_p_is_name (mCons (m2 ixO (mPk 0) (retM (.int 1))) (retM []))) (retM (.bl false))) (retM (.bl false))) fun d s => .rt d s) (fun s => .nx s))
def f_p_is_stand : Fn := fnM 1 m_p_is_stand
theorem x_p_is_stand {f : Addr} {fd : FuncData} (g : GG P w K mg base) (F : Fun K "is_stand" "is_stand" s_p_is_stand f fd) (hmg : mg "is_stand" = some (.ref f)) (hb : Binds K fd ["thing"] []) (h_p_is_name : FnX P w K mg base ks "is_name" 2 1 f_p_is_name) (h_p_is_kind_set : FnX P w K mg base ks "is_kind_set" 10 1 f_p_is_kind_set) (h_p_is_row : FnX P w K mg base ks "is_row" 2 2 f_p_is_row)  : FnX P w K mg base ks "is_stand" 11 1 f_p_is_stand :=
  fn_mkE F sc_p_is_stand hmg hb rfl (fun cdv A outer s H E hG hr tk hp => by
    have hu : (cxOf (L2.CX P w) P w K mg base ["thing"] "is_stand" (defScope s_p_is_stand) f cdv A outer s H E).A.units + 64 < cLine := hr.units
    have hu1 := Nat.lt_of_le_of_lt (Nat.add_le_add_left (by decide : 1 ≤ 64) _) hu
    have hu2 : (cxOf (L2.CX P w) P w K mg base ["thing"] "is_stand" (defScope s_p_is_stand) f cdv A outer s H E).A.units + 66 < cLine := Nat.lt_of_le_of_lt (by omega) hr.un
    exact (ess_cons (es_ret (ev_and (EV.p (ev_call h_p_is_row hG (hr.mono (by omega)) tk (ea_cons (ev_var 0) (ea_cons ev_int ea_nil)))) (ev_and (EV.p (ev_call h_p_is_kind_set hG (hr.mono (by omega)) tk (ea_cons (ev_ix (ep_var 0) (EV.p ev_int)) ea_nil))) (ev_one (ev_call h_p_is_name hG (hr.mono (by omega)) tk (ea_cons (ev_ix (ep_var 0) (EV.p ev_int)) ea_nil)))))) ess_nil))
theorem xg_p_is_stand {f : Addr} {fd : FuncData} (g : GG P w K mg base) (F : Fun K "is_stand" "is_stand" s_p_is_stand f fd) (hmg : mg "is_stand" = some (.ref f)) (hb : Binds K fd ["thing"] []) (h_p_is_name : FnX P w K mg base ks "is_name" 2 1 f_p_is_name) (h_p_is_kind_set : FnX P w K mg base ks "is_kind_set" 10 1 f_p_is_kind_set) (h_p_is_row : FnX P w K mg base ks "is_row" 2 2 f_p_is_row)  : FnG P w K mg base 11 f fd ["thing"] (spG K ks mg 1 f_p_is_stand) :=
  fn_mkG F sc_p_is_stand (fun cdv A outer s H E hG hr tk hp => by
    have hu : (cxOf (L2.CX P w) P w K mg base ["thing"] "is_stand" (defScope s_p_is_stand) f cdv A outer s H E).A.units + 64 < cLine := hr.units
    have hu1 := Nat.lt_of_le_of_lt (Nat.add_le_add_left (by decide : 1 ≤ 64) _) hu
    have hu2 : (cxOf (L2.CX P w) P w K mg base ["thing"] "is_stand" (defScope s_p_is_stand) f cdv A outer s H E).A.units + 66 < cLine := Nat.lt_of_le_of_lt (by omega) hr.un
    exact (ess_cons (es_ret (ev_and (EV.p (ev_call h_p_is_row hG (hr.mono (by omega)) tk (ea_cons (ev_var 0) (ea_cons ev_int ea_nil)))) (ev_and (EV.p (ev_call h_p_is_kind_set hG (hr.mono (by omega)) tk (ea_cons (ev_ix (ep_var 0) (EV.p ev_int)) ea_nil))) (ev_one (ev_call h_p_is_name hG (hr.mono (by omega)) tk (ea_cons (ev_ix (ep_var 0) (EV.p ev_int)) ea_nil)))))) ess_nil))
abbrev s_l_draw : Stmt := topS 36
theorem sc_l_draw : FnScope ["_law_feed", "_law_many", "_law_figure", "_law_spot", "_law_cell", "_law_mixed"] ["_law_feed", "_law_many"] (defScope s_l_draw) := ⟨rfl, rfl, rfl, by decide +kernel, rfl, by decide +kernel, by decide +kernel⟩
def m_l_draw : MS := (seqS (putS ks "count" (m2 addO (mGet ks "count" (mPk 0)) (retM (.int 1))) (mPk 0)) (seqS (ifS (bindM (m2 gtO (mGet ks "left" (mPk 0)) (retM (.int 0))) asB) (seqS (asgV 2 (m2 modI (mA intO (mCons (mGet ks "left" (mPk 0)) (retM []))) (mPk 1))) (seqS (putS ks "left" (m2 divI (mGet ks "left" (mPk 0)) (mPk 1)) (mPk 0)) (seqS (bindS (mVar 2) fun d s => .rt d s) (fun s => .nx s)))) (fun s => .nx s)) (seqS (asgV 3 (mGet ks "next" (mPk 0))) (seqS (putS ks "next" (m2 addO (mPk 3) (retM (.int 1))) (mPk 0)) (seqS (asgV 4 (mIf (bindM (neC (bindM (mPk 0) asFd) (bindM (retM []) fun ds => optM (lstO ds))) asB) (ixC (bindM (mPk 0) asFd) (m2 modI (mA intO (mCons (mPk 3) (retM []))) (lenC (bindM (mPk 0) asFd)))) (retM (.int 424243)))) (seqS (ifS (mIf (bindM (m2 geO (mPk 4) (m2 powI (retM (.int 10)) (retM (.int 18)))) asB) (bindM (m2 ltO (mPk 3) (lenC (bindM (mPk 0) asFd))) asB) (retM false)) (seqS (putS ks "left" (m2 divI (mPk 4) (mPk 1)) (mPk 0)) (seqS (bindS (m2 modI (mA intO (mCons (mPk 4) (retM []))) (mPk 1)) fun d s => .rt d s) (fun s => .nx s))) (fun s => .nx s)) (seqS (asgV 5 (m2 modI (mA intO (mCons (m2 addO (m2 addO (m2 modI (mA intO (mCons (mPk 4) (retM []))) (retM (.int 982451653))) (m2 mulI (retM (.int 6700417)) (mGet ks "count" (mPk 0)))) (retM (.int 29))) (retM []))) (retM (.int 2147483647)))) (seqS (asgV 5 (m2 modI (mA intO (mCons (m2 addO (m2 addO (m2 mulI (mPk 5) (mPk 5)) (m2 mulI (retM (.int 15487469)) (mGet ks "count" (mPk 0)))) (retM (.int 211))) (retM []))) (retM (.int 2147483629)))) (seqS (bindS (m2 modI (mA intO (mCons (m2 divI (m2 modI (mA intO (mCons (m2 addO (m2 mulI (mPk 5) (mPk 5)) (m2 mulI (retM (.int 577)) (mPk 5))) (retM []))) (retM (.int 2147483587))) (retM (.int 32))) (retM []))) (mPk 1)) fun d s => .rt d s) (fun s => .nx s))))))))))
def f_l_draw : Fn := fnM 6 m_l_draw
theorem x_l_draw {f : Addr} {fd : FuncData} (g : GG P w K mg base) (F : Fun K "_law_draw" "_law_draw" s_l_draw f fd) (hmg : mg "_law_draw" = some (.ref f)) (hb : Binds K fd ["_law_feed", "_law_many"] [])   : FnX P w K mg base ks "_law_draw" 2 2 f_l_draw :=
  fn_mkE F sc_l_draw hmg hb rfl (fun cdv A outer s H E hG hr tk hp => by
    have hu : (cxOf (L2.CX P w) P w K mg base ["_law_feed", "_law_many", "_law_figure", "_law_spot", "_law_cell", "_law_mixed"] "_law_draw" (defScope s_l_draw) f cdv A outer s H E).A.units + 64 < cLine := hr.units
    have hu1 := Nat.lt_of_le_of_lt (Nat.add_le_add_left (by decide : 1 ≤ 64) _) hu
    have hu2 : (cxOf (L2.CX P w) P w K mg base ["_law_feed", "_law_many", "_law_figure", "_law_spot", "_law_cell", "_law_mixed"] "_law_draw" (defScope s_l_draw) f cdv A outer s H E).A.units + 66 < cLine := Nat.lt_of_le_of_lt (by omega) hr.un
    exact (ess_cons (es_fput hu1 ks_ok (EV.p (ev_add (EV.p (ev_fget hu1 ks_ok (ep_var 0))) (EV.p ev_int))) (ep_var 0)) (ess_cons (es_if (et_cmp (opr_or op_gt op_gt_str) (o_gtI.or o_gtS) (EV.p (ev_fget hu1 ks_ok (ep_var 0))) (EV.p ev_int) (nomark _)) (ess_cons (es_set 2 sc_l_draw.nd (ev_mod (EV.p (ev_toInt g.int (epa_cons (EV.p (ev_fget hu1 ks_ok (ep_var 0))) epa_nil))) (ep_var 1))) (ess_cons (es_fput hu1 ks_ok (EV.p (ev_div (EV.p (ev_fget hu1 ks_ok (ep_var 0))) (ep_var 1))) (ep_var 0)) (ess_cons (es_ret (ev_var 2)) ess_nil))) ess_nil) (ess_cons (es_set 3 sc_l_draw.nd (ev_fget hu1 ks_ok (ep_var 0))) (ess_cons (es_fput hu1 ks_ok (EV.p (ev_add (ep_var 3) (EV.p ev_int))) (ep_var 0)) (ess_cons (es_set 4 sc_l_draw.nd (ev_if (et_neC hu (ec_get hu1 (ep_var 0)) (EL.p (el_lst ea_nil))) (ev_ixC (ec_get hu1 (ep_var 0)) (EV.p (ev_mod (EV.p (ev_toInt g.int (epa_cons (ep_var 3) epa_nil))) (EV.p (ev_lenC g.len (ec_get hu1 (ep_var 0))))))) ev_int)) (ess_cons (es_if (ew_t (ew_and (et_cmp (opr_or op_ge op_ge_str) (o_geI.or o_geS) (ep_var 4) (EV.p (ev_pow (EV.p ev_int) (EV.p ev_int))) (nomark _)) (ew_and1 (et_cmp (opr_or op_lt op_lt_str) (o_ltI.or o_ltS) (ep_var 3) (EV.p (ev_lenC g.len (ec_get hu1 (ep_var 0)))) (nomark _))))) (ess_cons (es_fput hu1 ks_ok (EV.p (ev_div (ep_var 4) (ep_var 1))) (ep_var 0)) (ess_cons (es_ret (ev_mod (EV.p (ev_toInt g.int (epa_cons (ep_var 4) epa_nil))) (ep_var 1))) ess_nil)) ess_nil) (ess_cons (es_set 5 sc_l_draw.nd (ev_mod (EV.p (ev_toInt g.int (epa_cons (EV.p (ev_add (EV.p (ev_add (EV.p (ev_mod (EV.p (ev_toInt g.int (epa_cons (ep_var 4) epa_nil))) (EV.p ev_int))) (EV.p (ev_mul (EV.p ev_int) (EV.p (ev_fget hu1 ks_ok (ep_var 0))))))) (EV.p ev_int))) epa_nil))) (EV.p ev_int))) (ess_cons (es_set 5 sc_l_draw.nd (ev_mod (EV.p (ev_toInt g.int (epa_cons (EV.p (ev_add (EV.p (ev_add (EV.p (ev_mul (ep_var 5) (ep_var 5))) (EV.p (ev_mul (EV.p ev_int) (EV.p (ev_fget hu1 ks_ok (ep_var 0))))))) (EV.p ev_int))) epa_nil))) (EV.p ev_int))) (ess_cons (es_ret (ev_mod (EV.p (ev_toInt g.int (epa_cons (EV.p (ev_div (EV.p (ev_mod (EV.p (ev_toInt g.int (epa_cons (EV.p (ev_add (EV.p (ev_mul (ep_var 5) (ep_var 5))) (EV.p (ev_mul (EV.p ev_int) (ep_var 5))))) epa_nil))) (EV.p ev_int))) (EV.p ev_int))) epa_nil))) (ep_var 1))) ess_nil))))))))))
abbrev s_l_pick : Stmt := topS 37
theorem sc_l_pick : FnScope ["_law_feed", "_law_things"] ["_law_feed", "_law_things"] (defScope s_l_pick) := ⟨rfl, rfl, rfl, by decide +kernel, rfl, by decide +kernel, by decide +kernel⟩
def m_l_pick : MS := (seqS (bindS (m2 ixO (mPk 1) (callM 2 f_l_draw (mCons (mVar 0) (mCons (mA lenO (mCons (mPk 1) (retM []))) (retM []))))) fun d s => .rt d s) (fun s => .nx s))
def f_l_pick : Fn := fnM 2 m_l_pick
theorem x_l_pick {f : Addr} {fd : FuncData} (g : GG P w K mg base) (F : Fun K "_law_pick" "_law_pick" s_l_pick f fd) (hmg : mg "_law_pick" = some (.ref f)) (hb : Binds K fd ["_law_feed", "_law_things"] []) (h_l_draw : FnX P w K mg base ks "_law_draw" 2 2 f_l_draw)  : FnX P w K mg base ks "_law_pick" 3 2 f_l_pick :=
  fn_mkE F sc_l_pick hmg hb rfl (fun cdv A outer s H E hG hr tk hp => by
    have hu : (cxOf (L2.CX P w) P w K mg base ["_law_feed", "_law_things"] "_law_pick" (defScope s_l_pick) f cdv A outer s H E).A.units + 64 < cLine := hr.units
    have hu1 := Nat.lt_of_le_of_lt (Nat.add_le_add_left (by decide : 1 ≤ 64) _) hu
    have hu2 : (cxOf (L2.CX P w) P w K mg base ["_law_feed", "_law_things"] "_law_pick" (defScope s_l_pick) f cdv A outer s H E).A.units + 66 < cLine := Nat.lt_of_le_of_lt (by omega) hr.un
    exact (ess_cons (es_ret (ev_ix (ep_var 1) (EV.p (ev_call h_l_draw hG (hr.mono (by omega)) tk (ea_cons (ev_var 0) (ea_cons (ev_len g.len (epa_cons (ep_var 1) epa_nil)) ea_nil)))))) ess_nil))
abbrev s_l_title : Stmt := topS 38
theorem sc_l_title : FnScope ["_law_feed", "_law_lap"] ["_law_feed"] (defScope s_l_title) := ⟨rfl, rfl, rfl, by decide +kernel, rfl, by decide +kernel, by decide +kernel⟩
def m_l_title : MS := (seqS (ifS (bindM (m2 (eqO false) (callM 2 f_l_draw (mCons (mVar 0) (mCons (retM (.int 2)) (retM [])))) (retM (.int 0))) asB) (seqS (bindS (callM 2 f_l_pick (mCons (mVar 0) (mCons (bindM (mCons (retM (.str "a")) (mCons (retM (.str "b")) (mCons (retM (.str "f")) (mCons (retM (.str "g")) (mCons (retM (.str "fa")) (mCons (retM (.str "faa")) (mCons (retM (.str "z")) (mCons (retM (.str "zzzzzzzz")) (mCons (retM (.str "abcdefgh")) (mCons (retM (.str "p")) (mCons (retM (.str "call")) (mCons (retM (.str "fun")) (retM []))))))))))))) fun ds => optM (lstO ds)) (retM [])))) fun d s => .rt d s) (fun s => .nx s)) (fun s => .nx s)) (seqS (bindS (mMt joinO (retM (.str "")) (mCons (lcM [1] (tgN 1) (retM true) (callM 2 f_l_pick (mCons (mVar 0) (mCons (retM (.str "abfgz")) (retM [])))) (bindM (m2 addO (retM (.int 1)) (callM 2 f_l_draw (mCons (mVar 0) (mCons (m2 ixO (bindM (mCons (retM (.int 1)) (mCons (retM (.int 2)) (mCons (retM (.int 3)) (mCons (retM (.int 8)) (retM []))))) fun ds => optM (lstO ds)) (callM 2 f_l_draw (mCons (mVar 0) (mCons (retM (.int 4)) (retM []))))) (retM []))))) asR)) (retM []))) fun d s => .rt d s) (fun s => .nx s)))
def f_l_title : Fn := fnM 2 m_l_title
theorem x_l_title {f : Addr} {fd : FuncData} (g : GG P w K mg base) (F : Fun K "_law_title" "_law_title" s_l_title f fd) (hmg : mg "_law_title" = some (.ref f)) (hb : Binds K fd ["_law_feed"] []) (h_l_draw : FnX P w K mg base ks "_law_draw" 2 2 f_l_draw) (h_l_pick : FnX P w K mg base ks "_law_pick" 3 2 f_l_pick)  : FnX P w K mg base ks "_law_title" 4 1 f_l_title :=
  fn_mkE F sc_l_title hmg hb rfl (fun cdv A outer s H E hG hr tk hp => by
    have hu : (cxOf (L2.CX P w) P w K mg base ["_law_feed", "_law_lap"] "_law_title" (defScope s_l_title) f cdv A outer s H E).A.units + 64 < cLine := hr.units
    have hu1 := Nat.lt_of_le_of_lt (Nat.add_le_add_left (by decide : 1 ≤ 64) _) hu
    have hu2 : (cxOf (L2.CX P w) P w K mg base ["_law_feed", "_law_lap"] "_law_title" (defScope s_l_title) f cdv A outer s H E).A.units + 66 < cLine := Nat.lt_of_le_of_lt (by omega) hr.un
    exact (ess_cons (es_if (et_cmp (op_eqD hu) (o_eqD) (EV.p (ev_call h_l_draw hG (hr.mono (by omega)) tk (ea_cons (ev_var 0) (ea_cons ev_int ea_nil)))) (EV.p ev_int) (nomark _)) (ess_cons (es_ret (ev_call h_l_pick hG (hr.mono (by omega)) tk (ea_cons (ev_var 0) (ea_cons (EL.v (el_lst (ea_cons ev_str (ea_cons ev_str (ea_cons ev_str (ea_cons ev_str (ea_cons ev_str (ea_cons ev_str (ea_cons ev_str (ea_cons ev_str (ea_cons ev_str (ea_cons ev_str (ea_cons ev_str (ea_cons ev_str ea_nil)))))))))))))) ea_nil)))) ess_nil) ess_nil) (ess_cons (es_ret (ev_mt PySem.F.slot_str_join PySem.F.type_str_join mt_join o_join (EV.p ev_str) (epa_cons (EL.p (el_lc 1 rfl sc_l_title.nd (ew_range g.range (EV.p (ev_add (EV.p ev_int) (EV.p (ev_call h_l_draw hG (hr.mono (by omega)) tk (ea_cons (ev_var 0) (ea_cons (ev_ix (EL.p (el_lst (ea_cons ev_int (ea_cons ev_int (ea_cons ev_int (ea_cons ev_int ea_nil)))))) (EV.p (ev_call h_l_draw hG (hr.mono (by omega)) tk (ea_cons (ev_var 0) (ea_cons ev_int ea_nil))))) ea_nil))))))) (by show blkC ["_law_feed", "_law_lap"] (defScope s_l_title) _ _ = true; decide +kernel) (fun _ _ _ _ _ => (ev_call h_l_pick hG (hr.mono (by omega)) takes0 (ea_cons (ev_var 0) (ea_cons ev_str ea_nil)))))) epa_nil))) ess_nil)))
abbrev s_l_tree : Stmt := topS 39
theorem sc_l_tree : FnScope ["_law_feed", "_law_size", "_law_parts_now", "_law_left", "_law_lap", "_law_many"] ["_law_feed", "_law_size"] (defScope s_l_tree) := ⟨rfl, rfl, rfl, by decide +kernel, rfl, by decide +kernel, by decide +kernel⟩
def m_l_tree (r : Fn) : MS := (seqS (parLS 2 3 (mCons (bindM (retM []) fun ds => optM (lstO ds)) (mCons (m2 subI (mPk 1) (retM (.int 1))) (retM [])))) (seqS (mFor (tgN 4) (bindM (mPk 1) asR) (seqS (ifS (bindM (m2 gtO (mPk 3) (retM (.int 0))) asB) (seqS (asgV 5 (m2 addO (retM (.int 1)) (callM 2 f_l_draw (mCons (mVar 0) (mCons (mVar 3) (retM [])))))) (seqS (appS 2 (callM 2 r (mCons (mVar 0) (mCons (mVar 5) (retM []))))) (seqS (asgV 3 (m2 subI (mPk 3) (mPk 5))) (fun s => .nx s)))) (fun s => .nx s)) (fun s => .nx s))) (seqS (bindS (bindM (mCons (mA tupleO (mCons (mPk 2) (retM []))) (mCons (callM 2 f_l_pick (mCons (mVar 0) (mCons (bindM (mCons (retM (.str "p")) (mCons (retM (.str "q")) (mCons (retM (.str "p")) (mCons (retM (.str "q")) (mCons (retM (.str "r")) (mCons (retM (.str "s")) (mCons (retM (.str "pp")) (mCons (retM (.str "abcdefgh")) (retM []))))))))) fun ds => optM (lstO ds)) (retM [])))) (retM []))) fun ds => optM (tupO ds)) fun d s => .rt d s) (fun s => .nx s))))
def f_l_tree : Nat → Fn
  | 0 => fun _ _ => .bad
  | n + 1 => fnM 6 (m_l_tree (f_l_tree n))
theorem x_l_tree {f : Addr} {fd : FuncData} (g : GG P w K mg base) (F : Fun K "_law_tree" "_law_tree" s_l_tree f fd) (hmg : mg "_law_tree" = some (.ref f)) (hb : Binds K fd ["_law_feed", "_law_size"] []) (h_l_pick : FnX P w K mg base ks "_law_pick" 3 2 f_l_pick) (h_l_draw : FnX P w K mg base ks "_law_draw" 2 2 f_l_draw)  : ∀ n : Nat, FnX P w K mg base ks "_law_tree" (3 + n) 2 (f_l_tree n)
  | 0 => ⟨f, fd, ["_law_feed", "_law_size"], FnG.no fun vs H Q E h => h.2.elim fun _ h => h.elim fun _ h => h.elim fun _ h => h.elim fun _ h => h.elim fun _ h => h.2.2.2.2.2, hmg, F.kp, hb⟩
  | n + 1 => by
    have hrec := x_l_tree g F hmg hb h_l_pick h_l_draw n
    exact fn_mkE (k := 3 + n) F sc_l_tree hmg hb rfl (fun cdv A outer s H E hG hr tk hp => by
        have hu : (cxOf (L2.CX P w) P w K mg base ["_law_feed", "_law_size", "_law_parts_now", "_law_left", "_law_lap", "_law_many"] "_law_tree" (defScope s_l_tree) f cdv A outer s H E).A.units + 64 < cLine := hr.units
        have hu1 := Nat.lt_of_le_of_lt (Nat.add_le_add_left (by decide : 1 ≤ 64) _) hu
        have hu2 : (cxOf (L2.CX P w) P w K mg base ["_law_feed", "_law_size", "_law_parts_now", "_law_left", "_law_lap", "_law_many"] "_law_tree" (defScope s_l_tree) f cdv A outer s H E).A.units + 66 < cLine := Nat.lt_of_le_of_lt (by omega) hr.un
        exact (ess_cons (es_parL 2 3 rfl sc_l_tree.nd (by decide) (el_lst ea_nil) (ev_sub (ep_var 1) (EV.p ev_int))) (ess_cons (es_for 4 hp rfl sc_l_tree.nd (ew_range g.range (ep_var 1)) (ess_cons (es_if (et_cmp (opr_or op_gt op_gt_str) (o_gtI.or o_gtS) (ep_var 3) (EV.p ev_int) (nomark _)) (ess_cons (es_set 5 sc_l_tree.nd (ev_add (EV.p ev_int) (EV.p (ev_call h_l_draw hG (hr.mono (by omega)) tk (ea_cons (ev_var 0) (ea_cons (ev_var 3) ea_nil)))))) (ess_cons (es_append 2 (ev_call hrec hG (hr.mono (by omega)) tk (ea_cons (ev_var 0) (ea_cons (ev_var 5) ea_nil)))) (ess_cons (es_set 3 sc_l_tree.nd (ev_sub (ep_var 3) (ep_var 5))) ess_nil))) ess_nil) ess_nil)) (ess_cons (es_ret (ev_tup (ea_cons (ev_tuple g.tuple (epa_cons (ep_var 2) epa_nil)) (ea_cons (ev_call h_l_pick hG (hr.mono (by omega)) tk (ea_cons (ev_var 0) (ea_cons (EL.v (el_lst (ea_cons ev_str (ea_cons ev_str (ea_cons ev_str (ea_cons ev_str (ea_cons ev_str (ea_cons ev_str (ea_cons ev_str (ea_cons ev_str ea_nil)))))))))) ea_nil))) ea_nil)))) ess_nil))))
abbrev s_l_spelled : Stmt := topS 40
theorem sc_l_spelled : FnScope ["_law_tree_here", "_law_words", "_law_one"] ["_law_tree_here"] (defScope s_l_spelled) := ⟨rfl, rfl, rfl, by decide +kernel, rfl, by decide +kernel, by decide +kernel⟩
def m_l_spelled (r : Fn) : MS := (seqS (asgL 1 (bindM (retM []) fun ds => optM (lstO ds))) (seqS (mFor (tgN 2) (bindM (m2 ixO (mPk 0) (retM (.int 0))) asT) (seqS (appS 1 (mIf (bindM (m2 (eqO true) (m2 ixO (mPk 2) (retM (.int 0))) (bindM (retM []) fun ds => optM (tupO ds))) asB) (m2 addO (m2 addO (retM (.str "(")) (callM 1 r (mCons (mVar 2) (retM [])))) (retM (.str ")"))) (m2 ixO (mPk 2) (retM (.int 1))))) (fun s => .nx s))) (seqS (bindS (mMt joinO (retM (.str " -> ")) (mCons (m2 addL (mPk 1) (bindM (mCons (m2 ixO (mPk 0) (retM (.int 1))) (retM [])) fun ds => optM (lstO ds))) (retM []))) fun d s => .rt d s) (fun s => .nx s))))
def f_l_spelled : Nat → Fn
  | 0 => fun _ _ => .bad
  | n + 1 => fnM 3 (m_l_spelled (f_l_spelled n))
theorem x_l_spelled {f : Addr} {fd : FuncData} (g : GG P w K mg base) (F : Fun K "_law_spelled" "_law_spelled" s_l_spelled f fd) (hmg : mg "_law_spelled" = some (.ref f)) (hb : Binds K fd ["_law_tree_here"] [])   : ∀ n : Nat, FnX P w K mg base ks "_law_spelled" (1 + n) 1 (f_l_spelled n)
  | 0 => ⟨f, fd, ["_law_tree_here"], FnG.no fun vs H Q E h => h.2.elim fun _ h => h.elim fun _ h => h.elim fun _ h => h.elim fun _ h => h.elim fun _ h => h.2.2.2.2.2, hmg, F.kp, hb⟩
  | n + 1 => by
    have hrec := x_l_spelled g F hmg hb  n
    exact fn_mkE (k := 1 + n) F sc_l_spelled hmg hb rfl (fun cdv A outer s H E hG hr tk hp => by
        have hu : (cxOf (L2.CX P w) P w K mg base ["_law_tree_here", "_law_words", "_law_one"] "_law_spelled" (defScope s_l_spelled) f cdv A outer s H E).A.units + 64 < cLine := hr.units
        have hu1 := Nat.lt_of_le_of_lt (Nat.add_le_add_left (by decide : 1 ≤ 64) _) hu
        have hu2 : (cxOf (L2.CX P w) P w K mg base ["_law_tree_here", "_law_words", "_law_one"] "_law_spelled" (defScope s_l_spelled) f cdv A outer s H E).A.units + 66 < cLine := Nat.lt_of_le_of_lt (by omega) hr.un
        exact (ess_cons (es_setL 1 sc_l_spelled.nd (el_lst ea_nil)) (ess_cons (es_for 2 hp rfl sc_l_spelled.nd (ew_tup (ev_ix (ep_var 0) (EV.p ev_int))) (ess_cons (es_append 1 (ev_if (et_cmp (op_neD hu) (o_neD) (EV.p (ev_ix (ep_var 2) (EV.p ev_int))) (EV.p (ev_tup ea_nil)) (nomark _)) (ev_add (EV.p (ev_add (EV.p ev_str) (EV.p (ev_call hrec hG (hr.mono (by omega)) tk (ea_cons (ev_var 2) ea_nil))))) (EV.p ev_str)) (ev_ix (ep_var 2) (EV.p ev_int)))) ess_nil)) (ess_cons (es_ret (ev_mt PySem.F.slot_str_join PySem.F.type_str_join mt_join o_join (EV.p ev_str) (epa_cons (EL.p (el_cat (ep_var 1) (EL.p (el_lst (ea_cons (ev_ix (ep_var 0) (EV.p ev_int)) ea_nil))))) epa_nil))) ess_nil))))
abbrev s_l_is_title : Stmt := topS 41
theorem sc_l_is_title : FnScope ["_law_item", "_law_sign"] ["_law_item"] (defScope s_l_is_title) := ⟨rfl, rfl, rfl, by decide +kernel, rfl, by decide +kernel, by decide +kernel⟩
def m_l_is_title : MS := (seqS (ifS (mIf (bindM (bindM (m1 (isiO "str") (mPk 0)) fun d => optM (truD d)) fun v => retM (!v)) (retM true) (bindM (bindM (mCh leO leO (retM (.int 1)) (mA lenO (mCons (mPk 0) (retM []))) (retM (.int 8))) asB) fun v => retM (!v))) (seqS (bindS (retM (.bl false)) fun d s => .rt d s) (fun s => .nx s)) (fun s => .nx s)) (seqS (bindS (m2 (eqO false) (lcM [1] (tgN 1) (bindM (m2 (inS true) (mPk 1) (retM (.str "abcdefghijklmnopqrstuvwxyz"))) asB) (mVar 1) (bindM (mPk 0) asC)) (bindM (retM []) fun ds => optM (lstO ds))) fun d s => .rt d s) (fun s => .nx s)))
def f_l_is_title : Fn := fnM 2 m_l_is_title
theorem x_l_is_title {f : Addr} {fd : FuncData} (g : GG P w K mg base) (F : Fun K "_law_is_title" "_law_is_title" s_l_is_title f fd) (hmg : mg "_law_is_title" = some (.ref f)) (hb : Binds K fd ["_law_item"] [])   : FnX P w K mg base ks "_law_is_title" 2 1 f_l_is_title :=
  fn_mkE F sc_l_is_title hmg hb rfl (fun cdv A outer s H E hG hr tk hp => by
    have hu : (cxOf (L2.CX P w) P w K mg base ["_law_item", "_law_sign"] "_law_is_title" (defScope s_l_is_title) f cdv A outer s H E).A.units + 64 < cLine := hr.units
    have hu1 := Nat.lt_of_le_of_lt (Nat.add_le_add_left (by decide : 1 ≤ 64) _) hu
    have hu2 : (cxOf (L2.CX P w) P w K mg base ["_law_item", "_law_sign"] "_law_is_title" (defScope s_l_is_title) f cdv A outer s H E).A.units + 66 < cLine := Nat.lt_of_le_of_lt (by omega) hr.un
    exact (ess_cons (es_if (ew_t (ew_or (et_not (et_truth (EV.p (ev_isi g.isinstance g.str (by decide +kernel) (ep_var 0))))) (ew_or1 (et_not (et_chain (opr_or op_le op_le_str) (opr_or op_le op_le_str) (o_leI.or o_leS) (o_leI.or o_leS) (EV.p ev_int) (EV.p (ev_len g.len (epa_cons (ep_var 0) epa_nil))) (EV.p ev_int)))))) (ess_cons (es_ret ev_bl) ess_nil) ess_nil) (ess_cons (es_ret (ev_eq hu (EL.p (el_lcIf 1 rfl sc_l_is_title.nd (ew_str (ep_var 0)) (by show blkC ["_law_item", "_law_sign"] (defScope s_l_is_title) _ _ = true; decide +kernel) (fun _ _ _ _ _ => (et_cmp (op_notIn_sign) (o_notInS) (ep_var 1) (EV.p ev_str) rfl)) (fun _ _ _ _ _ => (ev_var 1)))) (EL.p (el_lst ea_nil)))) ess_nil)))
abbrev s_l_pieces : Stmt := topS 42
theorem sc_l_pieces : FnScope ["_law_word", "_law_found", "_law_start", "_law_depth", "_law_skip", "_law_at_now"] ["_law_word"] (defScope s_l_pieces) := ⟨rfl, rfl, rfl, by decide +kernel, rfl, by decide +kernel, by decide +kernel⟩
def m_l_pieces : MS := (seqS (par4S 1 2 3 4 (mCons (bindM (retM []) fun ds => optM (lstO ds)) (mCons (retM (.int 0)) (mCons (retM (.int 0)) (mCons (retM (.int 0)) (retM [])))))) (seqS (mFor (tgN 5) (bindM (mA lenO (mCons (mPk 0) (retM []))) asR) (seqS (ifS (bindM (m2 gtO (mPk 4) (retM (.int 0))) asB) (seqS (asgV 4 (m2 subI (mPk 4) (retM (.int 1)))) (fun s => .nx s)) (seqS (ifS (mIf (bindM (m2 (eqO false) (mPk 3) (retM (.int 0))) asB) (bindM (m2 (eqO false) (m3 slO (mPk 0) (bindM (mPk 5) asInt) (bindM (m2 addO (mPk 5) (retM (.int 4))) asInt)) (retM (.str " -> "))) asB) (retM false)) (seqS (appS 1 (m3 slO (mPk 0) (bindM (mPk 2) asInt) (bindM (mPk 5) asInt))) (seqS (parS 2 4 (mCons (m2 addO (mPk 5) (retM (.int 4))) (mCons (retM (.int 3)) (retM [])))) (fun s => .nx s))) (seqS (ifS (bindM (m2 (inS false) (m2 ixO (mPk 0) (mPk 5)) (retM (.str "()"))) asB) (seqS (asgV 3 (m2 addO (mPk 3) (mIf (bindM (m2 (eqO false) (m2 ixO (mPk 0) (mPk 5)) (retM (.str "("))) asB) (retM (.int 1)) (m1 negO (retM (.int 1)))))) (fun s => .nx s)) (fun s => .nx s)) (fun s => .nx s))) (fun s => .nx s))) (fun s => .nx s))) (seqS (bindS (m2 addL (mPk 1) (bindM (mCons (m3 slO (mPk 0) (bindM (mPk 2) asInt) (retM none)) (retM [])) fun ds => optM (lstO ds))) fun d s => .rt d s) (fun s => .nx s))))
def f_l_pieces : Fn := fnM 6 m_l_pieces
theorem x_l_pieces {f : Addr} {fd : FuncData} (g : GG P w K mg base) (F : Fun K "_law_pieces" "_law_pieces" s_l_pieces f fd) (hmg : mg "_law_pieces" = some (.ref f)) (hb : Binds K fd ["_law_word"] [])   : FnX P w K mg base ks "_law_pieces" 2 1 f_l_pieces :=
  fn_mkE F sc_l_pieces hmg hb rfl (fun cdv A outer s H E hG hr tk hp => by
    have hu : (cxOf (L2.CX P w) P w K mg base ["_law_word", "_law_found", "_law_start", "_law_depth", "_law_skip", "_law_at_now"] "_law_pieces" (defScope s_l_pieces) f cdv A outer s H E).A.units + 64 < cLine := hr.units
    have hu1 := Nat.lt_of_le_of_lt (Nat.add_le_add_left (by decide : 1 ≤ 64) _) hu
    have hu2 : (cxOf (L2.CX P w) P w K mg base ["_law_word", "_law_found", "_law_start", "_law_depth", "_law_skip", "_law_at_now"] "_law_pieces" (defScope s_l_pieces) f cdv A outer s H E).A.units + 66 < cLine := Nat.lt_of_le_of_lt (by omega) hr.un
    exact (ess_cons (es_par4 1 2 3 4 rfl sc_l_pieces.nd (el_lst ea_nil) ev_int ev_int ev_int) (ess_cons (es_for 5 hp rfl sc_l_pieces.nd (ew_range g.range (EV.p (ev_len g.len (epa_cons (ep_var 0) epa_nil)))) (ess_cons (es_if (et_cmp (opr_or op_gt op_gt_str) (o_gtI.or o_gtS) (ep_var 4) (EV.p ev_int) (nomark _)) (ess_cons (es_set 4 sc_l_pieces.nd (ev_sub (ep_var 4) (EV.p ev_int))) ess_nil) (ess_cons (es_if (ew_t (ew_and (et_cmp (op_eqD hu) (o_eqD) (ep_var 3) (EV.p ev_int) (nomark _)) (ew_and1 (et_cmp (op_eqD hu) (o_eqD) (EV.p (ev_sl (ep_var 0) (eo_some (ep_var 5)) (eo_some (EV.p (ev_add (ep_var 5) (EV.p ev_int)))))) (EV.p ev_str) (nomark _))))) (ess_cons (es_append 1 (ev_sl (ep_var 0) (eo_some (ep_var 2)) (eo_some (ep_var 5)))) (ess_cons (es_par 2 4 rfl sc_l_pieces.nd (by decide) (ea_cons (ev_add (ep_var 5) (EV.p ev_int)) (ea_cons ev_int ea_nil))) ess_nil)) (ess_cons (es_if (et_cmp (op_in_sign) (o_inS) (EV.p (ev_ix (ep_var 0) (ep_var 5))) (EV.p ev_str) rfl) (ess_cons (es_set 3 sc_l_pieces.nd (ev_add (ep_var 3) (EV.p (ev_if (et_cmp (op_eqD hu) (o_eqD) (EV.p (ev_ix (ep_var 0) (ep_var 5))) (EV.p ev_str) (nomark _)) ev_int (ev_neg (EV.p ev_int)))))) ess_nil) ess_nil) ess_nil)) ess_nil)) ess_nil)) (ess_cons (es_ret (EL.v (el_cat (ep_var 1) (EL.p (el_lst (ea_cons (ev_sl (ep_var 0) (eo_some (ep_var 2)) eo_none) ea_nil)))))) ess_nil))))
abbrev s_l_parsed : Stmt := topS 43
theorem sc_l_parsed : FnScope ["_law_item", "_law_found", "_law_words", "_law_word", "_law_one"] ["_law_item"] (defScope s_l_parsed) := ⟨rfl, rfl, rfl, by decide +kernel, rfl, by decide +kernel, by decide +kernel⟩
def m_l_parsed (r : Fn) : MS := (seqS (ifS (bindM (bindM (m1 (isiO "str") (mPk 0)) fun d => optM (truD d)) fun v => retM (!v)) (seqS (bindS (retM .non) fun d s => .rt d s) (fun s => .nx s)) (fun s => .nx s)) (seqS (parLS 1 2 (mCons (bindM (retM []) fun ds => optM (lstO ds)) (mCons (callM 1 f_l_pieces (mCons (mVar 0) (retM []))) (retM [])))) (seqS (ifS (bindM (bindM (callM 1 f_l_is_title (mCons (m2 ixO (mPk 2) (m1 negO (retM (.int 1)))) (retM []))) fun d => optM (truD d)) fun v => retM (!v)) (seqS (bindS (retM .non) fun d s => .rt d s) (fun s => .nx s)) (fun s => .nx s)) (seqS (mFor (tgN 3) (bindM (m3 slL (mPk 2) (retM none) (bindM (m1 negO (retM (.int 1))) asInt)) asL) (seqS (asgV 4 (bindM (mCons (bindM (retM []) fun ds => optM (tupO ds)) (mCons (mVar 3) (retM []))) fun ds => optM (tupO ds))) (seqS (ifS (bindM (bindM (callM 1 f_l_is_title (mCons (mVar 3) (retM []))) fun d => optM (truD d)) fun v => retM (!v)) (seqS (asgV 4 (mIf (mIf (bindM (m2 (eqO false) (m3 slO (mPk 3) (retM none) (bindM (retM (.int 1)) asInt)) (retM (.str "("))) asB) (bindM (m2 (eqO false) (m3 slO (mPk 3) (bindM (m1 negO (retM (.int 1))) asInt) (retM none)) (retM (.str ")"))) asB) (retM false)) (callM 1 r (mCons (m3 slO (mPk 3) (bindM (retM (.int 1)) asInt) (bindM (m1 negO (retM (.int 1))) asInt)) (retM []))) (retM .non))) (seqS (ifS (mIf (bindM (m2 (isNO false) (mPk 4) (retM .non)) asB) (retM true) (bindM (m2 (nilO false) (m2 ixO (mPk 4) (retM (.int 0))) (bindM (retM []) fun ds => optM (tupO ds))) asB)) (seqS (bindS (retM .non) fun d s => .rt d s) (fun s => .nx s)) (fun s => .nx s)) (fun s => .nx s))) (fun s => .nx s)) (seqS (appS 1 (mVar 4)) (fun s => .nx s))))) (seqS (bindS (bindM (mCons (mA tupleO (mCons (mPk 1) (retM []))) (mCons (m2 ixO (mPk 2) (m1 negO (retM (.int 1)))) (retM []))) fun ds => optM (tupO ds)) fun d s => .rt d s) (fun s => .nx s))))))
def f_l_parsed : Nat → Fn
  | 0 => fun _ _ => .bad
  | n + 1 => fnM 5 (m_l_parsed (f_l_parsed n))
theorem x_l_parsed {f : Addr} {fd : FuncData} (g : GG P w K mg base) (F : Fun K "_law_parsed" "_law_parsed" s_l_parsed f fd) (hmg : mg "_law_parsed" = some (.ref f)) (hb : Binds K fd ["_law_item"] []) (h_l_is_title : FnX P w K mg base ks "_law_is_title" 2 1 f_l_is_title) (h_l_pieces : FnX P w K mg base ks "_law_pieces" 2 1 f_l_pieces)  : ∀ n : Nat, FnX P w K mg base ks "_law_parsed" (2 + n) 1 (f_l_parsed n)
  | 0 => ⟨f, fd, ["_law_item"], FnG.no fun vs H Q E h => h.2.elim fun _ h => h.elim fun _ h => h.elim fun _ h => h.elim fun _ h => h.elim fun _ h => h.2.2.2.2.2, hmg, F.kp, hb⟩
  | n + 1 => by
    have hrec := x_l_parsed g F hmg hb h_l_is_title h_l_pieces n
    exact fn_mkE (k := 2 + n) F sc_l_parsed hmg hb rfl (fun cdv A outer s H E hG hr tk hp => by
        have hu : (cxOf (L2.CX P w) P w K mg base ["_law_item", "_law_found", "_law_words", "_law_word", "_law_one"] "_law_parsed" (defScope s_l_parsed) f cdv A outer s H E).A.units + 64 < cLine := hr.units
        have hu1 := Nat.lt_of_le_of_lt (Nat.add_le_add_left (by decide : 1 ≤ 64) _) hu
        have hu2 : (cxOf (L2.CX P w) P w K mg base ["_law_item", "_law_found", "_law_words", "_law_word", "_law_one"] "_law_parsed" (defScope s_l_parsed) f cdv A outer s H E).A.units + 66 < cLine := Nat.lt_of_le_of_lt (by omega) hr.un
        exact (ess_cons (es_if (et_not (et_truth (EV.p (ev_isi g.isinstance g.str (by decide +kernel) (ep_var 0))))) (ess_cons (es_ret ev_non) ess_nil) ess_nil) (ess_cons (es_parL 1 2 rfl sc_l_parsed.nd (by decide) (el_lst ea_nil) (ev_call h_l_pieces hG (hr.mono (by omega)) tk (ea_cons (ev_var 0) ea_nil))) (ess_cons (es_if (et_not (et_truth (EV.p (ev_call h_l_is_title hG (hr.mono (by omega)) tk (ea_cons (ev_ix (ep_var 2) (EV.p (ev_neg (EV.p ev_int)))) ea_nil))))) (ess_cons (es_ret ev_non) ess_nil) ess_nil) (ess_cons (es_for 3 hp rfl sc_l_parsed.nd (ew_list (EL.v (el_sl (ep_var 2) eo_none (eo_some (EV.p (ev_neg (EV.p ev_int))))))) (ess_cons (es_set 4 sc_l_parsed.nd (ev_tup (ea_cons (ev_tup ea_nil) (ea_cons (ev_var 3) ea_nil)))) (ess_cons (es_if (et_not (et_truth (EV.p (ev_call h_l_is_title hG (hr.mono (by omega)) tk (ea_cons (ev_var 3) ea_nil))))) (ess_cons (es_set 4 sc_l_parsed.nd (ev_if (ew_t (ew_and (et_cmp (op_eqD hu) (o_eqD) (EV.p (ev_sl (ep_var 3) eo_none (eo_some (EV.p ev_int)))) (EV.p ev_str) (nomark _)) (ew_and1 (et_cmp (op_eqD hu) (o_eqD) (EV.p (ev_sl (ep_var 3) (eo_some (EV.p (ev_neg (EV.p ev_int)))) eo_none)) (EV.p ev_str) (nomark _))))) (ev_call hrec hG (hr.mono (by omega)) tk (ea_cons (ev_sl (ep_var 3) (eo_some (EV.p ev_int)) (eo_some (EV.p (ev_neg (EV.p ev_int))))) ea_nil)) ev_non)) (ess_cons (es_if (ew_t (ew_or (et_cmp (op_isN) (o_isN) (ep_var 4) (EV.p ev_non) (nomark _)) (ew_or1 (et_cmp (op_eqNil hu) (o_nil false) (EV.p (ev_ix (ep_var 4) (EV.p ev_int))) (EV.p (ev_tup ea_nil)) (nomark _))))) (ess_cons (es_ret ev_non) ess_nil) ess_nil) ess_nil)) ess_nil) (ess_cons (es_append 1 (ev_var 4)) ess_nil)))) (ess_cons (es_ret (ev_tup (ea_cons (ev_tuple g.tuple (epa_cons (ep_var 1) epa_nil)) (ea_cons (ev_ix (ep_var 2) (EV.p (ev_neg (EV.p ev_int)))) ea_nil)))) ess_nil))))))
abbrev s_l_strange : Stmt := topS 44
theorem sc_l_strange : FnScope ["_law_feed", "_law_some"] ["_law_feed"] (defScope s_l_strange) := ⟨rfl, rfl, rfl, by decide +kernel, rfl, by decide +kernel, by decide +kernel⟩
def m_l_strange : MS := (seqS (asgL 1 (bindM (mCons (retM (.int 0)) (mCons (retM (.int 1)) (mCons (m1 negO (retM (.int 1))) (mCons (retM (.bl true)) (mCons (retM (.bl false)) (mCons (retM .non) (mCons (retM (.str "")) (mCons (retM (.str "a")) (mCons (retM (.str "A")) (mCons (retM (.str "p -> q")) (mCons (retM (.str "p->q")) (mCons (retM (.str "(p)")) (mCons (retM (.str "(p -> q)")) (mCons (retM (.str "p -> (p -> q)")) (mCons (bindM (retM []) fun ds => optM (tupO ds)) (retM [])))))))))))))))) fun ds => optM (lstO ds))) (seqS (extS 1 (bindM (mCons (bindM (retM []) fun ds => optM (lstO ds)) (mCons (bindM (mCons (retM (.str "a")) (retM [])) fun ds => optM (tupO ds)) (mCons (bindM (mCons (retM (.str "a")) (mCons (retM (.str "p")) (retM []))) fun ds => optM (lstO ds)) (mCons (bindM (mCons (retM (.str "a")) (mCons (retM (.str "p")) (retM []))) fun ds => optM (tupO ds)) (mCons (bindM (mCons (retM (.str "a")) (mCons (retM (.str "P")) (retM []))) fun ds => optM (tupO ds)) (mCons (bindM (mCons (retM (.str "a")) (mCons (retM (.str "p")) (mCons (retM (.str "q")) (retM [])))) fun ds => optM (tupO ds)) (mCons (bindM (mCons (bindM (mCons (retM (.str "a")) (mCons (retM (.str "p")) (retM []))) fun ds => optM (tupO ds)) (retM [])) fun ds => optM (tupO ds)) (mCons (bindM (mCons (bindM (mCons (retM (.str "a")) (mCons (retM (.str "p")) (retM []))) fun ds => optM (tupO ds)) (retM [])) fun ds => optM (lstO ds)) (mCons (retM (.str "p ")) (retM [])))))))))) fun ds => optM (lstO ds))) (seqS (extS 1 (bindM (mCons (retM (.str " p")) (mCons (retM (.str "p -> ")) (mCons (retM (.str " -> p")) (mCons (retM (.str "p  -> q")) (mCons (retM (.str "abcdefghi")) (mCons (retM (.str "p -> q -> r")) (mCons (m2 powI (retM (.int 10)) (retM (.int 59))) (mCons (retM (.str "(p -> q) -> r")) (mCons (bindM (mCons (retM (.str "p")) (mCons (retM (.str "p")) (retM []))) fun ds => optM (tupO ds)) (retM [])))))))))) fun ds => optM (lstO ds))) (seqS (extS 1 (bindM (mCons (bindM (mCons (retM (.str "call")) (mCons (retM (.str "a")) (mCons (bindM (mCons (retM (.str "a")) (retM [])) fun ds => optM (tupO ds)) (retM [])))) fun ds => optM (tupO ds)) (mCons (bindM (mCons (retM (.str "call")) (mCons (retM (.str "a")) (mCons (bindM (retM []) fun ds => optM (tupO ds)) (retM [])))) fun ds => optM (tupO ds)) (mCons (bindM (mCons (retM (.str "fun")) (mCons (bindM (mCons (bindM (mCons (retM (.str "x")) (mCons (retM (.str "p")) (retM []))) fun ds => optM (tupO ds)) (retM [])) fun ds => optM (tupO ds)) (mCons (retM (.str "x")) (retM [])))) fun ds => optM (tupO ds)) (mCons (bindM (mCons (retM (.str "fun")) (mCons (bindM (retM []) fun ds => optM (tupO ds)) (mCons (retM (.str "x")) (retM [])))) fun ds => optM (tupO ds)) (mCons (retM (.str "call")) (retM [])))))) fun ds => optM (lstO ds))) (seqS (extS 1 (bindM (mCons (bindM (mCons (retM (.int 0)) (mCons (bindM (retM []) fun ds => optM (tupO ds)) (retM []))) fun ds => optM (tupO ds)) (mCons (bindM (mCons (retM (.str "f")) (mCons (bindM (mCons (bindM (mCons (retM (.int 0)) (mCons (bindM (retM []) fun ds => optM (tupO ds)) (retM []))) fun ds => optM (tupO ds)) (retM [])) fun ds => optM (tupO ds)) (retM []))) fun ds => optM (tupO ds)) (mCons (bindM (mCons (retM (.bl true)) (mCons (bindM (retM []) fun ds => optM (tupO ds)) (retM []))) fun ds => optM (tupO ds)) (mCons (bindM (mCons (m1 negO (retM (.int 1))) (mCons (bindM (retM []) fun ds => optM (tupO ds)) (retM []))) fun ds => optM (tupO ds)) (mCons (bindM (mCons (retM (.str "f")) (mCons (bindM (retM []) fun ds => optM (lstO ds)) (retM []))) fun ds => optM (tupO ds)) (retM [])))))) fun ds => optM (lstO ds))) (seqS (extS 1 (bindM (mCons (bindM (mCons (bindM (mCons (retM (.str "p")) (mCons (retM (.str "q")) (retM []))) fun ds => optM (tupO ds)) (mCons (retM (.str "p")) (retM []))) fun ds => optM (tupO ds)) (mCons (bindM (mCons (bindM (mCons (retM (.str "q")) (mCons (retM (.str "p")) (retM []))) fun ds => optM (tupO ds)) (mCons (retM (.str "p")) (retM []))) fun ds => optM (tupO ds)) (mCons (bindM (mCons (bindM (retM []) fun ds => optM (tupO ds)) (mCons (retM (.str "p")) (retM []))) fun ds => optM (tupO ds)) (mCons (bindM (mCons (bindM (mCons (retM (.str "p")) (retM [])) fun ds => optM (tupO ds)) (mCons (retM (.str "p -> q")) (retM []))) fun ds => optM (tupO ds)) (mCons (retM (.str "p -> q\n")) (mCons (retM (.str "()")) (mCons (retM (.str "a1")) (retM [])))))))) fun ds => optM (lstO ds))) (seqS (appS 1 (retM (.str "((p -> q) -> r)"))) (seqS (bindS (callM 2 f_l_pick (mCons (mVar 0) (mCons (mVar 1) (retM [])))) fun d s => .rt d s) (fun s => .nx s)))))))))
def f_l_strange : Fn := fnM 2 m_l_strange
theorem x_l_strange {f : Addr} {fd : FuncData} (g : GG P w K mg base) (F : Fun K "_law_strange" "_law_strange" s_l_strange f fd) (hmg : mg "_law_strange" = some (.ref f)) (hb : Binds K fd ["_law_feed"] []) (h_l_pick : FnX P w K mg base ks "_law_pick" 3 2 f_l_pick)  : FnX P w K mg base ks "_law_strange" 4 1 f_l_strange :=
  fn_mkE F sc_l_strange hmg hb rfl (fun cdv A outer s H E hG hr tk hp => by
    have hu : (cxOf (L2.CX P w) P w K mg base ["_law_feed", "_law_some"] "_law_strange" (defScope s_l_strange) f cdv A outer s H E).A.units + 64 < cLine := hr.units
    have hu1 := Nat.lt_of_le_of_lt (Nat.add_le_add_left (by decide : 1 ≤ 64) _) hu
    have hu2 : (cxOf (L2.CX P w) P w K mg base ["_law_feed", "_law_some"] "_law_strange" (defScope s_l_strange) f cdv A outer s H E).A.units + 66 < cLine := Nat.lt_of_le_of_lt (by omega) hr.un
    exact (ess_cons (es_setL 1 sc_l_strange.nd (el_lst (ea_cons ev_int (ea_cons ev_int (ea_cons (ev_neg (EV.p ev_int)) (ea_cons ev_bl (ea_cons ev_bl (ea_cons ev_non (ea_cons ev_str (ea_cons ev_str (ea_cons ev_str (ea_cons ev_str (ea_cons ev_str (ea_cons ev_str (ea_cons ev_str (ea_cons ev_str (ea_cons (ev_tup ea_nil) ea_nil))))))))))))))))) (ess_cons (es_extend 1 (EL.p (el_lst (ea_cons (EL.v (el_lst ea_nil)) (ea_cons (ev_tup (ea_cons ev_str ea_nil)) (ea_cons (EL.v (el_lst (ea_cons ev_str (ea_cons ev_str ea_nil)))) (ea_cons (ev_tup (ea_cons ev_str (ea_cons ev_str ea_nil))) (ea_cons (ev_tup (ea_cons ev_str (ea_cons ev_str ea_nil))) (ea_cons (ev_tup (ea_cons ev_str (ea_cons ev_str (ea_cons ev_str ea_nil)))) (ea_cons (ev_tup (ea_cons (ev_tup (ea_cons ev_str (ea_cons ev_str ea_nil))) ea_nil)) (ea_cons (EL.v (el_lst (ea_cons (ev_tup (ea_cons ev_str (ea_cons ev_str ea_nil))) ea_nil))) (ea_cons ev_str ea_nil)))))))))))) (ess_cons (es_extend 1 (EL.p (el_lst (ea_cons ev_str (ea_cons ev_str (ea_cons ev_str (ea_cons ev_str (ea_cons ev_str (ea_cons ev_str (ea_cons (ev_pow (EV.p ev_int) (EV.p ev_int)) (ea_cons ev_str (ea_cons (ev_tup (ea_cons ev_str (ea_cons ev_str ea_nil))) ea_nil)))))))))))) (ess_cons (es_extend 1 (EL.p (el_lst (ea_cons (ev_tup (ea_cons ev_str (ea_cons ev_str (ea_cons (ev_tup (ea_cons ev_str ea_nil)) ea_nil)))) (ea_cons (ev_tup (ea_cons ev_str (ea_cons ev_str (ea_cons (ev_tup ea_nil) ea_nil)))) (ea_cons (ev_tup (ea_cons ev_str (ea_cons (ev_tup (ea_cons (ev_tup (ea_cons ev_str (ea_cons ev_str ea_nil))) ea_nil)) (ea_cons ev_str ea_nil)))) (ea_cons (ev_tup (ea_cons ev_str (ea_cons (ev_tup ea_nil) (ea_cons ev_str ea_nil)))) (ea_cons ev_str ea_nil)))))))) (ess_cons (es_extend 1 (EL.p (el_lst (ea_cons (ev_tup (ea_cons ev_int (ea_cons (ev_tup ea_nil) ea_nil))) (ea_cons (ev_tup (ea_cons ev_str (ea_cons (ev_tup (ea_cons (ev_tup (ea_cons ev_int (ea_cons (ev_tup ea_nil) ea_nil))) ea_nil)) ea_nil))) (ea_cons (ev_tup (ea_cons ev_bl (ea_cons (ev_tup ea_nil) ea_nil))) (ea_cons (ev_tup (ea_cons (ev_neg (EV.p ev_int)) (ea_cons (ev_tup ea_nil) ea_nil))) (ea_cons (ev_tup (ea_cons ev_str (ea_cons (EL.v (el_lst ea_nil)) ea_nil))) ea_nil)))))))) (ess_cons (es_extend 1 (EL.p (el_lst (ea_cons (ev_tup (ea_cons (ev_tup (ea_cons ev_str (ea_cons ev_str ea_nil))) (ea_cons ev_str ea_nil))) (ea_cons (ev_tup (ea_cons (ev_tup (ea_cons ev_str (ea_cons ev_str ea_nil))) (ea_cons ev_str ea_nil))) (ea_cons (ev_tup (ea_cons (ev_tup ea_nil) (ea_cons ev_str ea_nil))) (ea_cons (ev_tup (ea_cons (ev_tup (ea_cons ev_str ea_nil)) (ea_cons ev_str ea_nil))) (ea_cons ev_str (ea_cons ev_str (ea_cons ev_str ea_nil)))))))))) (ess_cons (es_append 1 ev_str) (ess_cons (es_ret (ev_call h_l_pick hG (hr.mono (by omega)) tk (ea_cons (ev_var 0) (ea_cons (ev_var 1) ea_nil)))) ess_nil)))))))))
abbrev s_l_spoilt : Stmt := topS 45
theorem sc_l_spoilt : FnScope ["_law_feed", "_law_item", "_law_spot", "_law_way", "_law_sign"] ["_law_feed", "_law_item"] (defScope s_l_spoilt) := ⟨rfl, rfl, rfl, by decide +kernel, rfl, by decide +kernel, by decide +kernel⟩
def m_l_spoilt (r : Fn) : MS := (seqS (ifS (mIf (bindM (m1 (isiO "tuple") (mPk 1)) fun d => optM (truD d)) (mIf (bindM (m2 (eqO true) (mPk 1) (bindM (retM []) fun ds => optM (tupO ds))) asB) (bindM (m2 gtO (callM 2 f_l_draw (mCons (mVar 0) (mCons (retM (.int 6)) (retM [])))) (retM (.int 0))) asB) (retM false)) (retM false)) (seqS (asgV 2 (callM 2 f_l_draw (mCons (mVar 0) (mCons (mA lenO (mCons (mPk 1) (retM []))) (retM []))))) (seqS (bindS (m2 addO (m2 addO (m3 slO (mPk 1) (retM none) (bindM (mPk 2) asInt)) (bindM (mCons (callM 2 r (mCons (mVar 0) (mCons (m2 ixO (mPk 1) (mPk 2)) (retM [])))) (retM [])) fun ds => optM (tupO ds))) (m3 slO (mPk 1) (bindM (m2 addO (mPk 2) (retM (.int 1))) asInt) (retM none))) fun d s => .rt d s) (fun s => .nx s))) (fun s => .nx s)) (seqS (asgV 3 (callM 2 f_l_draw (mCons (mVar 0) (mCons (retM (.int 8)) (retM []))))) (seqS (ifS (mIf (bindM (m1 (isiO "tuple") (mPk 1)) fun d => optM (truD d)) (bindM (m2 ltO (mPk 3) (retM (.int 6))) asB) (retM false)) (seqS (asgV 2 (callM 2 f_l_draw (mCons (mVar 0) (mCons (m2 addO (mA lenO (mCons (mPk 1) (retM []))) (retM (.int 1))) (retM []))))) (seqS (ifS (bindM (m2 (eqO false) (mPk 3) (retM (.int 0))) asB) (seqS (bindS (mA listO (mCons (mPk 1) (retM []))) fun d s => .rt d s) (fun s => .nx s)) (fun s => .nx s)) (seqS (ifS (bindM (m2 (eqO false) (mPk 3) (retM (.int 1))) asB) (seqS (bindS (m2 addO (m3 slO (mPk 1) (retM none) (bindM (mPk 2) asInt)) (m3 slO (mPk 1) (bindM (m2 addO (mPk 2) (retM (.int 1))) asInt) (retM none))) fun d s => .rt d s) (fun s => .nx s)) (fun s => .nx s)) (seqS (ifS (bindM (m2 (eqO false) (mPk 3) (retM (.int 2))) asB) (seqS (bindS (m2 addO (m2 addO (m3 slO (mPk 1) (retM none) (bindM (mPk 2) asInt)) (m3 slO (mPk 1) (bindM (mPk 2) asInt) (bindM (m2 addO (mPk 2) (retM (.int 1))) asInt))) (m3 slO (mPk 1) (bindM (mPk 2) asInt) (retM none))) fun d s => .rt d s) (fun s => .nx s)) (fun s => .nx s)) (seqS (bindS (mIf (bindM (m2 (eqO false) (mPk 3) (retM (.int 3))) asB) (m2 addO (m3 slO (mPk 1) (bindM (mPk 2) asInt) (retM none)) (m3 slO (mPk 1) (retM none) (bindM (mPk 2) asInt))) (m2 addO (mPk 1) (bindM (mCons (callM 1 f_l_strange (mCons (mVar 0) (retM []))) (retM [])) fun ds => optM (tupO ds)))) fun d s => .rt d s) (fun s => .nx s)))))) (fun s => .nx s)) (seqS (ifS (mIf (bindM (m1 (isiO "str") (mPk 1)) fun d => optM (truD d)) (bindM (m2 ltO (mPk 3) (retM (.int 6))) asB) (retM false)) (seqS (asgV 2 (callM 2 f_l_draw (mCons (mVar 0) (mCons (m2 addO (mA lenO (mCons (mPk 1) (retM []))) (retM (.int 1))) (retM []))))) (seqS (asgV 4 (callM 2 f_l_pick (mCons (mVar 0) (mCons (bindM (mCons (retM (.str "a")) (mCons (retM (.str "z")) (mCons (retM (.str "(")) (mCons (retM (.str ")")) (mCons (retM (.str " ")) (mCons (retM (.str "-")) (mCons (retM (.str ">")) (mCons (retM (.str " -> ")) (mCons (retM (.str "")) (mCons (retM (.str "A")) (mCons (retM (.str ":")) (mCons (retM (.str "\n")) (mCons (retM (.str "p -> ")) (retM [])))))))))))))) fun ds => optM (lstO ds)) (retM []))))) (seqS (bindS (m2 addO (m2 addO (m3 slO (mPk 1) (retM none) (bindM (mPk 2) asInt)) (mPk 4)) (m3 slO (mPk 1) (bindM (m2 addO (mPk 2) (m2 divI (mPk 3) (retM (.int 3)))) asInt) (retM none))) fun d s => .rt d s) (fun s => .nx s)))) (fun s => .nx s)) (seqS (bindS (callM 1 f_l_strange (mCons (mVar 0) (retM []))) fun d s => .rt d s) (fun s => .nx s))))))
def f_l_spoilt : Nat → Fn
  | 0 => fun _ _ => .bad
  | n + 1 => fnM 5 (m_l_spoilt (f_l_spoilt n))
theorem x_l_spoilt {f : Addr} {fd : FuncData} (g : GG P w K mg base) (F : Fun K "_law_spoilt" "_law_spoilt" s_l_spoilt f fd) (hmg : mg "_law_spoilt" = some (.ref f)) (hb : Binds K fd ["_law_feed", "_law_item"] []) (h_l_strange : FnX P w K mg base ks "_law_strange" 4 1 f_l_strange) (h_l_pick : FnX P w K mg base ks "_law_pick" 3 2 f_l_pick) (h_l_draw : FnX P w K mg base ks "_law_draw" 2 2 f_l_draw)  : ∀ n : Nat, FnX P w K mg base ks "_law_spoilt" (4 + n) 2 (f_l_spoilt n)
  | 0 => ⟨f, fd, ["_law_feed", "_law_item"], FnG.no fun vs H Q E h => h.2.elim fun _ h => h.elim fun _ h => h.elim fun _ h => h.elim fun _ h => h.elim fun _ h => h.2.2.2.2.2, hmg, F.kp, hb⟩
  | n + 1 => by
    have hrec := x_l_spoilt g F hmg hb h_l_strange h_l_pick h_l_draw n
    exact fn_mkE (k := 4 + n) F sc_l_spoilt hmg hb rfl (fun cdv A outer s H E hG hr tk hp => by
        have hu : (cxOf (L2.CX P w) P w K mg base ["_law_feed", "_law_item", "_law_spot", "_law_way", "_law_sign"] "_law_spoilt" (defScope s_l_spoilt) f cdv A outer s H E).A.units + 64 < cLine := hr.units
        have hu1 := Nat.lt_of_le_of_lt (Nat.add_le_add_left (by decide : 1 ≤ 64) _) hu
        have hu2 : (cxOf (L2.CX P w) P w K mg base ["_law_feed", "_law_item", "_law_spot", "_law_way", "_law_sign"] "_law_spoilt" (defScope s_l_spoilt) f cdv A outer s H E).A.units + 66 < cLine := Nat.lt_of_le_of_lt (by omega) hr.un
        exact (ess_cons (es_if (ew_t (ew_and (et_truth (EV.p (ev_isi g.isinstance g.tuple (by decide +kernel) (ep_var 1)))) (ew_and (et_cmp (op_neD hu) (o_neD) (ep_var 1) (EV.p (ev_tup ea_nil)) (nomark _)) (ew_and1 (et_cmp (opr_or op_gt op_gt_str) (o_gtI.or o_gtS) (EV.p (ev_call h_l_draw hG (hr.mono (by omega)) tk (ea_cons (ev_var 0) (ea_cons ev_int ea_nil)))) (EV.p ev_int) (nomark _)))))) (ess_cons (es_set 2 sc_l_spoilt.nd (ev_call h_l_draw hG (hr.mono (by omega)) tk (ea_cons (ev_var 0) (ea_cons (ev_len g.len (epa_cons (ep_var 1) epa_nil)) ea_nil)))) (ess_cons (es_ret (ev_add (EV.p (ev_add (EV.p (ev_sl (ep_var 1) eo_none (eo_some (ep_var 2)))) (EV.p (ev_tup (ea_cons (ev_call hrec hG (hr.mono (by omega)) tk (ea_cons (ev_var 0) (ea_cons (ev_ix (ep_var 1) (ep_var 2)) ea_nil))) ea_nil))))) (EV.p (ev_sl (ep_var 1) (eo_some (EV.p (ev_add (ep_var 2) (EV.p ev_int)))) eo_none)))) ess_nil)) ess_nil) (ess_cons (es_set 3 sc_l_spoilt.nd (ev_call h_l_draw hG (hr.mono (by omega)) tk (ea_cons (ev_var 0) (ea_cons ev_int ea_nil)))) (ess_cons (es_if (ew_t (ew_and (et_truth (EV.p (ev_isi g.isinstance g.tuple (by decide +kernel) (ep_var 1)))) (ew_and1 (et_cmp (opr_or op_lt op_lt_str) (o_ltI.or o_ltS) (ep_var 3) (EV.p ev_int) (nomark _))))) (ess_cons (es_set 2 sc_l_spoilt.nd (ev_call h_l_draw hG (hr.mono (by omega)) tk (ea_cons (ev_var 0) (ea_cons (ev_add (EV.p (ev_len g.len (epa_cons (ep_var 1) epa_nil))) (EV.p ev_int)) ea_nil)))) (ess_cons (es_if (et_cmp (op_eqD hu) (o_eqD) (ep_var 3) (EV.p ev_int) (nomark _)) (ess_cons (es_ret (EL.v (el_list g.list (epa_cons (ep_var 1) epa_nil)))) ess_nil) ess_nil) (ess_cons (es_if (et_cmp (op_eqD hu) (o_eqD) (ep_var 3) (EV.p ev_int) (nomark _)) (ess_cons (es_ret (ev_add (EV.p (ev_sl (ep_var 1) eo_none (eo_some (ep_var 2)))) (EV.p (ev_sl (ep_var 1) (eo_some (EV.p (ev_add (ep_var 2) (EV.p ev_int)))) eo_none)))) ess_nil) ess_nil) (ess_cons (es_if (et_cmp (op_eqD hu) (o_eqD) (ep_var 3) (EV.p ev_int) (nomark _)) (ess_cons (es_ret (ev_add (EV.p (ev_add (EV.p (ev_sl (ep_var 1) eo_none (eo_some (ep_var 2)))) (EV.p (ev_sl (ep_var 1) (eo_some (ep_var 2)) (eo_some (EV.p (ev_add (ep_var 2) (EV.p ev_int)))))))) (EV.p (ev_sl (ep_var 1) (eo_some (ep_var 2)) eo_none)))) ess_nil) ess_nil) (ess_cons (es_ret (ev_if (et_cmp (op_eqD hu) (o_eqD) (ep_var 3) (EV.p ev_int) (nomark _)) (ev_add (EV.p (ev_sl (ep_var 1) (eo_some (ep_var 2)) eo_none)) (EV.p (ev_sl (ep_var 1) eo_none (eo_some (ep_var 2))))) (ev_add (ep_var 1) (EV.p (ev_tup (ea_cons (ev_call h_l_strange hG (hr.mono (by omega)) tk (ea_cons (ev_var 0) ea_nil)) ea_nil)))))) ess_nil))))) ess_nil) (ess_cons (es_if (ew_t (ew_and (et_truth (EV.p (ev_isi g.isinstance g.str (by decide +kernel) (ep_var 1)))) (ew_and1 (et_cmp (opr_or op_lt op_lt_str) (o_ltI.or o_ltS) (ep_var 3) (EV.p ev_int) (nomark _))))) (ess_cons (es_set 2 sc_l_spoilt.nd (ev_call h_l_draw hG (hr.mono (by omega)) tk (ea_cons (ev_var 0) (ea_cons (ev_add (EV.p (ev_len g.len (epa_cons (ep_var 1) epa_nil))) (EV.p ev_int)) ea_nil)))) (ess_cons (es_set 4 sc_l_spoilt.nd (ev_call h_l_pick hG (hr.mono (by omega)) tk (ea_cons (ev_var 0) (ea_cons (EL.v (el_lst (ea_cons ev_str (ea_cons ev_str (ea_cons ev_str (ea_cons ev_str (ea_cons ev_str (ea_cons ev_str (ea_cons ev_str (ea_cons ev_str (ea_cons ev_str (ea_cons ev_str (ea_cons ev_str (ea_cons ev_str (ea_cons ev_str ea_nil))))))))))))))) ea_nil)))) (ess_cons (es_ret (ev_add (EV.p (ev_add (EV.p (ev_sl (ep_var 1) eo_none (eo_some (ep_var 2)))) (ep_var 4))) (EV.p (ev_sl (ep_var 1) (eo_some (EV.p (ev_add (ep_var 2) (EV.p (ev_div (ep_var 3) (EV.p ev_int)))))) eo_none)))) ess_nil))) ess_nil) (ess_cons (es_ret (ev_call h_l_strange hG (hr.mono (by omega)) tk (ea_cons (ev_var 0) ea_nil))) ess_nil))))))
abbrev s_l_maker : Stmt := topS 46
theorem sc_l_maker : FnScope ["_law_feed", "_law_size", "_law_found", "_law_left", "_law_lap", "_law_many"] ["_law_feed", "_law_size"] (defScope s_l_maker) := ⟨rfl, rfl, rfl, by decide +kernel, rfl, by decide +kernel, by decide +kernel⟩
def m_l_maker (r : Fn) : MS := (seqS (parLS 2 3 (mCons (bindM (retM []) fun ds => optM (lstO ds)) (mCons (m2 subI (mPk 1) (retM (.int 1))) (retM [])))) (seqS (mFor (tgN 4) (bindM (mPk 1) asR) (seqS (ifS (bindM (m2 gtO (mPk 3) (retM (.int 0))) asB) (seqS (asgV 5 (m2 addO (retM (.int 1)) (callM 2 f_l_draw (mCons (mVar 0) (mCons (mVar 3) (retM [])))))) (seqS (appS 2 (callM 2 r (mCons (mVar 0) (mCons (mVar 5) (retM []))))) (seqS (asgV 3 (m2 subI (mPk 3) (mPk 5))) (fun s => .nx s)))) (fun s => .nx s)) (fun s => .nx s))) (seqS (bindS (bindM (mCons (mIf (bindM (m2 (eqO false) (callM 2 f_l_draw (mCons (mVar 0) (mCons (retM (.int 2)) (retM [])))) (retM (.int 0))) asB) (callM 2 f_l_draw (mCons (mVar 0) (mCons (retM (.int 5)) (retM [])))) (callM 1 f_l_title (mCons (mVar 0) (retM [])))) (mCons (mA tupleO (mCons (mPk 2) (retM []))) (retM []))) fun ds => optM (tupO ds)) fun d s => .rt d s) (fun s => .nx s))))
def f_l_maker : Nat → Fn
  | 0 => fun _ _ => .bad
  | n + 1 => fnM 6 (m_l_maker (f_l_maker n))
theorem x_l_maker {f : Addr} {fd : FuncData} (g : GG P w K mg base) (F : Fun K "_law_maker" "_law_maker" s_l_maker f fd) (hmg : mg "_law_maker" = some (.ref f)) (hb : Binds K fd ["_law_feed", "_law_size"] []) (h_l_draw : FnX P w K mg base ks "_law_draw" 2 2 f_l_draw) (h_l_title : FnX P w K mg base ks "_law_title" 4 1 f_l_title)  : ∀ n : Nat, FnX P w K mg base ks "_law_maker" (4 + n) 2 (f_l_maker n)
  | 0 => ⟨f, fd, ["_law_feed", "_law_size"], FnG.no fun vs H Q E h => h.2.elim fun _ h => h.elim fun _ h => h.elim fun _ h => h.elim fun _ h => h.elim fun _ h => h.2.2.2.2.2, hmg, F.kp, hb⟩
  | n + 1 => by
    have hrec := x_l_maker g F hmg hb h_l_draw h_l_title n
    exact fn_mkE (k := 4 + n) F sc_l_maker hmg hb rfl (fun cdv A outer s H E hG hr tk hp => by
        have hu : (cxOf (L2.CX P w) P w K mg base ["_law_feed", "_law_size", "_law_found", "_law_left", "_law_lap", "_law_many"] "_law_maker" (defScope s_l_maker) f cdv A outer s H E).A.units + 64 < cLine := hr.units
        have hu1 := Nat.lt_of_le_of_lt (Nat.add_le_add_left (by decide : 1 ≤ 64) _) hu
        have hu2 : (cxOf (L2.CX P w) P w K mg base ["_law_feed", "_law_size", "_law_found", "_law_left", "_law_lap", "_law_many"] "_law_maker" (defScope s_l_maker) f cdv A outer s H E).A.units + 66 < cLine := Nat.lt_of_le_of_lt (by omega) hr.un
        exact (ess_cons (es_parL 2 3 rfl sc_l_maker.nd (by decide) (el_lst ea_nil) (ev_sub (ep_var 1) (EV.p ev_int))) (ess_cons (es_for 4 hp rfl sc_l_maker.nd (ew_range g.range (ep_var 1)) (ess_cons (es_if (et_cmp (opr_or op_gt op_gt_str) (o_gtI.or o_gtS) (ep_var 3) (EV.p ev_int) (nomark _)) (ess_cons (es_set 5 sc_l_maker.nd (ev_add (EV.p ev_int) (EV.p (ev_call h_l_draw hG (hr.mono (by omega)) tk (ea_cons (ev_var 0) (ea_cons (ev_var 3) ea_nil)))))) (ess_cons (es_append 2 (ev_call hrec hG (hr.mono (by omega)) tk (ea_cons (ev_var 0) (ea_cons (ev_var 5) ea_nil)))) (ess_cons (es_set 3 sc_l_maker.nd (ev_sub (ep_var 3) (ep_var 5))) ess_nil))) ess_nil) ess_nil)) (ess_cons (es_ret (ev_tup (ea_cons (ev_if (et_cmp (op_eqD hu) (o_eqD) (EV.p (ev_call h_l_draw hG (hr.mono (by omega)) tk (ea_cons (ev_var 0) (ea_cons ev_int ea_nil)))) (EV.p ev_int) (nomark _)) (ev_call h_l_draw hG (hr.mono (by omega)) tk (ea_cons (ev_var 0) (ea_cons ev_int ea_nil))) (ev_call h_l_title hG (hr.mono (by omega)) tk (ea_cons (ev_var 0) ea_nil))) (ea_cons (ev_tuple g.tuple (epa_cons (ep_var 2) epa_nil)) ea_nil)))) ess_nil))))
abbrev s_l_term : Stmt := topS 47
theorem sc_l_term : FnScope ["_law_feed", "_law_size", "_law_way", "_law_some", "_law_lap", "_law_signs"] ["_law_feed", "_law_size"] (defScope s_l_term) := ⟨rfl, rfl, rfl, by decide +kernel, rfl, by decide +kernel, by decide +kernel⟩
def m_l_term (r : Fn) : MS := (seqS (asgV 2 (callM 2 f_l_draw (mCons (mVar 0) (mCons (retM (.int 3)) (retM []))))) (seqS (ifS (mIf (bindM (m2 ltO (mPk 1) (retM (.int 2))) asB) (retM true) (bindM (m2 (eqO false) (mPk 2) (retM (.int 0))) asB)) (seqS (bindS (callM 1 f_l_title (mCons (mVar 0) (retM []))) fun d s => .rt d s) (fun s => .nx s)) (fun s => .nx s)) (seqS (ifS (bindM (m2 (eqO false) (mPk 2) (retM (.int 1))) asB) (seqS (asgL 3 (lcM [4] (tgN 4) (retM true) (callM 2 r (mCons (mVar 0) (mCons (m2 divI (mPk 1) (retM (.int 2))) (retM [])))) (bindM (m2 addO (retM (.int 1)) (callM 2 f_l_draw (mCons (mVar 0) (mCons (retM (.int 2)) (retM []))))) asR))) (seqS (bindS (bindM (mCons (retM (.str "call")) (mCons (callM 2 r (mCons (mVar 0) (mCons (m2 divI (mPk 1) (retM (.int 2))) (retM [])))) (mCons (mA tupleO (mCons (mPk 3) (retM []))) (retM [])))) fun ds => optM (tupO ds)) fun d s => .rt d s) (fun s => .nx s))) (fun s => .nx s)) (seqS (asgL 5 (m3 slL (bindM (mCons (bindM (mCons (retM (.str "x")) (mCons (retM (.str "p")) (retM []))) fun ds => optM (tupO ds)) (mCons (bindM (mCons (retM (.str "y")) (mCons (callM 1 (f_l_spelled 10) (mCons (callM 2 (f_l_tree 10) (mCons (mVar 0) (mCons (retM (.int 2)) (retM [])))) (retM []))) (retM []))) fun ds => optM (tupO ds)) (retM []))) fun ds => optM (lstO ds)) (retM none) (bindM (m2 addO (retM (.int 1)) (callM 2 f_l_draw (mCons (mVar 0) (mCons (retM (.int 2)) (retM []))))) asInt))) (seqS (bindS (bindM (mCons (retM (.str "fun")) (mCons (mA tupleO (mCons (mPk 5) (retM []))) (mCons (callM 2 r (mCons (mVar 0) (mCons (m2 subI (mPk 1) (retM (.int 1))) (retM [])))) (retM [])))) fun ds => optM (tupO ds)) fun d s => .rt d s) (fun s => .nx s))))))
def f_l_term : Nat → Fn
  | 0 => fun _ _ => .bad
  | n + 1 => fnM 6 (m_l_term (f_l_term n))
theorem x_l_term {f : Addr} {fd : FuncData} (g : GG P w K mg base) (F : Fun K "_law_term" "_law_term" s_l_term f fd) (hmg : mg "_law_term" = some (.ref f)) (hb : Binds K fd ["_law_feed", "_law_size"] []) (h_l_spelled : FnX P w K mg base ks "_law_spelled" 11 1 (f_l_spelled 10)) (h_l_tree : FnX P w K mg base ks "_law_tree" 13 2 (f_l_tree 10)) (h_l_draw : FnX P w K mg base ks "_law_draw" 2 2 f_l_draw) (h_l_title : FnX P w K mg base ks "_law_title" 4 1 f_l_title)  : ∀ n : Nat, FnX P w K mg base ks "_law_term" (13 + n) 2 (f_l_term n)
  | 0 => ⟨f, fd, ["_law_feed", "_law_size"], FnG.no fun vs H Q E h => h.2.elim fun _ h => h.elim fun _ h => h.elim fun _ h => h.elim fun _ h => h.elim fun _ h => h.2.2.2.2.2, hmg, F.kp, hb⟩
  | n + 1 => by
    have hrec := x_l_term g F hmg hb h_l_spelled h_l_tree h_l_draw h_l_title n
    exact fn_mkE (k := 13 + n) F sc_l_term hmg hb rfl (fun cdv A outer s H E hG hr tk hp => by
        have hu : (cxOf (L2.CX P w) P w K mg base ["_law_feed", "_law_size", "_law_way", "_law_some", "_law_lap", "_law_signs"] "_law_term" (defScope s_l_term) f cdv A outer s H E).A.units + 64 < cLine := hr.units
        have hu1 := Nat.lt_of_le_of_lt (Nat.add_le_add_left (by decide : 1 ≤ 64) _) hu
        have hu2 : (cxOf (L2.CX P w) P w K mg base ["_law_feed", "_law_size", "_law_way", "_law_some", "_law_lap", "_law_signs"] "_law_term" (defScope s_l_term) f cdv A outer s H E).A.units + 66 < cLine := Nat.lt_of_le_of_lt (by omega) hr.un
        exact (ess_cons (es_set 2 sc_l_term.nd (ev_call h_l_draw hG (hr.mono (by omega)) tk (ea_cons (ev_var 0) (ea_cons ev_int ea_nil)))) (ess_cons (es_if (ew_t (ew_or (et_cmp (opr_or op_lt op_lt_str) (o_ltI.or o_ltS) (ep_var 1) (EV.p ev_int) (nomark _)) (ew_or1 (et_cmp (op_eqD hu) (o_eqD) (ep_var 2) (EV.p ev_int) (nomark _))))) (ess_cons (es_ret (ev_call h_l_title hG (hr.mono (by omega)) tk (ea_cons (ev_var 0) ea_nil))) ess_nil) ess_nil) (ess_cons (es_if (et_cmp (op_eqD hu) (o_eqD) (ep_var 2) (EV.p ev_int) (nomark _)) (ess_cons (es_setLc 3 4 rfl sc_l_term.nd (ew_range g.range (EV.p (ev_add (EV.p ev_int) (EV.p (ev_call h_l_draw hG (hr.mono (by omega)) tk (ea_cons (ev_var 0) (ea_cons ev_int ea_nil))))))) (by show blkC ["_law_feed", "_law_size", "_law_way", "_law_some", "_law_lap", "_law_signs"] (defScope s_l_term) _ _ = true; decide +kernel) (fun _ _ _ _ _ => (ev_call hrec hG (hr.mono (by omega)) takes0 (ea_cons (ev_var 0) (ea_cons (ev_div (ep_var 1) (EV.p ev_int)) ea_nil))))) (ess_cons (es_ret (ev_tup (ea_cons ev_str (ea_cons (ev_call hrec hG (hr.mono (by omega)) tk (ea_cons (ev_var 0) (ea_cons (ev_div (ep_var 1) (EV.p ev_int)) ea_nil))) (ea_cons (ev_tuple g.tuple (epa_cons (ep_var 3) epa_nil)) ea_nil))))) ess_nil)) ess_nil) (ess_cons (es_setL 5 sc_l_term.nd (el_sl (EL.p (el_lst (ea_cons (ev_tup (ea_cons ev_str (ea_cons ev_str ea_nil))) (ea_cons (ev_tup (ea_cons ev_str (ea_cons (ev_call h_l_spelled hG (hr.mono (by omega)) tk (ea_cons (ev_call h_l_tree hG (hr.mono (by omega)) tk (ea_cons (ev_var 0) (ea_cons ev_int ea_nil))) ea_nil)) ea_nil))) ea_nil)))) eo_none (eo_some (EV.p (ev_add (EV.p ev_int) (EV.p (ev_call h_l_draw hG (hr.mono (by omega)) tk (ea_cons (ev_var 0) (ea_cons ev_int ea_nil))))))))) (ess_cons (es_ret (ev_tup (ea_cons ev_str (ea_cons (ev_tuple g.tuple (epa_cons (ep_var 5) epa_nil)) (ea_cons (ev_call hrec hG (hr.mono (by omega)) tk (ea_cons (ev_var 0) (ea_cons (ev_sub (ep_var 1) (EV.p ev_int)) ea_nil))) ea_nil))))) ess_nil))))))
abbrev s_l_is_number : Stmt := topS 48
theorem sc_l_is_number : FnScope ["_law_item"] ["_law_item"] (defScope s_l_is_number) := ⟨rfl, rfl, rfl, by decide +kernel, rfl, by decide +kernel, by decide +kernel⟩
def m_l_is_number : MS := (seqS (bindS (mIf (bindM (m1 (isiO "int") (mPk 0)) asB) (mIf (bindM (m1 notO (m1 (isiO "bool") (mPk 0))) asB) (m2 geO (mPk 0) (retM (.int 0))) (retM (.bl false))) (retM (.bl false))) fun d s => .rt d s) (fun s => .nx s))
def f_l_is_number : Fn := fnM 1 m_l_is_number
theorem x_l_is_number {f : Addr} {fd : FuncData} (g : GG P w K mg base) (F : Fun K "_law_is_number" "_law_is_number" s_l_is_number f fd) (hmg : mg "_law_is_number" = some (.ref f)) (hb : Binds K fd ["_law_item"] [])   : FnX P w K mg base ks "_law_is_number" 2 1 f_l_is_number :=
  fn_mkE F sc_l_is_number hmg hb rfl (fun cdv A outer s H E hG hr tk hp => by
    have hu : (cxOf (L2.CX P w) P w K mg base ["_law_item"] "_law_is_number" (defScope s_l_is_number) f cdv A outer s H E).A.units + 64 < cLine := hr.units
    have hu1 := Nat.lt_of_le_of_lt (Nat.add_le_add_left (by decide : 1 ≤ 64) _) hu
    have hu2 : (cxOf (L2.CX P w) P w K mg base ["_law_item"] "_law_is_number" (defScope s_l_is_number) f cdv A outer s H E).A.units + 66 < cLine := Nat.lt_of_le_of_lt (by omega) hr.un
    exact (ess_cons (es_ret (ev_and (EV.p (ev_isi g.isinstance g.int (by decide +kernel) (ep_var 0))) (ev_and (EV.p (ev_not (EV.p (ev_isi g.isinstance g.bool (by decide +kernel) (ep_var 0))))) (ev_one (ev_ge (ep_var 0) (EV.p ev_int)))))) ess_nil))
abbrev s_l_is_maker : Stmt := topS 49
theorem sc_l_is_maker : FnScope ["_law_item", "_law_one"] ["_law_item"] (defScope s_l_is_maker) := ⟨rfl, rfl, rfl, by decide +kernel, rfl, by decide +kernel, by decide +kernel⟩
def m_l_is_maker (r : Fn) : MS := (seqS (ifS (mIf (bindM (bindM (m1 (isiO "tuple") (mPk 0)) fun d => optM (truD d)) fun v => retM (!v)) (retM true) (mIf (bindM (m2 (eqO true) (mA lenO (mCons (mPk 0) (retM []))) (retM (.int 2))) asB) (retM true) (bindM (bindM (m1 (isiO "tuple") (m2 ixO (mPk 0) (retM (.int 1)))) fun d => optM (truD d)) fun v => retM (!v)))) (seqS (bindS (retM (.bl false)) fun d s => .rt d s) (fun s => .nx s)) (fun s => .nx s)) (seqS (ifS (mIf (bindM (bindM (callM 1 f_l_is_title (mCons (m2 ixO (mPk 0) (retM (.int 0))) (retM []))) fun d => optM (truD d)) fun v => retM (!v)) (bindM (bindM (callM 1 f_l_is_number (mCons (m2 ixO (mPk 0) (retM (.int 0))) (retM []))) fun d => optM (truD d)) fun v => retM (!v)) (retM false)) (seqS (bindS (retM (.bl false)) fun d s => .rt d s) (fun s => .nx s)) (fun s => .nx s)) (seqS (bindS (m2 (eqO false) (lcM [1] (tgN 1) (bindM (bindM (callM 1 r (mCons (mVar 1) (retM []))) fun d => optM (truD d)) fun v => retM (!v)) (mVar 1) (bindM (m2 ixO (mPk 0) (retM (.int 1))) asT)) (bindM (retM []) fun ds => optM (lstO ds))) fun d s => .rt d s) (fun s => .nx s))))
def f_l_is_maker : Nat → Fn
  | 0 => fun _ _ => .bad
  | n + 1 => fnM 2 (m_l_is_maker (f_l_is_maker n))
theorem x_l_is_maker {f : Addr} {fd : FuncData} (g : GG P w K mg base) (F : Fun K "_law_is_maker" "_law_is_maker" s_l_is_maker f fd) (hmg : mg "_law_is_maker" = some (.ref f)) (hb : Binds K fd ["_law_item"] []) (h_l_is_number : FnX P w K mg base ks "_law_is_number" 2 1 f_l_is_number) (h_l_is_title : FnX P w K mg base ks "_law_is_title" 2 1 f_l_is_title)  : ∀ n : Nat, FnX P w K mg base ks "_law_is_maker" (2 + n) 1 (f_l_is_maker n)
  | 0 => ⟨f, fd, ["_law_item"], FnG.no fun vs H Q E h => h.2.elim fun _ h => h.elim fun _ h => h.elim fun _ h => h.elim fun _ h => h.elim fun _ h => h.2.2.2.2.2, hmg, F.kp, hb⟩
  | n + 1 => by
    have hrec := x_l_is_maker g F hmg hb h_l_is_number h_l_is_title n
    exact fn_mkE (k := 2 + n) F sc_l_is_maker hmg hb rfl (fun cdv A outer s H E hG hr tk hp => by
        have hu : (cxOf (L2.CX P w) P w K mg base ["_law_item", "_law_one"] "_law_is_maker" (defScope s_l_is_maker) f cdv A outer s H E).A.units + 64 < cLine := hr.units
        have hu1 := Nat.lt_of_le_of_lt (Nat.add_le_add_left (by decide : 1 ≤ 64) _) hu
        have hu2 : (cxOf (L2.CX P w) P w K mg base ["_law_item", "_law_one"] "_law_is_maker" (defScope s_l_is_maker) f cdv A outer s H E).A.units + 66 < cLine := Nat.lt_of_le_of_lt (by omega) hr.un
        exact (ess_cons (es_if (ew_t (ew_or (et_not (et_truth (EV.p (ev_isi g.isinstance g.tuple (by decide +kernel) (ep_var 0))))) (ew_or (et_cmp (op_neD hu) (o_neD) (EV.p (ev_len g.len (epa_cons (ep_var 0) epa_nil))) (EV.p ev_int) (nomark _)) (ew_or1 (et_not (et_truth (EV.p (ev_isi g.isinstance g.tuple (by decide +kernel) (EV.p (ev_ix (ep_var 0) (EV.p ev_int))))))))))) (ess_cons (es_ret ev_bl) ess_nil) ess_nil) (ess_cons (es_if (ew_t (ew_and (et_not (et_truth (EV.p (ev_call h_l_is_title hG (hr.mono (by omega)) tk (ea_cons (ev_ix (ep_var 0) (EV.p ev_int)) ea_nil))))) (ew_and1 (et_not (et_truth (EV.p (ev_call h_l_is_number hG (hr.mono (by omega)) tk (ea_cons (ev_ix (ep_var 0) (EV.p ev_int)) ea_nil)))))))) (ess_cons (es_ret ev_bl) ess_nil) ess_nil) (ess_cons (es_ret (ev_eq hu (EL.p (el_lcIf 1 rfl sc_l_is_maker.nd (ew_tup (ev_ix (ep_var 0) (EV.p ev_int))) (by show blkC ["_law_item", "_law_one"] (defScope s_l_is_maker) _ _ = true; decide +kernel) (fun _ _ _ _ _ => (et_not (et_truth (EV.p (ev_call hrec hG (hr.mono (by omega)) takes0 (ea_cons (ev_var 1) ea_nil)))))) (fun _ _ _ _ _ => (ev_var 1)))) (EL.p (el_lst ea_nil)))) ess_nil))))
abbrev s_l_is_entry : Stmt := topS 50
theorem sc_l_is_entry : FnScope ["_law_item"] ["_law_item"] (defScope s_l_is_entry) := ⟨rfl, rfl, rfl, by decide +kernel, rfl, by decide +kernel, by decide +kernel⟩
def m_l_is_entry : MS := (seqS (ifS (mIf (bindM (bindM (m1 (isiO "tuple") (mPk 0)) fun d => optM (truD d)) fun v => retM (!v)) (retM true) (mIf (bindM (m2 (eqO true) (mA lenO (mCons (mPk 0) (retM []))) (retM (.int 2))) asB) (retM true) (bindM (bindM (callM 1 f_l_is_title (mCons (m2 ixO (mPk 0) (retM (.int 0))) (retM []))) fun d => optM (truD d)) fun v => retM (!v)))) (seqS (bindS (retM (.bl false)) fun d s => .rt d s) (fun s => .nx s)) (fun s => .nx s)) (seqS (bindS (m2 (isNO true) (callM 1 (f_l_parsed 200) (mCons (m2 ixO (mPk 0) (retM (.int 1))) (retM []))) (retM .non)) fun d s => .rt d s) (fun s => .nx s)))
def f_l_is_entry : Fn := fnM 1 m_l_is_entry
theorem x_l_is_entry {f : Addr} {fd : FuncData} (g : GG P w K mg base) (F : Fun K "_law_is_entry" "_law_is_entry" s_l_is_entry f fd) (hmg : mg "_law_is_entry" = some (.ref f)) (hb : Binds K fd ["_law_item"] []) (h_l_parsed : FnX P w K mg base ks "_law_parsed" 202 1 (f_l_parsed 200)) (h_l_is_title : FnX P w K mg base ks "_law_is_title" 2 1 f_l_is_title)  : FnX P w K mg base ks "_law_is_entry" 203 1 f_l_is_entry :=
  fn_mkE F sc_l_is_entry hmg hb rfl (fun cdv A outer s H E hG hr tk hp => by
    have hu : (cxOf (L2.CX P w) P w K mg base ["_law_item"] "_law_is_entry" (defScope s_l_is_entry) f cdv A outer s H E).A.units + 64 < cLine := hr.units
    have hu1 := Nat.lt_of_le_of_lt (Nat.add_le_add_left (by decide : 1 ≤ 64) _) hu
    have hu2 : (cxOf (L2.CX P w) P w K mg base ["_law_item"] "_law_is_entry" (defScope s_l_is_entry) f cdv A outer s H E).A.units + 66 < cLine := Nat.lt_of_le_of_lt (by omega) hr.un
    exact (ess_cons (es_if (ew_t (ew_or (et_not (et_truth (EV.p (ev_isi g.isinstance g.tuple (by decide +kernel) (ep_var 0))))) (ew_or (et_cmp (op_neD hu) (o_neD) (EV.p (ev_len g.len (epa_cons (ep_var 0) epa_nil))) (EV.p ev_int) (nomark _)) (ew_or1 (et_not (et_truth (EV.p (ev_call h_l_is_title hG (hr.mono (by omega)) tk (ea_cons (ev_ix (ep_var 0) (EV.p ev_int)) ea_nil))))))))) (ess_cons (es_ret ev_bl) ess_nil) ess_nil) (ess_cons (es_ret (ev_notN (EV.p (ev_call h_l_parsed hG (hr.mono (by omega)) tk (ea_cons (ev_ix (ep_var 0) (EV.p ev_int)) ea_nil))) (EV.p ev_non))) ess_nil)))
abbrev s_l_is_term : Stmt := topS 51
theorem sc_l_is_term : FnScope ["_law_item", "_law_one", "_law_signs"] ["_law_item"] (defScope s_l_is_term) := ⟨rfl, rfl, rfl, by decide +kernel, rfl, by decide +kernel, by decide +kernel⟩
def m_l_is_term (r : Fn) : MS := (seqS (ifS (bindM (callM 1 f_l_is_title (mCons (mVar 0) (retM []))) fun d => optM (truD d)) (seqS (bindS (retM (.bl true)) fun d s => .rt d s) (fun s => .nx s)) (fun s => .nx s)) (seqS (ifS (mIf (bindM (bindM (m1 (isiO "tuple") (mPk 0)) fun d => optM (truD d)) fun v => retM (!v)) (retM true) (mIf (bindM (m2 (eqO true) (mA lenO (mCons (mPk 0) (retM []))) (retM (.int 3))) asB) (retM true) (bindM (bindM (m1 (isiO "str") (m2 ixO (mPk 0) (retM (.int 0)))) fun d => optM (truD d)) fun v => retM (!v)))) (seqS (bindS (retM (.bl false)) fun d s => .rt d s) (fun s => .nx s)) (fun s => .nx s)) (seqS (ifS (bindM (m2 (eqO false) (m2 ixO (mPk 0) (retM (.int 0))) (retM (.str "call"))) asB) (seqS (ifS (mIf (bindM (bindM (m1 (isiO "tuple") (m2 ixO (mPk 0) (retM (.int 2)))) fun d => optM (truD d)) fun v => retM (!v)) (retM true) (mIf (bindM (m2 (eqO false) (m2 ixO (mPk 0) (retM (.int 2))) (bindM (retM []) fun ds => optM (tupO ds))) asB) (retM true) (bindM (bindM (callM 1 r (mCons (m2 ixO (mPk 0) (retM (.int 1))) (retM []))) fun d => optM (truD d)) fun v => retM (!v)))) (seqS (bindS (retM (.bl false)) fun d s => .rt d s) (fun s => .nx s)) (fun s => .nx s)) (seqS (bindS (m2 (eqO false) (lcM [1] (tgN 1) (bindM (bindM (callM 1 r (mCons (mVar 1) (retM []))) fun d => optM (truD d)) fun v => retM (!v)) (mVar 1) (bindM (m2 ixO (mPk 0) (retM (.int 2))) asT)) (bindM (retM []) fun ds => optM (lstO ds))) fun d s => .rt d s) (fun s => .nx s))) (fun s => .nx s)) (seqS (ifS (mIf (bindM (m2 (eqO true) (m2 ixO (mPk 0) (retM (.int 0))) (retM (.str "fun"))) asB) (retM true) (mIf (bindM (bindM (m1 (isiO "tuple") (m2 ixO (mPk 0) (retM (.int 1)))) fun d => optM (truD d)) fun v => retM (!v)) (retM true) (bindM (m2 (eqO false) (m2 ixO (mPk 0) (retM (.int 1))) (bindM (retM []) fun ds => optM (tupO ds))) asB))) (seqS (bindS (retM (.bl false)) fun d s => .rt d s) (fun s => .nx s)) (fun s => .nx s)) (seqS (ifS (bindM (m2 (eqO true) (lcM [1] (tgN 1) (bindM (bindM (callM 1 f_l_is_entry (mCons (mVar 1) (retM []))) fun d => optM (truD d)) fun v => retM (!v)) (mVar 1) (bindM (m2 ixO (mPk 0) (retM (.int 1))) asT)) (bindM (retM []) fun ds => optM (lstO ds))) asB) (seqS (bindS (retM (.bl false)) fun d s => .rt d s) (fun s => .nx s)) (fun s => .nx s)) (seqS (asgL 2 (lcM [1] (tgN 1) (retM true) (m2 ixO (mPk 1) (retM (.int 0))) (bindM (m2 ixO (mPk 0) (retM (.int 1))) asT))) (seqS (bindS (mIf (bindM (m2 (eqO false) (m1 lenUO (mPk 2)) (mA lenO (mCons (mPk 2) (retM [])))) asB) (callM 1 r (mCons (m2 ixO (mPk 0) (retM (.int 2))) (retM []))) (retM (.bl false))) fun d s => .rt d s) (fun s => .nx s))))))))
def f_l_is_term : Nat → Fn
  | 0 => fun _ _ => .bad
  | n + 1 => fnM 3 (m_l_is_term (f_l_is_term n))
theorem x_l_is_term {f : Addr} {fd : FuncData} (g : GG P w K mg base) (F : Fun K "_law_is_term" "_law_is_term" s_l_is_term f fd) (hmg : mg "_law_is_term" = some (.ref f)) (hb : Binds K fd ["_law_item"] []) (h_l_is_entry : FnX P w K mg base ks "_law_is_entry" 203 1 f_l_is_entry) (h_l_is_title : FnX P w K mg base ks "_law_is_title" 2 1 f_l_is_title)  : ∀ n : Nat, FnX P w K mg base ks "_law_is_term" (203 + n) 1 (f_l_is_term n)
  | 0 => ⟨f, fd, ["_law_item"], FnG.no fun vs H Q E h => h.2.elim fun _ h => h.elim fun _ h => h.elim fun _ h => h.elim fun _ h => h.elim fun _ h => h.2.2.2.2.2, hmg, F.kp, hb⟩
  | n + 1 => by
    have hrec := x_l_is_term g F hmg hb h_l_is_entry h_l_is_title n
    exact fn_mkE (k := 203 + n) F sc_l_is_term hmg hb rfl (fun cdv A outer s H E hG hr tk hp => by
        have hu : (cxOf (L2.CX P w) P w K mg base ["_law_item", "_law_one", "_law_signs"] "_law_is_term" (defScope s_l_is_term) f cdv A outer s H E).A.units + 64 < cLine := hr.units
        have hu1 := Nat.lt_of_le_of_lt (Nat.add_le_add_left (by decide : 1 ≤ 64) _) hu
        have hu2 : (cxOf (L2.CX P w) P w K mg base ["_law_item", "_law_one", "_law_signs"] "_law_is_term" (defScope s_l_is_term) f cdv A outer s H E).A.units + 66 < cLine := Nat.lt_of_le_of_lt (by omega) hr.un
        exact (ess_cons (es_if (et_truth (EV.p (ev_call h_l_is_title hG (hr.mono (by omega)) tk (ea_cons (ev_var 0) ea_nil)))) (ess_cons (es_ret ev_bl) ess_nil) ess_nil) (ess_cons (es_if (ew_t (ew_or (et_not (et_truth (EV.p (ev_isi g.isinstance g.tuple (by decide +kernel) (ep_var 0))))) (ew_or (et_cmp (op_neD hu) (o_neD) (EV.p (ev_len g.len (epa_cons (ep_var 0) epa_nil))) (EV.p ev_int) (nomark _)) (ew_or1 (et_not (et_truth (EV.p (ev_isi g.isinstance g.str (by decide +kernel) (EV.p (ev_ix (ep_var 0) (EV.p ev_int))))))))))) (ess_cons (es_ret ev_bl) ess_nil) ess_nil) (ess_cons (es_if (et_cmp (op_eqD hu) (o_eqD) (EV.p (ev_ix (ep_var 0) (EV.p ev_int))) (EV.p ev_str) (nomark _)) (ess_cons (es_if (ew_t (ew_or (et_not (et_truth (EV.p (ev_isi g.isinstance g.tuple (by decide +kernel) (EV.p (ev_ix (ep_var 0) (EV.p ev_int))))))) (ew_or (et_cmp (op_eqD hu) (o_eqD) (EV.p (ev_ix (ep_var 0) (EV.p ev_int))) (EV.p (ev_tup ea_nil)) (nomark _)) (ew_or1 (et_not (et_truth (EV.p (ev_call hrec hG (hr.mono (by omega)) tk (ea_cons (ev_ix (ep_var 0) (EV.p ev_int)) ea_nil))))))))) (ess_cons (es_ret ev_bl) ess_nil) ess_nil) (ess_cons (es_ret (ev_eq hu (EL.p (el_lcIf 1 rfl sc_l_is_term.nd (ew_tup (ev_ix (ep_var 0) (EV.p ev_int))) (by show blkC ["_law_item", "_law_one", "_law_signs"] (defScope s_l_is_term) _ _ = true; decide +kernel) (fun _ _ _ _ _ => (et_not (et_truth (EV.p (ev_call hrec hG (hr.mono (by omega)) takes0 (ea_cons (ev_var 1) ea_nil)))))) (fun _ _ _ _ _ => (ev_var 1)))) (EL.p (el_lst ea_nil)))) ess_nil)) ess_nil) (ess_cons (es_if (ew_t (ew_or (et_cmp (op_neD hu) (o_neD) (EV.p (ev_ix (ep_var 0) (EV.p ev_int))) (EV.p ev_str) (nomark _)) (ew_or (et_not (et_truth (EV.p (ev_isi g.isinstance g.tuple (by decide +kernel) (EV.p (ev_ix (ep_var 0) (EV.p ev_int))))))) (ew_or1 (et_cmp (op_eqD hu) (o_eqD) (EV.p (ev_ix (ep_var 0) (EV.p ev_int))) (EV.p (ev_tup ea_nil)) (nomark _)))))) (ess_cons (es_ret ev_bl) ess_nil) ess_nil) (ess_cons (es_if (et_cmp (op_neD hu) (o_neD) (EL.p (el_lcIf 1 rfl sc_l_is_term.nd (ew_tup (ev_ix (ep_var 0) (EV.p ev_int))) (by show blkC ["_law_item", "_law_one", "_law_signs"] (defScope s_l_is_term) _ _ = true; decide +kernel) (fun _ _ _ _ _ => (et_not (et_truth (EV.p (ev_call h_l_is_entry hG (hr.mono (by omega)) takes0 (ea_cons (ev_var 1) ea_nil)))))) (fun _ _ _ _ _ => (ev_var 1)))) (EL.p (el_lst ea_nil)) (nomark _)) (ess_cons (es_ret ev_bl) ess_nil) ess_nil) (ess_cons (es_setLc 2 1 rfl sc_l_is_term.nd (ew_tup (ev_ix (ep_var 0) (EV.p ev_int))) (by show blkC ["_law_item", "_law_one", "_law_signs"] (defScope s_l_is_term) _ _ = true; decide +kernel) (fun _ _ _ _ _ => (ev_ix (ep_var 1) (EV.p ev_int)))) (ess_cons (es_ret (ev_and (EV.p (ev_eq hu (EV.p (ev_lenU rfl g.len g.set (ep_var 2))) (EV.p (ev_len g.len (epa_cons (ep_var 2) epa_nil))))) (ev_one (ev_call hrec hG (hr.mono (by omega)) tk (ea_cons (ev_ix (ep_var 0) (EV.p ev_int)) ea_nil))))) ess_nil))))))))
abbrev s_l_is_book : Stmt := topS 52
theorem sc_l_is_book : FnScope ["_law_item", "_law_one", "_law_signs"] ["_law_item"] (defScope s_l_is_book) := ⟨rfl, rfl, rfl, by decide +kernel, rfl, by decide +kernel, by decide +kernel⟩
def m_l_is_book : MS := (seqS (ifS (mIf (bindM (bindM (m1 (isiO "tuple") (mPk 0)) fun d => optM (truD d)) fun v => retM (!v)) (retM true) (bindM (m2 (eqO true) (lcM [1] (tgN 1) (bindM (bindM (callM 1 f_l_is_entry (mCons (mVar 1) (retM []))) fun d => optM (truD d)) fun v => retM (!v)) (mVar 1) (bindM (mVar 0) asT)) (bindM (retM []) fun ds => optM (lstO ds))) asB)) (seqS (bindS (retM (.bl false)) fun d s => .rt d s) (fun s => .nx s)) (fun s => .nx s)) (seqS (asgL 2 (lcM [1] (tgN 1) (retM true) (m2 ixO (mPk 1) (retM (.int 0))) (bindM (mVar 0) asT))) (seqS (bindS (m2 (eqO false) (mPk 2) (m1 uniqO (mPk 2))) fun d s => .rt d s) (fun s => .nx s))))
def f_l_is_book : Fn := fnM 3 m_l_is_book
theorem x_l_is_book {f : Addr} {fd : FuncData} (g : GG P w K mg base) (F : Fun K "_law_is_book" "_law_is_book" s_l_is_book f fd) (hmg : mg "_law_is_book" = some (.ref f)) (hb : Binds K fd ["_law_item"] []) (h_l_is_entry : FnX P w K mg base ks "_law_is_entry" 203 1 f_l_is_entry)  : FnX P w K mg base ks "_law_is_book" 204 1 f_l_is_book :=
  fn_mkE F sc_l_is_book hmg hb rfl (fun cdv A outer s H E hG hr tk hp => by
    have hu : (cxOf (L2.CX P w) P w K mg base ["_law_item", "_law_one", "_law_signs"] "_law_is_book" (defScope s_l_is_book) f cdv A outer s H E).A.units + 64 < cLine := hr.units
    have hu1 := Nat.lt_of_le_of_lt (Nat.add_le_add_left (by decide : 1 ≤ 64) _) hu
    have hu2 : (cxOf (L2.CX P w) P w K mg base ["_law_item", "_law_one", "_law_signs"] "_law_is_book" (defScope s_l_is_book) f cdv A outer s H E).A.units + 66 < cLine := Nat.lt_of_le_of_lt (by omega) hr.un
    exact (ess_cons (es_if (ew_t (ew_or (et_not (et_truth (EV.p (ev_isi g.isinstance g.tuple (by decide +kernel) (ep_var 0))))) (ew_or1 (et_cmp (op_neD hu) (o_neD) (EL.p (el_lcIf 1 rfl sc_l_is_book.nd (ew_tup (ev_var 0)) (by show blkC ["_law_item", "_law_one", "_law_signs"] (defScope s_l_is_book) _ _ = true; decide +kernel) (fun _ _ _ _ _ => (et_not (et_truth (EV.p (ev_call h_l_is_entry hG (hr.mono (by omega)) takes0 (ea_cons (ev_var 1) ea_nil)))))) (fun _ _ _ _ _ => (ev_var 1)))) (EL.p (el_lst ea_nil)) (nomark _))))) (ess_cons (es_ret ev_bl) ess_nil) ess_nil) (ess_cons (es_setLc 2 1 rfl sc_l_is_book.nd (ew_tup (ev_var 0)) (by show blkC ["_law_item", "_law_one", "_law_signs"] (defScope s_l_is_book) _ _ = true; decide +kernel) (fun _ _ _ _ _ => (ev_ix (ep_var 1) (EV.p ev_int)))) (ess_cons (es_ret (ev_eq hu (ep_var 2) (EL.p (el_uniq rfl hu g.sorted g.set (ep_var 2))))) ess_nil))))
abbrev s_l_is_stand : Stmt := topS 53
theorem sc_l_is_stand : FnScope ["_law_item", "_law_one"] ["_law_item"] (defScope s_l_is_stand) := ⟨rfl, rfl, rfl, by decide +kernel, rfl, by decide +kernel, by decide +kernel⟩
def m_l_is_stand : MS := (seqS (ifS (mIf (bindM (bindM (m1 (isiO "tuple") (mPk 0)) fun d => optM (truD d)) fun v => retM (!v)) (retM true) (mIf (bindM (m2 (eqO true) (mA lenO (mCons (mPk 0) (retM []))) (retM (.int 2))) asB) (retM true) (bindM (bindM (callM 1 f_l_is_title (mCons (m2 ixO (mPk 0) (retM (.int 1))) (retM []))) fun d => optM (truD d)) fun v => retM (!v)))) (seqS (bindS (retM (.bl false)) fun d s => .rt d s) (fun s => .nx s)) (fun s => .nx s)) (seqS (ifS (mIf (bindM (bindM (m1 (isiO "tuple") (m2 ixO (mPk 0) (retM (.int 0)))) fun d => optM (truD d)) fun v => retM (!v)) (retM true) (bindM (m2 (eqO true) (lcM [1] (tgN 1) (bindM (m2 (isNO false) (callM 1 (f_l_parsed 200) (mCons (mVar 1) (retM []))) (retM .non)) asB) (mVar 1) (bindM (m2 ixO (mPk 0) (retM (.int 0))) asT)) (bindM (retM []) fun ds => optM (lstO ds))) asB)) (seqS (bindS (retM (.bl false)) fun d s => .rt d s) (fun s => .nx s)) (fun s => .nx s)) (seqS (bindS (m2 (eqO false) (mA listO (mCons (m2 ixO (mPk 0) (retM (.int 0))) (retM []))) (m1 uniqO (m2 ixO (mPk 0) (retM (.int 0))))) fun d s => .rt d s) (fun s => .nx s))))
def f_l_is_stand : Fn := fnM 2 m_l_is_stand
theorem x_l_is_stand {f : Addr} {fd : FuncData} (g : GG P w K mg base) (F : Fun K "_law_is_stand" "_law_is_stand" s_l_is_stand f fd) (hmg : mg "_law_is_stand" = some (.ref f)) (hb : Binds K fd ["_law_item"] []) (h_l_parsed : FnX P w K mg base ks "_law_parsed" 202 1 (f_l_parsed 200)) (h_l_is_title : FnX P w K mg base ks "_law_is_title" 2 1 f_l_is_title)  : FnX P w K mg base ks "_law_is_stand" 203 1 f_l_is_stand :=
  fn_mkE F sc_l_is_stand hmg hb rfl (fun cdv A outer s H E hG hr tk hp => by
    have hu : (cxOf (L2.CX P w) P w K mg base ["_law_item", "_law_one"] "_law_is_stand" (defScope s_l_is_stand) f cdv A outer s H E).A.units + 64 < cLine := hr.units
    have hu1 := Nat.lt_of_le_of_lt (Nat.add_le_add_left (by decide : 1 ≤ 64) _) hu
    have hu2 : (cxOf (L2.CX P w) P w K mg base ["_law_item", "_law_one"] "_law_is_stand" (defScope s_l_is_stand) f cdv A outer s H E).A.units + 66 < cLine := Nat.lt_of_le_of_lt (by omega) hr.un
    exact (ess_cons (es_if (ew_t (ew_or (et_not (et_truth (EV.p (ev_isi g.isinstance g.tuple (by decide +kernel) (ep_var 0))))) (ew_or (et_cmp (op_neD hu) (o_neD) (EV.p (ev_len g.len (epa_cons (ep_var 0) epa_nil))) (EV.p ev_int) (nomark _)) (ew_or1 (et_not (et_truth (EV.p (ev_call h_l_is_title hG (hr.mono (by omega)) tk (ea_cons (ev_ix (ep_var 0) (EV.p ev_int)) ea_nil))))))))) (ess_cons (es_ret ev_bl) ess_nil) ess_nil) (ess_cons (es_if (ew_t (ew_or (et_not (et_truth (EV.p (ev_isi g.isinstance g.tuple (by decide +kernel) (EV.p (ev_ix (ep_var 0) (EV.p ev_int))))))) (ew_or1 (et_cmp (op_neD hu) (o_neD) (EL.p (el_lcIf 1 rfl sc_l_is_stand.nd (ew_tup (ev_ix (ep_var 0) (EV.p ev_int))) (by show blkC ["_law_item", "_law_one"] (defScope s_l_is_stand) _ _ = true; decide +kernel) (fun _ _ _ _ _ => (et_cmp (op_isN) (o_isN) (EV.p (ev_call h_l_parsed hG (hr.mono (by omega)) takes0 (ea_cons (ev_var 1) ea_nil))) (EV.p ev_non) (nomark _))) (fun _ _ _ _ _ => (ev_var 1)))) (EL.p (el_lst ea_nil)) (nomark _))))) (ess_cons (es_ret ev_bl) ess_nil) ess_nil) (ess_cons (es_ret (ev_eq hu (EL.p (el_list g.list (epa_cons (EV.p (ev_ix (ep_var 0) (EV.p ev_int))) epa_nil))) (EL.p (el_uniq rfl hu g.sorted g.set (EV.p (ev_ix (ep_var 0) (EV.p ev_int))))))) ess_nil))))
abbrev s_l_due : Stmt := topS 54
theorem sc_l_due : FnScope ["_law_item", "_law_whole", "_law_first"] ["_law_item"] (defScope s_l_due) := ⟨rfl, rfl, rfl, by decide +kernel, rfl, by decide +kernel, by decide +kernel⟩
def m_l_due : MS := (seqS (asgV 1 (mIf (bindM (m1 (isiO "int") (mPk 0)) asB) (m1 notO (m1 (isiO "bool") (mPk 0))) (retM (.bl false)))) (seqS (asgL 2 (bindM (mCons (mVar 1) (mCons (callM 1 f_l_is_number (mCons (mVar 0) (retM []))) (mCons (callM 1 f_l_is_title (mCons (mVar 0) (retM []))) (mCons (m2 (isNO true) (callM 1 (f_l_parsed 200) (mCons (mVar 0) (retM []))) (retM .non)) (retM []))))) fun ds => optM (lstO ds))) (seqS (asgL 2 (m2 addL (mPk 2) (bindM (mCons (callM 1 f_l_is_entry (mCons (mVar 0) (retM []))) (mCons (callM 1 f_l_is_book (mCons (mVar 0) (retM []))) (mCons (callM 1 (f_l_is_maker 14) (mCons (mVar 0) (retM []))) (retM [])))) fun ds => optM (lstO ds)))) (seqS (bindS (m2 addL (mPk 2) (bindM (mCons (callM 1 (f_l_is_term 24) (mCons (mVar 0) (retM []))) (mCons (callM 1 f_l_is_stand (mCons (mVar 0) (retM []))) (retM []))) fun ds => optM (lstO ds))) fun d s => .rt d s) (fun s => .nx s)))))
def f_l_due : Fn := fnM 3 m_l_due
theorem x_l_due {f : Addr} {fd : FuncData} (g : GG P w K mg base) (F : Fun K "_law_due" "_law_due" s_l_due f fd) (hmg : mg "_law_due" = some (.ref f)) (hb : Binds K fd ["_law_item"] []) (h_l_is_stand : FnX P w K mg base ks "_law_is_stand" 203 1 f_l_is_stand) (h_l_is_term : FnX P w K mg base ks "_law_is_term" 227 1 (f_l_is_term 24)) (h_l_is_maker : FnX P w K mg base ks "_law_is_maker" 16 1 (f_l_is_maker 14)) (h_l_is_book : FnX P w K mg base ks "_law_is_book" 204 1 f_l_is_book) (h_l_is_entry : FnX P w K mg base ks "_law_is_entry" 203 1 f_l_is_entry) (h_l_parsed : FnX P w K mg base ks "_law_parsed" 202 1 (f_l_parsed 200)) (h_l_is_title : FnX P w K mg base ks "_law_is_title" 2 1 f_l_is_title) (h_l_is_number : FnX P w K mg base ks "_law_is_number" 2 1 f_l_is_number)  : FnX P w K mg base ks "_law_due" 228 1 f_l_due :=
  fn_mkE F sc_l_due hmg hb rfl (fun cdv A outer s H E hG hr tk hp => by
    have hu : (cxOf (L2.CX P w) P w K mg base ["_law_item", "_law_whole", "_law_first"] "_law_due" (defScope s_l_due) f cdv A outer s H E).A.units + 64 < cLine := hr.units
    have hu1 := Nat.lt_of_le_of_lt (Nat.add_le_add_left (by decide : 1 ≤ 64) _) hu
    have hu2 : (cxOf (L2.CX P w) P w K mg base ["_law_item", "_law_whole", "_law_first"] "_law_due" (defScope s_l_due) f cdv A outer s H E).A.units + 66 < cLine := Nat.lt_of_le_of_lt (by omega) hr.un
    exact (ess_cons (es_set 1 sc_l_due.nd (ev_and (EV.p (ev_isi g.isinstance g.int (by decide +kernel) (ep_var 0))) (ev_one (ev_not (EV.p (ev_isi g.isinstance g.bool (by decide +kernel) (ep_var 0))))))) (ess_cons (es_setL 2 sc_l_due.nd (el_lst (ea_cons (ev_var 1) (ea_cons (ev_call h_l_is_number hG (hr.mono (by omega)) tk (ea_cons (ev_var 0) ea_nil)) (ea_cons (ev_call h_l_is_title hG (hr.mono (by omega)) tk (ea_cons (ev_var 0) ea_nil)) (ea_cons (ev_notN (EV.p (ev_call h_l_parsed hG (hr.mono (by omega)) tk (ea_cons (ev_var 0) ea_nil))) (EV.p ev_non)) ea_nil)))))) (ess_cons (es_setL 2 sc_l_due.nd (el_cat (ep_var 2) (EL.p (el_lst (ea_cons (ev_call h_l_is_entry hG (hr.mono (by omega)) tk (ea_cons (ev_var 0) ea_nil)) (ea_cons (ev_call h_l_is_book hG (hr.mono (by omega)) tk (ea_cons (ev_var 0) ea_nil)) (ea_cons (ev_call h_l_is_maker hG (hr.mono (by omega)) tk (ea_cons (ev_var 0) ea_nil)) ea_nil))))))) (ess_cons (es_ret (EL.v (el_cat (ep_var 2) (EL.p (el_lst (ea_cons (ev_call h_l_is_term hG (hr.mono (by omega)) tk (ea_cons (ev_var 0) ea_nil)) (ea_cons (ev_call h_l_is_stand hG (hr.mono (by omega)) tk (ea_cons (ev_var 0) ea_nil)) ea_nil))))))) ess_nil)))))
abbrev s_l_told : Stmt := topS 55
theorem sc_l_told : FnScope ["_law_item", "_law_first"] ["_law_item"] (defScope s_l_told) := ⟨rfl, rfl, rfl, by decide +kernel, rfl, by decide +kernel, by decide +kernel⟩
def m_l_told : MS := (seqS (asgL 1 (bindM (mCons (callM 1 f_p_is_integer (mCons (mVar 0) (retM []))) (mCons (callM 1 f_p_is_number (mCons (mVar 0) (retM []))) (mCons (callM 1 f_p_is_name (mCons (mVar 0) (retM []))) (mCons (callM 1 f_p_is_kind (mCons (mVar 0) (retM []))) (retM []))))) fun ds => optM (lstO ds))) (seqS (asgL 1 (m2 addL (mPk 1) (bindM (mCons (callM 1 f_p_is_entry (mCons (mVar 0) (retM []))) (mCons (callM 1 f_p_is_book (mCons (mVar 0) (retM []))) (mCons (callM 1 f_p_is_maker (mCons (mVar 0) (retM []))) (mCons (callM 1 f_p_is_term (mCons (mVar 0) (retM []))) (retM []))))) fun ds => optM (lstO ds)))) (seqS (bindS (m2 addL (mPk 1) (bindM (mCons (callM 1 f_p_is_stand (mCons (mVar 0) (retM []))) (retM [])) fun ds => optM (lstO ds))) fun d s => .rt d s) (fun s => .nx s))))
def f_l_told : Fn := fnM 2 m_l_told
theorem x_l_told {f : Addr} {fd : FuncData} (g : GG P w K mg base) (F : Fun K "_law_told" "_law_told" s_l_told f fd) (hmg : mg "_law_told" = some (.ref f)) (hb : Binds K fd ["_law_item"] []) (h_p_is_stand : FnX P w K mg base ks "is_stand" 11 1 f_p_is_stand) (h_p_is_term : FnX P w K mg base ks "is_term" 14 1 f_p_is_term) (h_p_is_maker : FnX P w K mg base ks "is_maker" 5 1 f_p_is_maker) (h_p_is_book : FnX P w K mg base ks "is_book" 12 1 f_p_is_book) (h_p_is_entry : FnX P w K mg base ks "is_entry" 10 1 f_p_is_entry) (h_p_is_kind : FnX P w K mg base ks "is_kind" 9 1 f_p_is_kind) (h_p_is_name : FnX P w K mg base ks "is_name" 2 1 f_p_is_name) (h_p_is_number : FnX P w K mg base ks "is_number" 3 1 f_p_is_number) (h_p_is_integer : FnX P w K mg base ks "is_integer" 2 1 f_p_is_integer) (h_p_is_standK : FnXK P w K mg base ks "is_stand" ["thing"] 11 1 f_p_is_stand) (h_p_is_termK : FnXK P w K mg base ks "is_term" ["thing"] 14 1 f_p_is_term) (h_p_is_makerK : FnXK P w K mg base ks "is_maker" ["thing"] 5 1 f_p_is_maker) (h_p_is_bookK : FnXK P w K mg base ks "is_book" ["thing"] 12 1 f_p_is_book) (h_p_is_entryK : FnXK P w K mg base ks "is_entry" ["thing"] 10 1 f_p_is_entry) (h_p_is_kindK : FnXK P w K mg base ks "is_kind" ["thing"] 9 1 f_p_is_kind) (h_p_is_nameK : FnXK P w K mg base ks "is_name" ["thing"] 2 1 f_p_is_name) (h_p_is_numberK : FnXK P w K mg base ks "is_number" ["thing"] 3 1 f_p_is_number) (h_p_is_integerK : FnXK P w K mg base ks "is_integer" ["thing"] 2 1 f_p_is_integer) : FnX P w K mg base ks "_law_told" 15 1 f_l_told :=
  fn_mkE F sc_l_told hmg hb rfl (fun cdv A outer s H E hG hr tk hp => by
    have hu : (cxOf (L2.CX P w) P w K mg base ["_law_item", "_law_first"] "_law_told" (defScope s_l_told) f cdv A outer s H E).A.units + 64 < cLine := hr.units
    have hu1 := Nat.lt_of_le_of_lt (Nat.add_le_add_left (by decide : 1 ≤ 64) _) hu
    have hu2 : (cxOf (L2.CX P w) P w K mg base ["_law_item", "_law_first"] "_law_told" (defScope s_l_told) f cdv A outer s H E).A.units + 66 < cLine := Nat.lt_of_le_of_lt (by omega) hr.un
    exact (ess_cons (es_setL 1 sc_l_told.nd (el_lst (ea_cons (ev_callK h_p_is_integerK hG (hr.mono (by omega)) tk (ek_one (ev_var 0))) (ea_cons (ev_callK h_p_is_numberK hG (hr.mono (by omega)) tk (ek_one (ev_var 0))) (ea_cons (ev_callK h_p_is_nameK hG (hr.mono (by omega)) tk (ek_one (ev_var 0))) (ea_cons (ev_callK h_p_is_kindK hG (hr.mono (by omega)) tk (ek_one (ev_var 0))) ea_nil)))))) (ess_cons (es_setL 1 sc_l_told.nd (el_cat (ep_var 1) (EL.p (el_lst (ea_cons (ev_callK h_p_is_entryK hG (hr.mono (by omega)) tk (ek_one (ev_var 0))) (ea_cons (ev_callK h_p_is_bookK hG (hr.mono (by omega)) tk (ek_one (ev_var 0))) (ea_cons (ev_callK h_p_is_makerK hG (hr.mono (by omega)) tk (ek_one (ev_var 0))) (ea_cons (ev_callK h_p_is_termK hG (hr.mono (by omega)) tk (ek_one (ev_var 0))) ea_nil)))))))) (ess_cons (es_ret (EL.v (el_cat (ep_var 1) (EL.p (el_lst (ea_cons (ev_callK h_p_is_standK hG (hr.mono (by omega)) tk (ek_one (ev_var 0))) ea_nil)))))) ess_nil))))
abbrev s_p_law : Stmt := topS 56
theorem sc_p_law : FnScope ["_law_script", "_law_feed", "_law_items", "_law_deep", "_law_lap", "_law_trees", "_law_kinds_now", "_law_entry_now", "_law_book_now", "_law_some", "_law_item", "_law_turn", "_law_one"] ["_law_script"] (defScope s_p_law) := ⟨rfl, rfl, rfl, by decide +kernel, rfl, by decide +kernel, by decide +kernel⟩
def m_p_law : MS := (seqS (parLS 2 3 (mCons (lcM [4] (tgN 4) (retM true) (callM 1 f_l_strange (mCons (mVar 1) (retM []))) (bindM (retM (.int 16)) asR)) (mCons (retM (.str "p")) (retM [])))) (seqS (mFor (tgN 4) (bindM (m2 addO (retM (.int 1)) (callM 2 f_l_draw (mCons (mVar 1) (mCons (retM (.int 40)) (retM []))))) asR) (seqS (asgV 3 (mIf (bindM (m2 gtO (mPk 4) (retM (.int 0))) asB) (m2 addO (m2 addO (retM (.str "(")) (mPk 3)) (retM (.str ") -> q"))) (retM (.str "p -> q")))) (fun s => .nx s))) (seqS (extS 2 (bindM (mCons (mVar 3) (mCons (m3 slO (mPk 3) (retM none) (bindM (m1 negO (retM (.int 1))) asInt)) (mCons (m2 addO (m2 addO (retM (.str "(")) (mPk 3)) (retM (.str ")"))) (mCons (bindM (mCons (mVar 3) (retM [])) fun ds => optM (lstO ds)) (mCons (bindM (mCons (retM (.str "p")) (mCons (mVar 3) (retM []))) fun ds => optM (tupO ds)) (mCons (retM (.str "abcdefgh -> abcdefghi")) (retM []))))))) fun ds => optM (lstO ds))) (seqS (extS 2 (bindM (mCons (bindM (mCons (retM (.str "fun")) (mCons (bindM (mCons (bindM (mCons (retM (.str "x")) (mCons (retM (.str "p")) (retM []))) fun ds => optM (tupO ds)) (mCons (bindM (mCons (retM (.str "x")) (mCons (retM (.str "q")) (retM []))) fun ds => optM (tupO ds)) (retM []))) fun ds => optM (tupO ds)) (mCons (retM (.str "x")) (retM [])))) fun ds => optM (tupO ds)) (mCons (bindM (mCons (retM (.str "call")) (mCons (retM (.str "a")) (mCons (bindM (retM []) fun ds => optM (tupO ds)) (retM [])))) fun ds => optM (tupO ds)) (mCons (bindM (mCons (retM (.str "call")) (mCons (retM (.str "a")) (mCons (bindM (mCons (retM (.str "a")) (retM [])) fun ds => optM (lstO ds)) (retM [])))) fun ds => optM (tupO ds)) (mCons (bindM (mCons (retM (.str "f")) (mCons (bindM (mCons (bindM (mCons (retM (.int 0)) (mCons (bindM (retM []) fun ds => optM (tupO ds)) (retM []))) fun ds => optM (tupO ds)) (retM [])) fun ds => optM (lstO ds)) (retM []))) fun ds => optM (tupO ds)) (retM []))))) fun ds => optM (lstO ds))) (seqS (mFor (tgN 4) (bindM (retM (.int 5)) asR) (seqS (asgL 5 (lcM [11] (tgN 11) (retM true) (callM 2 (f_l_tree 10) (mCons (mVar 1) (mCons (callM 2 f_l_pick (mCons (mVar 1) (mCons (bindM (mCons (retM (.int 1)) (mCons (retM (.int 2)) (mCons (retM (.int 3)) (mCons (retM (.int 5)) (mCons (retM (.int 9)) (retM [])))))) fun ds => optM (lstO ds)) (retM [])))) (retM [])))) (bindM (retM (.int 3)) asR))) (seqS (asgL 6 (m1 uniqO (lcM [12] (tgN 12) (retM true) (callM 1 (f_l_spelled 10) (mCons (mVar 12) (retM []))) (bindM (mVar 5) asL)))) (seqS (asgV 7 (bindM (mCons (callM 1 f_l_title (mCons (mVar 1) (retM []))) (mCons (m2 ixO (mPk 6) (retM (.int 0))) (retM []))) fun ds => optM (tupO ds))) (seqS (asgV 8 (mA tupleO (mCons (mA sortPO (mCons (bindM (mCons (mVar 7) (mCons (bindM (mCons (retM (.str "b")) (mCons (m2 ixO (mPk 6) (m1 negO (retM (.int 1)))) (retM []))) fun ds => optM (tupO ds)) (retM []))) fun ds => optM (lstO ds)) (retM []))) (retM [])))) (seqS (asgL 9 (bindM (mCons (m2 ixO (mPk 6) (retM (.int 0))) (mCons (mVar 7) (mCons (mVar 8) (mCons (callM 2 (f_l_maker 5) (mCons (mVar 1) (mCons (retM (.int 4)) (retM [])))) (mCons (callM 2 (f_l_term 6) (mCons (mVar 1) (mCons (retM (.int 5)) (retM [])))) (retM [])))))) fun ds => optM (lstO ds))) (seqS (extS 9 (bindM (mCons (bindM (mCons (mA tupleO (mCons (mPk 6) (retM []))) (mCons (retM (.str "p")) (retM []))) fun ds => optM (tupO ds)) (mCons (bindM (mCons (mA tupleO (mCons (m1 revLO (mPk 6)) (retM []))) (mCons (retM (.str "q")) (retM []))) fun ds => optM (tupO ds)) (mCons (bindM (mCons (bindM (mCons (retM (.str "f")) (mCons (retM (.str "p")) (retM []))) fun ds => optM (tupO ds)) (mCons (bindM (mCons (retM (.str "f")) (mCons (retM (.str "q")) (retM []))) fun ds => optM (tupO ds)) (retM []))) fun ds => optM (tupO ds)) (retM [])))) fun ds => optM (lstO ds))) (seqS (mFor (tgN 10) (bindM (mVar 9) asL) (seqS (appS 2 (mVar 10)) (seqS (appS 2 (callM 2 (f_l_spoilt 40) (mCons (mVar 1) (mCons (mVar 10) (retM []))))) (seqS (appS 2 (callM 2 (f_l_spoilt 40) (mCons (mVar 1) (mCons (callM 2 (f_l_spoilt 40) (mCons (mVar 1) (mCons (mVar 10) (retM [])))) (retM []))))) (fun s => .nx s))))) (fun s => .nx s))))))))) (seqS (bindS (m2 (eqO false) (lcM [10] (tgN 10) (bindM (m2 (eqO true) (mA reprO (mCons (callM 1 f_l_told (mCons (mVar 10) (retM []))) (retM []))) (mA reprO (mCons (callM 1 f_l_due (mCons (mVar 10) (retM []))) (retM [])))) asB) (mVar 10) (bindM (mVar 2) asL)) (bindM (retM []) fun ds => optM (lstO ds))) fun d s => .rt d s) (fun s => .nx s)))))))
theorem x_p_law {f : Addr} {fd : FuncData} (g : GG P w K mg base) (F : Fun K "law" "law" s_p_law f fd) (Bg : BegunC P w K mg base ks "_law_begun") (h_l_told : FnX P w K mg base ks "_law_told" 15 1 f_l_told) (h_l_due : FnX P w K mg base ks "_law_due" 228 1 f_l_due) (h_l_spoilt : FnX P w K mg base ks "_law_spoilt" 44 2 (f_l_spoilt 40)) (h_l_term : FnX P w K mg base ks "_law_term" 19 2 (f_l_term 6)) (h_l_maker : FnX P w K mg base ks "_law_maker" 9 2 (f_l_maker 5)) (h_l_title : FnX P w K mg base ks "_law_title" 4 1 f_l_title) (h_l_spelled : FnX P w K mg base ks "_law_spelled" 11 1 (f_l_spelled 10)) (h_l_tree : FnX P w K mg base ks "_law_tree" 13 2 (f_l_tree 10)) (h_l_pick : FnX P w K mg base ks "_law_pick" 3 2 f_l_pick) (h_l_draw : FnX P w K mg base ks "_law_draw" 2 2 f_l_draw) (h_l_strange : FnX P w K mg base ks "_law_strange" 4 1 f_l_strange)  : FnG P w K mg base 229 f fd ["_law_script"] (spLaw K 13 m_p_law) :=
  law_mkE (k := 228) F sc_p_law rfl (by decide) (by decide) Bg rfl rfl (fun _ _ _ _ _ _ _ h => ps_set sc_p_law.nd rfl (by first | exact Or.inl rfl | exact Or.inr rfl) h) (fun _ _ _ _ _ _ _ _ _ r F1 m1 k1 b1 => pe_call F1 r rfl m1 k1 b1 .nil passL (pa_cons (pv 0) pa_nil)) (fun cdv A outer s H E hG hr tk hp => by
    have hu : (cxOf (L2.CX P w) P w K mg base ["_law_script", "_law_feed", "_law_items", "_law_deep", "_law_lap", "_law_trees", "_law_kinds_now", "_law_entry_now", "_law_book_now", "_law_some", "_law_item", "_law_turn", "_law_one"] "law" (defScope s_p_law) f cdv A outer s H E).A.units + 64 < cLine := hr.units
    have hu1 := Nat.lt_of_le_of_lt (Nat.add_le_add_left (by decide : 1 ≤ 64) _) hu
    have hu2 : (cxOf (L2.CX P w) P w K mg base ["_law_script", "_law_feed", "_law_items", "_law_deep", "_law_lap", "_law_trees", "_law_kinds_now", "_law_entry_now", "_law_book_now", "_law_some", "_law_item", "_law_turn", "_law_one"] "law" (defScope s_p_law) f cdv A outer s H E).A.units + 66 < cLine := Nat.lt_of_le_of_lt (by omega) hr.un
    exact (ess_cons (es_parL 2 3 rfl sc_p_law.nd (by decide) (el_lc 4 rfl sc_p_law.nd (ew_range g.range (EV.p ev_int)) (by show blkC ["_law_script", "_law_feed", "_law_items", "_law_deep", "_law_lap", "_law_trees", "_law_kinds_now", "_law_entry_now", "_law_book_now", "_law_some", "_law_item", "_law_turn", "_law_one"] (defScope s_p_law) _ _ = true; decide +kernel) (fun _ _ _ _ _ => (ev_call h_l_strange hG (hr.mono (by omega)) takes0 (ea_cons (ev_var 1) ea_nil)))) ev_str) (ess_cons (es_for 4 hp rfl sc_p_law.nd (ew_range g.range (EV.p (ev_add (EV.p ev_int) (EV.p (ev_call h_l_draw hG (hr.mono (by omega)) tk (ea_cons (ev_var 1) (ea_cons ev_int ea_nil))))))) (ess_cons (es_set 3 sc_p_law.nd (ev_if (et_cmp (opr_or op_gt op_gt_str) (o_gtI.or o_gtS) (ep_var 4) (EV.p ev_int) (nomark _)) (ev_add (EV.p (ev_add (EV.p ev_str) (ep_var 3))) (EV.p ev_str)) ev_str)) ess_nil)) (ess_cons (es_extend 2 (EL.p (el_lst (ea_cons (ev_var 3) (ea_cons (ev_sl (ep_var 3) eo_none (eo_some (EV.p (ev_neg (EV.p ev_int))))) (ea_cons (ev_add (EV.p (ev_add (EV.p ev_str) (ep_var 3))) (EV.p ev_str)) (ea_cons (EL.v (el_lst (ea_cons (ev_var 3) ea_nil))) (ea_cons (ev_tup (ea_cons ev_str (ea_cons (ev_var 3) ea_nil))) (ea_cons ev_str ea_nil))))))))) (ess_cons (es_extend 2 (EL.p (el_lst (ea_cons (ev_tup (ea_cons ev_str (ea_cons (ev_tup (ea_cons (ev_tup (ea_cons ev_str (ea_cons ev_str ea_nil))) (ea_cons (ev_tup (ea_cons ev_str (ea_cons ev_str ea_nil))) ea_nil))) (ea_cons ev_str ea_nil)))) (ea_cons (ev_tup (ea_cons ev_str (ea_cons ev_str (ea_cons (ev_tup ea_nil) ea_nil)))) (ea_cons (ev_tup (ea_cons ev_str (ea_cons ev_str (ea_cons (EL.v (el_lst (ea_cons ev_str ea_nil))) ea_nil)))) (ea_cons (ev_tup (ea_cons ev_str (ea_cons (EL.v (el_lst (ea_cons (ev_tup (ea_cons ev_int (ea_cons (ev_tup ea_nil) ea_nil))) ea_nil))) ea_nil))) ea_nil))))))) (ess_cons (es_for 4 hp rfl sc_p_law.nd (ew_range g.range (EV.p ev_int)) (ess_cons (es_setLc 5 11 rfl sc_p_law.nd (ew_range g.range (EV.p ev_int)) (by show blkC ["_law_script", "_law_feed", "_law_items", "_law_deep", "_law_lap", "_law_trees", "_law_kinds_now", "_law_entry_now", "_law_book_now", "_law_some", "_law_item", "_law_turn", "_law_one"] (defScope s_p_law) _ _ = true; decide +kernel) (fun _ _ _ _ _ => (ev_call h_l_tree hG (hr.mono (by omega)) takes0 (ea_cons (ev_var 1) (ea_cons (ev_call h_l_pick hG (hr.mono (by omega)) takes0 (ea_cons (ev_var 1) (ea_cons (EL.v (el_lst (ea_cons ev_int (ea_cons ev_int (ea_cons ev_int (ea_cons ev_int (ea_cons ev_int ea_nil))))))) ea_nil))) ea_nil))))) (ess_cons (es_setL 6 sc_p_law.nd (el_uniq rfl hu g.sorted g.set (EL.p (el_lc 12 rfl sc_p_law.nd (ew_list (ev_var 5)) (by show blkC ["_law_script", "_law_feed", "_law_items", "_law_deep", "_law_lap", "_law_trees", "_law_kinds_now", "_law_entry_now", "_law_book_now", "_law_some", "_law_item", "_law_turn", "_law_one"] (defScope s_p_law) _ _ = true; decide +kernel) (fun _ _ _ _ _ => (ev_call h_l_spelled hG (hr.mono (by omega)) takes0 (ea_cons (ev_var 12) ea_nil))))))) (ess_cons (es_set 7 sc_p_law.nd (ev_tup (ea_cons (ev_call h_l_title hG (hr.mono (by omega)) tk (ea_cons (ev_var 1) ea_nil)) (ea_cons (ev_ix (ep_var 6) (EV.p ev_int)) ea_nil)))) (ess_cons (es_set 8 sc_p_law.nd (ev_tuple g.tuple (epa_cons (EL.p (el_sortP hu g.sorted (epa_cons (EL.p (el_lst (ea_cons (ev_var 7) (ea_cons (ev_tup (ea_cons ev_str (ea_cons (ev_ix (ep_var 6) (EV.p (ev_neg (EV.p ev_int)))) ea_nil))) ea_nil)))) epa_nil))) epa_nil))) (ess_cons (es_setL 9 sc_p_law.nd (el_lst (ea_cons (ev_ix (ep_var 6) (EV.p ev_int)) (ea_cons (ev_var 7) (ea_cons (ev_var 8) (ea_cons (ev_call h_l_maker hG (hr.mono (by omega)) tk (ea_cons (ev_var 1) (ea_cons ev_int ea_nil))) (ea_cons (ev_call h_l_term hG (hr.mono (by omega)) tk (ea_cons (ev_var 1) (ea_cons ev_int ea_nil))) ea_nil))))))) (ess_cons (es_extend 9 (EL.p (el_lst (ea_cons (ev_tup (ea_cons (ev_tuple g.tuple (epa_cons (ep_var 6) epa_nil)) (ea_cons ev_str ea_nil))) (ea_cons (ev_tup (ea_cons (ev_tuple g.tuple (epa_cons (EL.p (el_revL (ep_var 6))) epa_nil)) (ea_cons ev_str ea_nil))) (ea_cons (ev_tup (ea_cons (ev_tup (ea_cons ev_str (ea_cons ev_str ea_nil))) (ea_cons (ev_tup (ea_cons ev_str (ea_cons ev_str ea_nil))) ea_nil))) ea_nil)))))) (ess_cons (es_for 10 hp rfl sc_p_law.nd (ew_list (ev_var 9)) (ess_cons (es_append 2 (ev_var 10)) (ess_cons (es_append 2 (ev_call h_l_spoilt hG (hr.mono (by omega)) tk (ea_cons (ev_var 1) (ea_cons (ev_var 10) ea_nil)))) (ess_cons (es_append 2 (ev_call h_l_spoilt hG (hr.mono (by omega)) tk (ea_cons (ev_var 1) (ea_cons (ev_call h_l_spoilt hG (hr.mono (by omega)) tk (ea_cons (ev_var 1) (ea_cons (ev_var 10) ea_nil))) ea_nil)))) ess_nil)))) ess_nil)))))))) (ess_cons (es_ret (ev_eq hu (EL.p (el_lcIf 10 rfl sc_p_law.nd (ew_list (ev_var 2)) (by show blkC ["_law_script", "_law_feed", "_law_items", "_law_deep", "_law_lap", "_law_trees", "_law_kinds_now", "_law_entry_now", "_law_book_now", "_law_some", "_law_item", "_law_turn", "_law_one"] (defScope s_p_law) _ _ = true; decide +kernel) (fun _ _ _ _ _ => (et_cmp (op_neD hu) (o_neD) (EV.p (ev_repr hG hu2 g.repr (epa_cons (EV.p (ev_call h_l_told hG (hr.mono (by omega)) takes0 (ea_cons (ev_var 10) ea_nil))) epa_nil))) (EV.p (ev_repr hG hu2 g.repr (epa_cons (EV.p (ev_call h_l_due hG (hr.mono (by omega)) takes0 (ea_cons (ev_var 10) ea_nil))) epa_nil))) (nomark _))) (fun _ _ _ _ _ => (ev_var 10)))) (EL.p (el_lst ea_nil)))) ess_nil)))))))
end
end K01

set_option Elab.async false
set_option linter.all false
set_option maxRecDepth 100000
set_option maxHeartbeats 4000000
namespace Og
open PySem L2
theorem call_reprS {X : Cx} : CallR X (.builtin "repr") (fun xs H Q => ∃ z : Str, xs = [.str z] ∧ (reprText z).length ≤ sizeLine ∧ Q (.str (reprText z)) H) := by
  intro pins s σ H xs us Q I r h
  obtain ⟨z, rfl, hz, q⟩ := h
  obtain ⟨u, rfl, t, rfl⟩ := vals1 r
  exact PySem.P.repr_of_str ⟨.str _, H, I.tok _, ⟨_, rfl⟩, q⟩ hz
theorem bits_log {i : Int} (h : (Builtin.Int.intBits i : Int) ≤ 200) : i.natAbs.log2 < 1920 := by
  unfold Builtin.Int.intBits at h
  by_cases c : (i == 0) = true
  · have : i = 0 := eq_of_beq c
    subst this
    decide +kernel
  · rw [if_neg c] at h
    omega
theorem small_text {i : Int} (h : i.natAbs.log2 < 1920) : (Str.ofString (toString i)).length ≤ 20000 := Nat.le_trans (PyProof.Rows.int_text_len_1921 h) (by decide)
end Og
namespace K01
open PySem L2 Og
abbrev s_shown : Stmt := topS 2
theorem sc_shown : FnScope ["field"] ["field"] (defScope s_shown) := ⟨rfl, rfl, rfl, by decide +kernel, rfl, by decide +kernel, by decide +kernel⟩
section
variable {P : Program} {w : World} {K : PySem.W.Frag} {mg : Str → Option Value} {base : Heap}
theorem ok_shown {f : Addr} {fd : FuncData} {t : Tok} (F : Fun K "shown" "shown" s_shown f fd) (g1 : mg "isinstance" = none) (g2 : mg "int" = none) (g3 : mg "str" = none) (g4 : mg "len" = none) (g5 : mg "repr" = none) (g6 : mg "LONGEST_SHOWN" = some (.int 200 t)) : FnOk P w K mg base (L2.CX P w) 1 f fd ["field"] (spShown K) := by
  refine F.okX sc_shown (fun vs H Q E h => ?_) (fun cdv A outer s H vs Q E hr h => ?_)
  · obtain ⟨v, rfl, _⟩ := h
    rfl
  obtain ⟨v, rfl, hf, q⟩ := h
  refine ⟨_, pss_cons (ps_if (PW.pt (pw_and (pt_val (pe_callB call_isi rfl g1 (by decide +kernel) (pa_cons (pv 0) (pa_cons (pe_bltn (v := .ty "int") rfl g2 (by decide +kernel) rfl) pa_nil)))) (pw_and1 (pt_cmpR op_le (pe_bits (pv 0)) (pe_glob (v := .int 200) rfl g6 ⟨_, rfl⟩) (nomark _))))) (pss_one (ps_ret (pe_callTy call_str_int rfl g3 (by decide +kernel) (pa_cons (pv 0) pa_nil)))) pss_nil)
    (pss_cons (ps_if (PW.pt (pw_and (pt_val (pe_callB call_isi rfl g1 (by decide +kernel) (pa_cons (pv 0) (pa_cons (pe_bltn (v := .ty "str") rfl g3 (by decide +kernel) rfl) pa_nil)))) (pw_and1 (pt_cmpR op_le (pe_callB call_len rfl g4 PySem.boot_len (pa_cons (pv 0) pa_nil)) (pe_glob (v := .int 200) rfl g6 ⟨_, rfl⟩) (nomark _))))) (pss_one (ps_ret (pe_callB call_reprS rfl g5 (by decide +kernel) (pa_cons (pv 0) pa_nil)))) pss_nil)
    (pss_one (ps_ret pe_str))), ?_⟩
  have rest : ∀ (t2 : Value) (b : Bool) (v : V), TyX K H v t2 → PySem.W.kitOne K t2 (.type "str") = some b → (b = true → ∃ z : Str, v = .str z ∧ z.length ≤ sizeLine) → True := fun _ _ _ _ _ _ => trivial
  have dots : Q (.str "...") H := q _ (by decide +kernel)
  rcases hf with ⟨i, rfl⟩ | ⟨z, rfl, hz, hc⟩ | ⟨a, xs, rfl, ha⟩
  · refine ⟨_, rfl, _, _, _, _, true, rfl, .ty _, .base (.int i), kit_ty (by decide +kernel), true, rfl, iteT ?_⟩
    refine ⟨_, rfl, i, rfl, _, _, rfl, rfl, _, rfl, ?_⟩
    refine ite2 (fun c => ?_) (fun c => ?_)
    · have c := of_decide_eq_true c
      exact ⟨_, rfl, i, rfl, bits_log c, q _ (small_text (bits_log c))⟩
    · refine ⟨_, rfl, _, _, _, _, false, rfl, .ty _, .base (.int i), kit_ty (by decide +kernel), false, rfl, iteF (iteF dots)⟩
  · refine ⟨_, rfl, _, _, _, _, false, rfl, .ty _, .base (.str z), kit_ty (by decide +kernel), false, rfl, iteF (iteF ?_)⟩
    refine ⟨_, rfl, _, _, _, _, true, rfl, .ty _, .base (.str z), kit_ty (by decide +kernel), true, rfl, iteT ?_⟩
    refine ⟨_, rfl, _, _, rfl, ⟨hz, rfl⟩, _, _, rfl, rfl, _, rfl, ?_⟩
    refine ite2 (fun c => ?_) (fun c => dots)
    have c := of_decide_eq_true c
    have l1 := StrLaws.reprText_len z hc
    have c2 : z.length ≤ 200 := by omega
    exact ⟨_, rfl, z, rfl, Nat.le_trans l1 (by have : (20000 : Nat) ≤ sizeLine := by decide
                                               omega), q _ (by omega)⟩
  · have ty : TyX K H (.ref a) (.type "tuple") := by
      rcases ha with (ha | ⟨o, ha⟩) | ⟨o, its, n, h1, h2, _⟩
      · exact .base (.tup ha)
      · exact .fTuple ha
      · exact .kTuple h1 h2
    refine ⟨_, rfl, _, _, _, _, false, rfl, .ty _, ty, kit_ty (by decide +kernel), false, rfl, iteF (iteF ?_)⟩
    exact ⟨_, rfl, _, _, _, _, false, rfl, .ty _, ty, kit_ty (by decide +kernel), false, rfl, iteF (iteF dots)⟩
end
end K01

set_option Elab.async false
set_option linter.all false
set_option maxRecDepth 100000
set_option maxHeartbeats 4000000
namespace K01
open PySem L2 Og
def inCls (i j : Nat) : Stmt := match topS i with
  | .ClassDef _ _ _ body _ _ _ _ _ _ _ => body.getD j (.Pass ⟨0, 0, 0, 0⟩)
  | _ => .Pass ⟨0, 0, 0, 0⟩
abbrev s_initT : Stmt := inCls 5 0
theorem sc_initT : FnScope ["self", "line", "column"] ["self", "line", "column"] (defScope s_initT) := ⟨rfl, rfl, rfl, by decide +kernel, rfl, by decide +kernel, by decide +kernel⟩
/-- shown, as a raise wants to know it -/
structure ShownC (P : Program) (w : World) (K : PySem.W.Frag) (mg : Str → Option Value) (base : Heap) : Prop where
  ex : ∃ f fd, FnOk P w K mg base (L2.CX P w) 1 f fd ["field"] (spShown K) ∧ mg "shown" = some (.ref f) ∧ PySem.W.keepIn K (.ref f) = true ∧ Binds K fd ["field"] []
section
variable {P : Program} {w : World} {K : PySem.W.Frag} {mg : Str → Option Value} {base : Heap}
theorem app_le {a b : Str} {n m : Nat} (h1 : a.length ≤ n) (h2 : b.length ≤ m) : (a ++ b).length ≤ n + m := by
  rw [Str.length_append]
  omega
theorem line_up {n : Nat} (h : n ≤ 50000) : n ≤ sizeLine := Nat.le_trans h (by decide)
theorem ok_initT {f CT C : Addr} {fd : FuncData} (F : Fun K "__init__" "InvalidText.__init__" s_initT f fd) (hs : ShownC P w K mg base) (T : BaseC K CT) (hm : mg "TextError" = some (.ref CT)) (OC : OexC K C)
    (n1 : PySem.W.findIn K (.ref C) "line" = some none) (n2 : PySem.W.findIn K (.ref C) "column" = some none) : FnOk P w K mg base (L2.CX P w) 4 f fd ["self", "line", "column"] (spInit K C "line" "column") := by
  have e1 : (Str.empty ++ ("the text cannot be read: line " : Str)).length ≤ sizeLine := by decide +kernel
  have e0 : (Str.empty ++ ("the text cannot be read: line " : Str)).length ≤ 1000 := by decide +kernel
  have e2 : (", column " : Str).length ≤ 1000 := by decide +kernel
  obtain ⟨fs, fsd, F1, m1, k1, b1⟩ := hs.ex
  refine F.okX sc_initT (fun vs H Q E h => ?_) (fun cdv A outer s H vs Q E hr h => ?_)
  · obtain ⟨a, v, u, rfl, _⟩ := h
    rfl
  obtain ⟨a, v, u, rfl, ha, f1, f2, q⟩ := h
  refine ⟨_, pss_cons (ps_expr (pe_binit T rfl hm (pa_cons (pv 0) (pa_cons (pe_joined (.cons pe_str (.cons (pe_fmt (pe_call F1 (hr.mono (by decide)) rfl m1 k1 b1 .nil passL (pa_cons (pv 1) pa_nil))) (.cons pe_str (.cons (pe_fmt (pe_call F1 (hr.mono (by decide)) rfl m1 k1 b1 .nil passL (pa_cons (pv 2) pa_nil))) .nil))))) pa_nil))))
    (pss_cons (ps_ost (pv 0) (pv 1)) (pss_one (ps_ost (pv 0) (pv 2)))), ?_⟩
  refine ⟨_, rfl, _, rfl, e1, _, rfl, v, rfl, f1, fun y1 h1 => .inl ⟨y1, rfl, line_up (by omega), _, rfl, ?_, _, rfl, ?_, _, rfl, u, rfl, f2, fun y2 h2 => .inl ⟨y2, rfl, line_up (by omega), _, rfl, ?_, ?_⟩⟩⟩
  · exact line_up (Nat.le_trans (app_le e0 h1) (by decide))
  · exact line_up (Nat.le_trans (app_le (app_le e0 h1) e2) (by decide))
  · exact line_up (Nat.le_trans (app_le (app_le (app_le e0 h1) e2) h2) (by decide))
  refine ⟨a, C, _, rfl, by show 1 ≤ 1000; decide, OC, ha, ?_⟩
  refine ⟨_, rfl, _, rfl, a, C, rfl, OC, n1, .inl ⟨ha, fun d hd nd => ?_⟩⟩
  refine ⟨_, rfl, _, rfl, a, C, rfl, OC, n2, .inr ⟨d, [("line", v)], upd_same, ?_, by show 1 ≤ 900; decide, q d hd nd⟩⟩
  rw [upd_ne nd, upd_same]
end
end K01

set_option Elab.async false
set_option linter.all false
set_option maxRecDepth 100000
set_option maxHeartbeats 4000000
namespace K01
open PySem L2 Og
abbrev s_begun : Stmt := topS 35
theorem sc_begun : FnScope ["_law_script", "_law_cell"] ["_law_script"] (defScope s_begun) := ⟨rfl, rfl, rfl, by decide +kernel, rfl, by decide +kernel, by decide +kernel⟩
section
variable {P : Program} {w : World} {K : PySem.W.Frag} {mg : Str → Option Value} {base : Heap}
theorem ok_begun {f : Addr} {fd : FuncData} (F : Fun K "_law_begun" "_law_begun" s_begun f fd) (g1 : mg "int" = none) : FnOk P w K mg base (L2.CX P w) 1 f fd ["_law_script"] (spBegun K ks) := by
  refine F.okX sc_begun (fun vs H Q E h => ?_) (fun cdv A outer s H vs Q E hr h => ?_)
  · obtain ⟨a, ns, rfl, _⟩ := h
    rfl
  obtain ⟨a, ns, rfl, hs, q⟩ := h
  refine ⟨_, pss_one (ps_ret (pe_disp (pps_cons pe_str (pe_lc (own := [("_law_cell", 1)]) (g := gName 1) (tt := tYes) rfl sc_begun.nd (pi_list (pe_slice sl_list (pv 0) po_none (po_some pe_int))) (blkOk_by (by show blkC ["_law_script", "_law_cell"] (defScope s_begun) _ _ = true; decide +kernel))
    (fun s H C cl fp => pg_name (i := 1) sc_begun.nd rfl (by first | exact Or.inl rfl | exact Or.inr rfl) (by first | exact Or.inr rfl | exact Or.inl rfl)) (fun _ _ _ _ _ => pts_nil) (fun s H C cl fp => pe_callTy call_int1 rfl g1 (by decide +kernel) (pa_cons (pv 1) pa_nil)))
    (pps_cons pe_str pe_int (pps_cons pe_str pe_int (pps_cons pe_str pe_int pps_nil)))) rfl rfl (by simp) (by decide))), ?_⟩
  intro p hp
  have hs1 : SqL K (upd H p (.dK [])) a (ns.map V.int) := (show Same H (upd H p (.dK [])) from fun b o z => upd_keep hp z).seq hs
  refine ⟨_, rfl, 63, rfl, a, _, rfl, hs1, fun p2 hp2 => ?_⟩
  rw [cut63]
  have np : p2 ≠ p := fun z => by
    rw [z, upd_same] at hp2
    cases hp2
  refine ⟨p2, rfl, ⟨_, SqL.of upd_same⟩, fun D hD => ?_⟩
  have nD : D ≠ p2 := fun z => by
    rw [z, upd_same] at hD
    cases hD
  have nD2 : D ≠ p := fun z => by
    rw [z, upd_ne (Ne.symm np), upd_same] at hD
    cases hD
  have ln : ((ns.take 63).map V.int).length ≤ 63 := by
    rw [List.length_map]
    exact List.length_take_le _ _
  refine lc_it (walk_list (K := K) (a := p2) (xs := (ns.take 63).map V.int)) (Pv := fun i H => H p = some (.dK []) ∧ H p2 = some (.lst ((ns.take 63).map V.int)) ∧ H D = some (.lst (((ns.take 63).map V.int).take i))) ⟨?_, ?_, ?_⟩ (fun i H _ z => SqL.of z.2.1) (fun i x H1 H2 hi z y => ?_) fun H2 z => ?_
  · rw [upd_ne (Ne.symm nD2), upd_ne (Ne.symm np), upd_same]
  · rw [upd_ne (Ne.symm nD), upd_same]
  · rw [upd_same]
    rfl
  · obtain ⟨rfl, y⟩ := y
    obtain ⟨z1, z2, z3⟩ := z
    have y0 := y
    rw [List.getElem?_map] at y0
    obtain ⟨n, _, rfl⟩ := Option.map_eq_some_iff.mp y0
    refine ⟨rfl, ?_⟩
    unfold tYes
    dsimp only
    rw [if_pos rfl]
    refine ⟨V.int n, rfl, .inl ⟨n, rfl, _, z3, ?_, ?_, ?_, ?_⟩⟩
    · rw [List.length_take]
      have : (63 : Nat) < sizeLine := by decide
      omega
    · rw [upd_ne (Ne.symm nD2)]
      exact z1
    · rw [upd_ne (Ne.symm nD)]
      exact z2
    · have tk : ∀ xs : List V, xs[i]? = some (V.int n) → xs.take (i + 1) = xs.take i ++ [V.int n] := fun xs e => by rw [List.take_succ, e]; rfl
      rw [upd_same, tk _ y]
  · obtain ⟨z1, z2, z3⟩ := z
    rw [List.take_length] at z3
    refine ⟨z1, [(.inr "cells", .ref D), (.inr "next", .int 0), (.inr "left", .int 0), (.inr "count", .int 0)], rfl, by show 4 ≤ 15; decide, q p D _ (Ne.symm nD2) ⟨?_, ?_⟩⟩
    · rw [upd_same]
      rfl
    · rw [upd_ne nD2]
      exact z3
end
end K01

set_option Elab.async false
set_option linter.all false
set_option maxRecDepth 100000
set_option maxHeartbeats 4000000
namespace K01
open PySem L2 Og PyProof.Rows
theorem exmSelf {K : PySem.W.Frag} {S : Addr} (h1 : PySem.W.subIn K (.ref S) (.type "BaseException") = some true) (h2 : PySem.W.isClsIn K S = true) (h3 : PySem.W.typeIn K (.ref S) = some (.type "type")) (h4 : PySem.W.subIn K (.ref S) (.ref S) = some true) : PySem.W.exmOne K (.ref S) (.ref S) = some true := by
  have h2 : (PySem.W.clsIn K S).isSome = true := h2
  unfold PySem.W.exmOne PySem.W.kitCls
  simp [h1, h2, h3, h4]

theorem all_mk {P : Program} {w : World} {K : PySem.W.Frag} {h : Heap} {mg : Str → Option Value} {fa : Addr} {tk0 tk1 tk2 : Tok} (X : K.In h) (G : h.Ns mainGlobals mg) (hfa : mg "law" = some (.ref fa))
    {f0 : Addr} {od0 an0 : Option Addr} {sl0 : Array (Option Value)} {oc0 kV0 dc0 pm0 cd0 ct0 : Value}
    {f1 : Addr} {od1 an1 : Option Addr} {sl1 : Array (Option Value)} {oc1 kV1 dc1 pm1 cd1 ct1 : Value}
    {f2 : Addr} {od2 an2 : Option Addr} {sl2 : Array (Option Value)} {oc2 kV2 dc2 pm2 cd2 ct2 : Value}
    {f3 : Addr} {od3 an3 : Option Addr} {sl3 : Array (Option Value)} {oc3 kV3 dc3 pm3 cd3 ct3 : Value}
    {f4 : Addr} {od4 an4 : Option Addr} {sl4 : Array (Option Value)} {oc4 kV4 dc4 pm4 cd4 ct4 : Value}
    {f5 : Addr} {od5 an5 : Option Addr} {sl5 : Array (Option Value)} {oc5 kV5 dc5 pm5 cd5 ct5 : Value}
    {f6 : Addr} {od6 an6 : Option Addr} {sl6 : Array (Option Value)} {oc6 kV6 dc6 pm6 cd6 ct6 : Value}
    {f7 : Addr} {od7 an7 : Option Addr} {sl7 : Array (Option Value)} {oc7 kV7 dc7 pm7 cd7 ct7 : Value}
    {f8 : Addr} {od8 an8 : Option Addr} {sl8 : Array (Option Value)} {oc8 kV8 dc8 pm8 cd8 ct8 : Value}
    {f9 : Addr} {od9 an9 : Option Addr} {sl9 : Array (Option Value)} {oc9 kV9 dc9 pm9 cd9 ct9 : Value}
    {f10 : Addr} {od10 an10 : Option Addr} {sl10 : Array (Option Value)} {oc10 kV10 dc10 pm10 cd10 ct10 : Value}
    {f11 : Addr} {od11 an11 : Option Addr} {sl11 : Array (Option Value)} {oc11 kV11 dc11 pm11 cd11 ct11 : Value}
    {f12 : Addr} {od12 an12 : Option Addr} {sl12 : Array (Option Value)} {oc12 kV12 dc12 pm12 cd12 ct12 : Value}
    {f13 : Addr} {od13 an13 : Option Addr} {sl13 : Array (Option Value)} {oc13 kV13 dc13 pm13 cd13 ct13 : Value}
    {f14 : Addr} {od14 an14 : Option Addr} {sl14 : Array (Option Value)} {oc14 kV14 dc14 pm14 cd14 ct14 : Value}
    {f15 : Addr} {od15 an15 : Option Addr} {sl15 : Array (Option Value)} {oc15 kV15 dc15 pm15 cd15 ct15 : Value}
    {f16 : Addr} {od16 an16 : Option Addr} {sl16 : Array (Option Value)} {oc16 kV16 dc16 pm16 cd16 ct16 : Value}
    {f17 : Addr} {od17 an17 : Option Addr} {sl17 : Array (Option Value)} {oc17 kV17 dc17 pm17 cd17 ct17 : Value}
    {f18 : Addr} {od18 an18 : Option Addr} {sl18 : Array (Option Value)} {oc18 kV18 dc18 pm18 cd18 ct18 : Value}
    {f19 : Addr} {od19 an19 : Option Addr} {sl19 : Array (Option Value)} {oc19 kV19 dc19 pm19 cd19 ct19 : Value}
    {f20 : Addr} {od20 an20 : Option Addr} {sl20 : Array (Option Value)} {oc20 kV20 dc20 pm20 cd20 ct20 : Value}
    {f21 : Addr} {od21 an21 : Option Addr} {sl21 : Array (Option Value)} {oc21 kV21 dc21 pm21 cd21 ct21 : Value}
    {f22 : Addr} {od22 an22 : Option Addr} {sl22 : Array (Option Value)} {oc22 kV22 dc22 pm22 cd22 ct22 : Value}
    {f23 : Addr} {od23 an23 : Option Addr} {sl23 : Array (Option Value)} {oc23 kV23 dc23 pm23 cd23 ct23 : Value}
    {f24 : Addr} {od24 an24 : Option Addr} {sl24 : Array (Option Value)} {oc24 kV24 dc24 pm24 cd24 ct24 : Value}
    {f25 : Addr} {od25 an25 : Option Addr} {sl25 : Array (Option Value)} {oc25 kV25 dc25 pm25 cd25 ct25 : Value}
    {f26 : Addr} {od26 an26 : Option Addr} {sl26 : Array (Option Value)} {oc26 kV26 dc26 pm26 cd26 ct26 : Value}
    {f27 : Addr} {od27 an27 : Option Addr} {sl27 : Array (Option Value)} {oc27 kV27 dc27 pm27 cd27 ct27 : Value}
    {f28 : Addr} {od28 an28 : Option Addr} {sl28 : Array (Option Value)} {oc28 kV28 dc28 pm28 cd28 ct28 : Value}
    {f29 : Addr} {od29 an29 : Option Addr} {sl29 : Array (Option Value)} {oc29 kV29 dc29 pm29 cd29 ct29 : Value}
    {f30 : Addr} {od30 an30 : Option Addr} {sl30 : Array (Option Value)} {oc30 kV30 dc30 pm30 cd30 ct30 : Value}
    {f31 : Addr} {od31 an31 : Option Addr} {sl31 : Array (Option Value)} {oc31 kV31 dc31 pm31 cd31 ct31 : Value}
    {f32 : Addr} {od32 an32 : Option Addr} {sl32 : Array (Option Value)} {oc32 kV32 dc32 pm32 cd32 ct32 : Value}
    {f33 : Addr} {od33 an33 : Option Addr} {sl33 : Array (Option Value)} {oc33 kV33 dc33 pm33 cd33 ct33 : Value}
    {f34 : Addr} {od34 an34 : Option Addr} {sl34 : Array (Option Value)} {oc34 kV34 dc34 pm34 cd34 ct34 : Value}
    {f35 : Addr} {od35 an35 : Option Addr} {sl35 : Array (Option Value)} {oc35 kV35 dc35 pm35 cd35 ct35 : Value}
    {f36 : Addr} {od36 an36 : Option Addr} {sl36 : Array (Option Value)} {oc36 kV36 dc36 pm36 cd36 ct36 : Value}
    {f37 : Addr} {od37 an37 : Option Addr} {sl37 : Array (Option Value)} {oc37 kV37 dc37 pm37 cd37 ct37 : Value}
    {f38 : Addr} {od38 an38 : Option Addr} {sl38 : Array (Option Value)} {oc38 kV38 dc38 pm38 cd38 ct38 : Value}
    {f39 : Addr} {od39 an39 : Option Addr} {sl39 : Array (Option Value)} {oc39 kV39 dc39 pm39 cd39 ct39 : Value}
    {f40 : Addr} {od40 an40 : Option Addr} {sl40 : Array (Option Value)} {oc40 kV40 dc40 pm40 cd40 ct40 : Value}
    {f41 : Addr} {od41 an41 : Option Addr} {sl41 : Array (Option Value)} {oc41 kV41 dc41 pm41 cd41 ct41 : Value}
    {f42 : Addr} {od42 an42 : Option Addr} {sl42 : Array (Option Value)} {oc42 kV42 dc42 pm42 cd42 ct42 : Value}
    {f43 : Addr} {od43 an43 : Option Addr} {sl43 : Array (Option Value)} {oc43 kV43 dc43 pm43 cd43 ct43 : Value}
    {f44 : Addr} {od44 an44 : Option Addr} {sl44 : Array (Option Value)} {oc44 kV44 dc44 pm44 cd44 ct44 : Value}
    {f45 : Addr} {od45 an45 : Option Addr} {sl45 : Array (Option Value)} {oc45 kV45 dc45 pm45 cd45 ct45 : Value}
    {f46 : Addr} {od46 an46 : Option Addr} {sl46 : Array (Option Value)} {oc46 kV46 dc46 pm46 cd46 ct46 : Value}
    {CT CBT fT : Addr} {odT anT : Option Addr} {slT : Array (Option Value)} {ocT kVT dcT pmT cdT ctT : Value}
    {nmT qT : Str} {NT : Addr} {bsT bmT subT : List Value} {snT : List Str} {abT : Bool} {colT : Option Bool} {ddT : Option Addr} {h0T h1T h2T h3T h5T : Option Value}
    (a0 : PySem.W.nsIn K mainGlobals "shown" = some (some (.ref f0)))
    (l0 : K.lookup f0 = some ⟨oc0, od0, .func (PySem.W.fnOf "shown" "shown" (defArgs s_shown) (defBody s_shown) (defScope s_shown) .none kV0 dc0 pm0 an0 cd0 ct0), sl0⟩)
    (c0 : PySem.W.codeIn K cd0 "shown" = true)
    (k0 : PySem.W.keepIn K (.ref f0) = true)
    (a1 : PySem.W.nsIn K mainGlobals "common_length" = some (some (.ref f1)))
    (l1 : K.lookup f1 = some ⟨oc1, od1, .func (PySem.W.fnOf "common_length" "common_length" (defArgs s_p_common_length) (defBody s_p_common_length) (defScope s_p_common_length) .none kV1 dc1 pm1 an1 cd1 ct1), sl1⟩)
    (c1 : PySem.W.codeIn K cd1 "common_length" = true)
    (k1 : PySem.W.keepIn K (.ref f1) = true)
    (a2 : PySem.W.nsIn K mainGlobals "word_end" = some (some (.ref f2)))
    (l2 : K.lookup f2 = some ⟨oc2, od2, .func (PySem.W.fnOf "word_end" "word_end" (defArgs s_p_word_end) (defBody s_p_word_end) (defScope s_p_word_end) .none kV2 dc2 pm2 an2 cd2 ct2), sl2⟩)
    (c2 : PySem.W.codeIn K cd2 "word_end" = true)
    (k2 : PySem.W.keepIn K (.ref f2) = true)
    (a3 : PySem.W.nsIn K mainGlobals "run_end" = some (some (.ref f3)))
    (l3 : K.lookup f3 = some ⟨oc3, od3, .func (PySem.W.fnOf "run_end" "run_end" (defArgs s_p_run_end) (defBody s_p_run_end) (defScope s_p_run_end) .none kV3 dc3 pm3 an3 cd3 ct3), sl3⟩)
    (c3 : PySem.W.codeIn K cd3 "run_end" = true)
    (k3 : PySem.W.keepIn K (.ref f3) = true)
    (a4 : PySem.W.nsIn K mainGlobals "name_end" = some (some (.ref f4)))
    (l4 : K.lookup f4 = some ⟨oc4, od4, .func (PySem.W.fnOf "name_end" "name_end" (defArgs s_p_name_end) (defBody s_p_name_end) (defScope s_p_name_end) .none kV4 dc4 pm4 an4 cd4 ct4), sl4⟩)
    (c4 : PySem.W.codeIn K cd4 "name_end" = true)
    (k4 : PySem.W.keepIn K (.ref f4) = true)
    (a5 : PySem.W.nsIn K mainGlobals "kind_end" = some (some (.ref f5)))
    (l5 : K.lookup f5 = some ⟨oc5, od5, .func (PySem.W.fnOf "kind_end" "kind_end" (defArgs s_p_kind_end) (defBody s_p_kind_end) (defScope s_p_kind_end) .none kV5 dc5 pm5 an5 cd5 ct5), sl5⟩)
    (c5 : PySem.W.codeIn K cd5 "kind_end" = true)
    (k5 : PySem.W.keepIn K (.ref f5) = true)
    (a6 : PySem.W.nsIn K mainGlobals "is_integer" = some (some (.ref f6)))
    (l6 : K.lookup f6 = some ⟨oc6, od6, .func (PySem.W.fnOf "is_integer" "is_integer" (defArgs s_p_is_integer) (defBody s_p_is_integer) (defScope s_p_is_integer) .none kV6 dc6 pm6 an6 cd6 ct6), sl6⟩)
    (c6 : PySem.W.codeIn K cd6 "is_integer" = true)
    (k6 : PySem.W.keepIn K (.ref f6) = true)
    (a7 : PySem.W.nsIn K mainGlobals "is_number" = some (some (.ref f7)))
    (l7 : K.lookup f7 = some ⟨oc7, od7, .func (PySem.W.fnOf "is_number" "is_number" (defArgs s_p_is_number) (defBody s_p_is_number) (defScope s_p_is_number) .none kV7 dc7 pm7 an7 cd7 ct7), sl7⟩)
    (c7 : PySem.W.codeIn K cd7 "is_number" = true)
    (k7 : PySem.W.keepIn K (.ref f7) = true)
    (a8 : PySem.W.nsIn K mainGlobals "is_name" = some (some (.ref f8)))
    (l8 : K.lookup f8 = some ⟨oc8, od8, .func (PySem.W.fnOf "is_name" "is_name" (defArgs s_p_is_name) (defBody s_p_is_name) (defScope s_p_is_name) .none kV8 dc8 pm8 an8 cd8 ct8), sl8⟩)
    (c8 : PySem.W.codeIn K cd8 "is_name" = true)
    (k8 : PySem.W.keepIn K (.ref f8) = true)
    (a9 : PySem.W.nsIn K mainGlobals "is_kind" = some (some (.ref f9)))
    (l9 : K.lookup f9 = some ⟨oc9, od9, .func (PySem.W.fnOf "is_kind" "is_kind" (defArgs s_p_is_kind) (defBody s_p_is_kind) (defScope s_p_is_kind) .none kV9 dc9 pm9 an9 cd9 ct9), sl9⟩)
    (c9 : PySem.W.codeIn K cd9 "is_kind" = true)
    (k9 : PySem.W.keepIn K (.ref f9) = true)
    (a10 : PySem.W.nsIn K mainGlobals "is_row" = some (some (.ref f10)))
    (l10 : K.lookup f10 = some ⟨oc10, od10, .func (PySem.W.fnOf "is_row" "is_row" (defArgs s_p_is_row) (defBody s_p_is_row) (defScope s_p_is_row) .none kV10 dc10 pm10 an10 cd10 ct10), sl10⟩)
    (c10 : PySem.W.codeIn K cd10 "is_row" = true)
    (k10 : PySem.W.keepIn K (.ref f10) = true)
    (a11 : PySem.W.nsIn K mainGlobals "is_ascending" = some (some (.ref f11)))
    (l11 : K.lookup f11 = some ⟨oc11, od11, .func (PySem.W.fnOf "is_ascending" "is_ascending" (defArgs s_p_is_ascending) (defBody s_p_is_ascending) (defScope s_p_is_ascending) .none kV11 dc11 pm11 an11 cd11 ct11), sl11⟩)
    (c11 : PySem.W.codeIn K cd11 "is_ascending" = true)
    (k11 : PySem.W.keepIn K (.ref f11) = true)
    (a12 : PySem.W.nsIn K mainGlobals "is_entry" = some (some (.ref f12)))
    (l12 : K.lookup f12 = some ⟨oc12, od12, .func (PySem.W.fnOf "is_entry" "is_entry" (defArgs s_p_is_entry) (defBody s_p_is_entry) (defScope s_p_is_entry) .none kV12 dc12 pm12 an12 cd12 ct12), sl12⟩)
    (c12 : PySem.W.codeIn K cd12 "is_entry" = true)
    (k12 : PySem.W.keepIn K (.ref f12) = true)
    (a13 : PySem.W.nsIn K mainGlobals "are_entries" = some (some (.ref f13)))
    (l13 : K.lookup f13 = some ⟨oc13, od13, .func (PySem.W.fnOf "are_entries" "are_entries" (defArgs s_p_are_entries) (defBody s_p_are_entries) (defScope s_p_are_entries) .none kV13 dc13 pm13 an13 cd13 ct13), sl13⟩)
    (c13 : PySem.W.codeIn K cd13 "are_entries" = true)
    (k13 : PySem.W.keepIn K (.ref f13) = true)
    (a14 : PySem.W.nsIn K mainGlobals "names_of" = some (some (.ref f14)))
    (l14 : K.lookup f14 = some ⟨oc14, od14, .func (PySem.W.fnOf "names_of" "names_of" (defArgs s_p_names_of) (defBody s_p_names_of) (defScope s_p_names_of) .none kV14 dc14 pm14 an14 cd14 ct14), sl14⟩)
    (c14 : PySem.W.codeIn K cd14 "names_of" = true)
    (k14 : PySem.W.keepIn K (.ref f14) = true)
    (a15 : PySem.W.nsIn K mainGlobals "is_book" = some (some (.ref f15)))
    (l15 : K.lookup f15 = some ⟨oc15, od15, .func (PySem.W.fnOf "is_book" "is_book" (defArgs s_p_is_book) (defBody s_p_is_book) (defScope s_p_is_book) .none kV15 dc15 pm15 an15 cd15 ct15), sl15⟩)
    (c15 : PySem.W.codeIn K cd15 "is_book" = true)
    (k15 : PySem.W.keepIn K (.ref f15) = true)
    (a16 : PySem.W.nsIn K mainGlobals "has_maker_form" = some (some (.ref f16)))
    (l16 : K.lookup f16 = some ⟨oc16, od16, .func (PySem.W.fnOf "has_maker_form" "has_maker_form" (defArgs s_p_has_maker_form) (defBody s_p_has_maker_form) (defScope s_p_has_maker_form) .none kV16 dc16 pm16 an16 cd16 ct16), sl16⟩)
    (c16 : PySem.W.codeIn K cd16 "has_maker_form" = true)
    (k16 : PySem.W.keepIn K (.ref f16) = true)
    (a17 : PySem.W.nsIn K mainGlobals "is_maker" = some (some (.ref f17)))
    (l17 : K.lookup f17 = some ⟨oc17, od17, .func (PySem.W.fnOf "is_maker" "is_maker" (defArgs s_p_is_maker) (defBody s_p_is_maker) (defScope s_p_is_maker) .none kV17 dc17 pm17 an17 cd17 ct17), sl17⟩)
    (c17 : PySem.W.codeIn K cd17 "is_maker" = true)
    (k17 : PySem.W.keepIn K (.ref f17) = true)
    (a18 : PySem.W.nsIn K mainGlobals "has_call_form" = some (some (.ref f18)))
    (l18 : K.lookup f18 = some ⟨oc18, od18, .func (PySem.W.fnOf "has_call_form" "has_call_form" (defArgs s_p_has_call_form) (defBody s_p_has_call_form) (defScope s_p_has_call_form) .none kV18 dc18 pm18 an18 cd18 ct18), sl18⟩)
    (c18 : PySem.W.codeIn K cd18 "has_call_form" = true)
    (k18 : PySem.W.keepIn K (.ref f18) = true)
    (a19 : PySem.W.nsIn K mainGlobals "has_fun_form" = some (some (.ref f19)))
    (l19 : K.lookup f19 = some ⟨oc19, od19, .func (PySem.W.fnOf "has_fun_form" "has_fun_form" (defArgs s_p_has_fun_form) (defBody s_p_has_fun_form) (defScope s_p_has_fun_form) .none kV19 dc19 pm19 an19 cd19 ct19), sl19⟩)
    (c19 : PySem.W.codeIn K cd19 "has_fun_form" = true)
    (k19 : PySem.W.keepIn K (.ref f19) = true)
    (a20 : PySem.W.nsIn K mainGlobals "has_term_form" = some (some (.ref f20)))
    (l20 : K.lookup f20 = some ⟨oc20, od20, .func (PySem.W.fnOf "has_term_form" "has_term_form" (defArgs s_p_has_term_form) (defBody s_p_has_term_form) (defScope s_p_has_term_form) .none kV20 dc20 pm20 an20 cd20 ct20), sl20⟩)
    (c20 : PySem.W.codeIn K cd20 "has_term_form" = true)
    (k20 : PySem.W.keepIn K (.ref f20) = true)
    (a21 : PySem.W.nsIn K mainGlobals "inner_terms" = some (some (.ref f21)))
    (l21 : K.lookup f21 = some ⟨oc21, od21, .func (PySem.W.fnOf "inner_terms" "inner_terms" (defArgs s_p_inner_terms) (defBody s_p_inner_terms) (defScope s_p_inner_terms) .none kV21 dc21 pm21 an21 cd21 ct21), sl21⟩)
    (c21 : PySem.W.codeIn K cd21 "inner_terms" = true)
    (k21 : PySem.W.keepIn K (.ref f21) = true)
    (a22 : PySem.W.nsIn K mainGlobals "is_term" = some (some (.ref f22)))
    (l22 : K.lookup f22 = some ⟨oc22, od22, .func (PySem.W.fnOf "is_term" "is_term" (defArgs s_p_is_term) (defBody s_p_is_term) (defScope s_p_is_term) .none kV22 dc22 pm22 an22 cd22 ct22), sl22⟩)
    (c22 : PySem.W.codeIn K cd22 "is_term" = true)
    (k22 : PySem.W.keepIn K (.ref f22) = true)
    (a23 : PySem.W.nsIn K mainGlobals "is_kind_set" = some (some (.ref f23)))
    (l23 : K.lookup f23 = some ⟨oc23, od23, .func (PySem.W.fnOf "is_kind_set" "is_kind_set" (defArgs s_p_is_kind_set) (defBody s_p_is_kind_set) (defScope s_p_is_kind_set) .none kV23 dc23 pm23 an23 cd23 ct23), sl23⟩)
    (c23 : PySem.W.codeIn K cd23 "is_kind_set" = true)
    (k23 : PySem.W.keepIn K (.ref f23) = true)
    (a24 : PySem.W.nsIn K mainGlobals "is_stand" = some (some (.ref f24)))
    (l24 : K.lookup f24 = some ⟨oc24, od24, .func (PySem.W.fnOf "is_stand" "is_stand" (defArgs s_p_is_stand) (defBody s_p_is_stand) (defScope s_p_is_stand) .none kV24 dc24 pm24 an24 cd24 ct24), sl24⟩)
    (c24 : PySem.W.codeIn K cd24 "is_stand" = true)
    (k24 : PySem.W.keepIn K (.ref f24) = true)
    (a25 : PySem.W.nsIn K mainGlobals "_law_draw" = some (some (.ref f25)))
    (l25 : K.lookup f25 = some ⟨oc25, od25, .func (PySem.W.fnOf "_law_draw" "_law_draw" (defArgs s_l_draw) (defBody s_l_draw) (defScope s_l_draw) .none kV25 dc25 pm25 an25 cd25 ct25), sl25⟩)
    (c25 : PySem.W.codeIn K cd25 "_law_draw" = true)
    (k25 : PySem.W.keepIn K (.ref f25) = true)
    (a26 : PySem.W.nsIn K mainGlobals "_law_pick" = some (some (.ref f26)))
    (l26 : K.lookup f26 = some ⟨oc26, od26, .func (PySem.W.fnOf "_law_pick" "_law_pick" (defArgs s_l_pick) (defBody s_l_pick) (defScope s_l_pick) .none kV26 dc26 pm26 an26 cd26 ct26), sl26⟩)
    (c26 : PySem.W.codeIn K cd26 "_law_pick" = true)
    (k26 : PySem.W.keepIn K (.ref f26) = true)
    (a27 : PySem.W.nsIn K mainGlobals "_law_title" = some (some (.ref f27)))
    (l27 : K.lookup f27 = some ⟨oc27, od27, .func (PySem.W.fnOf "_law_title" "_law_title" (defArgs s_l_title) (defBody s_l_title) (defScope s_l_title) .none kV27 dc27 pm27 an27 cd27 ct27), sl27⟩)
    (c27 : PySem.W.codeIn K cd27 "_law_title" = true)
    (k27 : PySem.W.keepIn K (.ref f27) = true)
    (a28 : PySem.W.nsIn K mainGlobals "_law_tree" = some (some (.ref f28)))
    (l28 : K.lookup f28 = some ⟨oc28, od28, .func (PySem.W.fnOf "_law_tree" "_law_tree" (defArgs s_l_tree) (defBody s_l_tree) (defScope s_l_tree) .none kV28 dc28 pm28 an28 cd28 ct28), sl28⟩)
    (c28 : PySem.W.codeIn K cd28 "_law_tree" = true)
    (k28 : PySem.W.keepIn K (.ref f28) = true)
    (a29 : PySem.W.nsIn K mainGlobals "_law_spelled" = some (some (.ref f29)))
    (l29 : K.lookup f29 = some ⟨oc29, od29, .func (PySem.W.fnOf "_law_spelled" "_law_spelled" (defArgs s_l_spelled) (defBody s_l_spelled) (defScope s_l_spelled) .none kV29 dc29 pm29 an29 cd29 ct29), sl29⟩)
    (c29 : PySem.W.codeIn K cd29 "_law_spelled" = true)
    (k29 : PySem.W.keepIn K (.ref f29) = true)
    (a30 : PySem.W.nsIn K mainGlobals "_law_is_title" = some (some (.ref f30)))
    (l30 : K.lookup f30 = some ⟨oc30, od30, .func (PySem.W.fnOf "_law_is_title" "_law_is_title" (defArgs s_l_is_title) (defBody s_l_is_title) (defScope s_l_is_title) .none kV30 dc30 pm30 an30 cd30 ct30), sl30⟩)
    (c30 : PySem.W.codeIn K cd30 "_law_is_title" = true)
    (k30 : PySem.W.keepIn K (.ref f30) = true)
    (a31 : PySem.W.nsIn K mainGlobals "_law_pieces" = some (some (.ref f31)))
    (l31 : K.lookup f31 = some ⟨oc31, od31, .func (PySem.W.fnOf "_law_pieces" "_law_pieces" (defArgs s_l_pieces) (defBody s_l_pieces) (defScope s_l_pieces) .none kV31 dc31 pm31 an31 cd31 ct31), sl31⟩)
    (c31 : PySem.W.codeIn K cd31 "_law_pieces" = true)
    (k31 : PySem.W.keepIn K (.ref f31) = true)
    (a32 : PySem.W.nsIn K mainGlobals "_law_parsed" = some (some (.ref f32)))
    (l32 : K.lookup f32 = some ⟨oc32, od32, .func (PySem.W.fnOf "_law_parsed" "_law_parsed" (defArgs s_l_parsed) (defBody s_l_parsed) (defScope s_l_parsed) .none kV32 dc32 pm32 an32 cd32 ct32), sl32⟩)
    (c32 : PySem.W.codeIn K cd32 "_law_parsed" = true)
    (k32 : PySem.W.keepIn K (.ref f32) = true)
    (a33 : PySem.W.nsIn K mainGlobals "_law_strange" = some (some (.ref f33)))
    (l33 : K.lookup f33 = some ⟨oc33, od33, .func (PySem.W.fnOf "_law_strange" "_law_strange" (defArgs s_l_strange) (defBody s_l_strange) (defScope s_l_strange) .none kV33 dc33 pm33 an33 cd33 ct33), sl33⟩)
    (c33 : PySem.W.codeIn K cd33 "_law_strange" = true)
    (k33 : PySem.W.keepIn K (.ref f33) = true)
    (a34 : PySem.W.nsIn K mainGlobals "_law_spoilt" = some (some (.ref f34)))
    (l34 : K.lookup f34 = some ⟨oc34, od34, .func (PySem.W.fnOf "_law_spoilt" "_law_spoilt" (defArgs s_l_spoilt) (defBody s_l_spoilt) (defScope s_l_spoilt) .none kV34 dc34 pm34 an34 cd34 ct34), sl34⟩)
    (c34 : PySem.W.codeIn K cd34 "_law_spoilt" = true)
    (k34 : PySem.W.keepIn K (.ref f34) = true)
    (a35 : PySem.W.nsIn K mainGlobals "_law_maker" = some (some (.ref f35)))
    (l35 : K.lookup f35 = some ⟨oc35, od35, .func (PySem.W.fnOf "_law_maker" "_law_maker" (defArgs s_l_maker) (defBody s_l_maker) (defScope s_l_maker) .none kV35 dc35 pm35 an35 cd35 ct35), sl35⟩)
    (c35 : PySem.W.codeIn K cd35 "_law_maker" = true)
    (k35 : PySem.W.keepIn K (.ref f35) = true)
    (a36 : PySem.W.nsIn K mainGlobals "_law_term" = some (some (.ref f36)))
    (l36 : K.lookup f36 = some ⟨oc36, od36, .func (PySem.W.fnOf "_law_term" "_law_term" (defArgs s_l_term) (defBody s_l_term) (defScope s_l_term) .none kV36 dc36 pm36 an36 cd36 ct36), sl36⟩)
    (c36 : PySem.W.codeIn K cd36 "_law_term" = true)
    (k36 : PySem.W.keepIn K (.ref f36) = true)
    (a37 : PySem.W.nsIn K mainGlobals "_law_is_number" = some (some (.ref f37)))
    (l37 : K.lookup f37 = some ⟨oc37, od37, .func (PySem.W.fnOf "_law_is_number" "_law_is_number" (defArgs s_l_is_number) (defBody s_l_is_number) (defScope s_l_is_number) .none kV37 dc37 pm37 an37 cd37 ct37), sl37⟩)
    (c37 : PySem.W.codeIn K cd37 "_law_is_number" = true)
    (k37 : PySem.W.keepIn K (.ref f37) = true)
    (a38 : PySem.W.nsIn K mainGlobals "_law_is_maker" = some (some (.ref f38)))
    (l38 : K.lookup f38 = some ⟨oc38, od38, .func (PySem.W.fnOf "_law_is_maker" "_law_is_maker" (defArgs s_l_is_maker) (defBody s_l_is_maker) (defScope s_l_is_maker) .none kV38 dc38 pm38 an38 cd38 ct38), sl38⟩)
    (c38 : PySem.W.codeIn K cd38 "_law_is_maker" = true)
    (k38 : PySem.W.keepIn K (.ref f38) = true)
    (a39 : PySem.W.nsIn K mainGlobals "_law_is_entry" = some (some (.ref f39)))
    (l39 : K.lookup f39 = some ⟨oc39, od39, .func (PySem.W.fnOf "_law_is_entry" "_law_is_entry" (defArgs s_l_is_entry) (defBody s_l_is_entry) (defScope s_l_is_entry) .none kV39 dc39 pm39 an39 cd39 ct39), sl39⟩)
    (c39 : PySem.W.codeIn K cd39 "_law_is_entry" = true)
    (k39 : PySem.W.keepIn K (.ref f39) = true)
    (a40 : PySem.W.nsIn K mainGlobals "_law_is_term" = some (some (.ref f40)))
    (l40 : K.lookup f40 = some ⟨oc40, od40, .func (PySem.W.fnOf "_law_is_term" "_law_is_term" (defArgs s_l_is_term) (defBody s_l_is_term) (defScope s_l_is_term) .none kV40 dc40 pm40 an40 cd40 ct40), sl40⟩)
    (c40 : PySem.W.codeIn K cd40 "_law_is_term" = true)
    (k40 : PySem.W.keepIn K (.ref f40) = true)
    (a41 : PySem.W.nsIn K mainGlobals "_law_is_book" = some (some (.ref f41)))
    (l41 : K.lookup f41 = some ⟨oc41, od41, .func (PySem.W.fnOf "_law_is_book" "_law_is_book" (defArgs s_l_is_book) (defBody s_l_is_book) (defScope s_l_is_book) .none kV41 dc41 pm41 an41 cd41 ct41), sl41⟩)
    (c41 : PySem.W.codeIn K cd41 "_law_is_book" = true)
    (k41 : PySem.W.keepIn K (.ref f41) = true)
    (a42 : PySem.W.nsIn K mainGlobals "_law_is_stand" = some (some (.ref f42)))
    (l42 : K.lookup f42 = some ⟨oc42, od42, .func (PySem.W.fnOf "_law_is_stand" "_law_is_stand" (defArgs s_l_is_stand) (defBody s_l_is_stand) (defScope s_l_is_stand) .none kV42 dc42 pm42 an42 cd42 ct42), sl42⟩)
    (c42 : PySem.W.codeIn K cd42 "_law_is_stand" = true)
    (k42 : PySem.W.keepIn K (.ref f42) = true)
    (a43 : PySem.W.nsIn K mainGlobals "_law_due" = some (some (.ref f43)))
    (l43 : K.lookup f43 = some ⟨oc43, od43, .func (PySem.W.fnOf "_law_due" "_law_due" (defArgs s_l_due) (defBody s_l_due) (defScope s_l_due) .none kV43 dc43 pm43 an43 cd43 ct43), sl43⟩)
    (c43 : PySem.W.codeIn K cd43 "_law_due" = true)
    (k43 : PySem.W.keepIn K (.ref f43) = true)
    (a44 : PySem.W.nsIn K mainGlobals "_law_told" = some (some (.ref f44)))
    (l44 : K.lookup f44 = some ⟨oc44, od44, .func (PySem.W.fnOf "_law_told" "_law_told" (defArgs s_l_told) (defBody s_l_told) (defScope s_l_told) .none kV44 dc44 pm44 an44 cd44 ct44), sl44⟩)
    (c44 : PySem.W.codeIn K cd44 "_law_told" = true)
    (k44 : PySem.W.keepIn K (.ref f44) = true)
    (a45 : PySem.W.nsIn K mainGlobals "_law_begun" = some (some (.ref f45)))
    (l45 : K.lookup f45 = some ⟨oc45, od45, .func (PySem.W.fnOf "_law_begun" "_law_begun" (defArgs s_begun) (defBody s_begun) (defScope s_begun) .none kV45 dc45 pm45 an45 cd45 ct45), sl45⟩)
    (c45 : PySem.W.codeIn K cd45 "_law_begun" = true)
    (k45 : PySem.W.keepIn K (.ref f45) = true)
    (a46 : PySem.W.nsIn K mainGlobals "law" = some (some (.ref f46)))
    (l46 : K.lookup f46 = some ⟨oc46, od46, .func (PySem.W.fnOf "law" "law" (defArgs s_p_law) (defBody s_p_law) (defScope s_p_law) .none kV46 dc46 pm46 an46 cd46 ct46), sl46⟩)
    (c46 : PySem.W.codeIn K cd46 "law" = true)
    (k46 : PySem.W.keepIn K (.ref f46) = true)
    (aCT : PySem.W.nsIn K mainGlobals "InvalidText" = some (some (.ref CT)))
    (aBT : PySem.W.nsIn K mainGlobals "TextError" = some (some (.ref CBT)))
    (aT : PySem.W.findIn K (.ref CT) "__init__" = some (some (.ref fT)))
    (iT : PySem.W.typeIn K (.ref fT) = some (.type "function"))
    (lT : K.lookup fT = some ⟨ocT, odT, .func (PySem.W.fnOf "__init__" "InvalidText.__init__" (defArgs s_initT) (defBody s_initT) (defScope s_initT) .none kVT dcT pmT anT cdT ctT), slT⟩)
    (cT : PySem.W.codeIn K cdT "InvalidText.__init__" = true)
    (kT : PySem.W.keepIn K (.ref fT) = true)
    (gaT : PySem.W.specialIn K (.ref CBT) "__getattribute__" = some (some (.builtin "type.__getattribute__")))
    (rdT : PySem.W.readsIn K CBT (.type "type") = true)
    (iniT : PySem.W.findCls K (.ref CBT) (.type "type") "__init__" = some (.val (.builtin "ValueError.__init__")))
    (oxT : K.lookup CT = some (excClassObj nmT qT CT NT bsT bmT true snT subT abT colT ddT h0T h1T h2T h3T h5T "ValueError.__new__"))
    (reT : PySem.HandSPX.refsVE bmT = true)
    (saT : PySem.W.findIn K (.ref CT) "__setattr__" = some (some (.builtin "object.__setattr__")))
    (exT : PySem.W.subIn K (.ref CT) (.type "BaseException") = some true)
    (tyT : PySem.W.typeIn K (.ref CT) = some (.type "type"))
    (kCT : PySem.W.keepIn K (.ref CT) = true)
    (n1T : PySem.W.findIn K (.ref CT) "line" = some none)
    (n2T : PySem.W.findIn K (.ref CT) "column" = some none)
    (isT : PySem.W.isClsIn K CT = true)
    (sfT : PySem.W.subIn K (.ref CT) (.ref CT) = some true)
    (z_len : PySem.W.nsIn K mainGlobals "len" = some none)
    (z_int : PySem.W.nsIn K mainGlobals "int" = some none)
    (z_str : PySem.W.nsIn K mainGlobals "str" = some none)
    (z_tuple : PySem.W.nsIn K mainGlobals "tuple" = some none)
    (z_list : PySem.W.nsIn K mainGlobals "list" = some none)
    (z_repr : PySem.W.nsIn K mainGlobals "repr" = some none)
    (z_isinstance : PySem.W.nsIn K mainGlobals "isinstance" = some none)
    (z_range : PySem.W.nsIn K mainGlobals "range" = some none)
    (z_sorted : PySem.W.nsIn K mainGlobals "sorted" = some none)
    (z_set : PySem.W.nsIn K mainGlobals "set" = some none)
    (z_all : PySem.W.nsIn K mainGlobals "all" = some none)
    (z_zip : PySem.W.nsIn K mainGlobals "zip" = some none)
    (z_bool : PySem.W.nsIn K mainGlobals "bool" = some none)
    (v_LETTERS : PySem.W.nsIn K mainGlobals "LETTERS" = some (some (.str "abcdefghijklmnopqrstuvwxyz" tk0)))
    (v_LONGEST_NAME : PySem.W.nsIn K mainGlobals "LONGEST_NAME" = some (some (.int 8 tk1)))
    (v_LONGEST_SHOWN : PySem.W.nsIn K mainGlobals "LONGEST_SHOWN" = some (some (.int 200 tk2))) :
    ∃ fd : FuncData, (∀ (s : Shared) (v : Value), BindsTo s fd ⟨[v], []⟩ [("_law_script", v)]) ∧ ∀ base : Heap, K.In base → base.Ns mainGlobals mg → FnG P w K mg base 229 fa fd ["_law_script"] (spLaw K 13 m_p_law) := by
  have e := hfa.symm.trans (PySem.W.mg_of X G a46)
  cases e
  have F0 := fun_mk (st := s_shown) l0 c0 k0
  have F1 := fun_mk (st := s_p_common_length) l1 c1 k1
  have F2 := fun_mk (st := s_p_word_end) l2 c2 k2
  have F3 := fun_mk (st := s_p_run_end) l3 c3 k3
  have F4 := fun_mk (st := s_p_name_end) l4 c4 k4
  have F5 := fun_mk (st := s_p_kind_end) l5 c5 k5
  have F6 := fun_mk (st := s_p_is_integer) l6 c6 k6
  have F7 := fun_mk (st := s_p_is_number) l7 c7 k7
  have F8 := fun_mk (st := s_p_is_name) l8 c8 k8
  have F9 := fun_mk (st := s_p_is_kind) l9 c9 k9
  have F10 := fun_mk (st := s_p_is_row) l10 c10 k10
  have F11 := fun_mk (st := s_p_is_ascending) l11 c11 k11
  have F12 := fun_mk (st := s_p_is_entry) l12 c12 k12
  have F13 := fun_mk (st := s_p_are_entries) l13 c13 k13
  have F14 := fun_mk (st := s_p_names_of) l14 c14 k14
  have F15 := fun_mk (st := s_p_is_book) l15 c15 k15
  have F16 := fun_mk (st := s_p_has_maker_form) l16 c16 k16
  have F17 := fun_mk (st := s_p_is_maker) l17 c17 k17
  have F18 := fun_mk (st := s_p_has_call_form) l18 c18 k18
  have F19 := fun_mk (st := s_p_has_fun_form) l19 c19 k19
  have F20 := fun_mk (st := s_p_has_term_form) l20 c20 k20
  have F21 := fun_mk (st := s_p_inner_terms) l21 c21 k21
  have F22 := fun_mk (st := s_p_is_term) l22 c22 k22
  have F23 := fun_mk (st := s_p_is_kind_set) l23 c23 k23
  have F24 := fun_mk (st := s_p_is_stand) l24 c24 k24
  have F25 := fun_mk (st := s_l_draw) l25 c25 k25
  have F26 := fun_mk (st := s_l_pick) l26 c26 k26
  have F27 := fun_mk (st := s_l_title) l27 c27 k27
  have F28 := fun_mk (st := s_l_tree) l28 c28 k28
  have F29 := fun_mk (st := s_l_spelled) l29 c29 k29
  have F30 := fun_mk (st := s_l_is_title) l30 c30 k30
  have F31 := fun_mk (st := s_l_pieces) l31 c31 k31
  have F32 := fun_mk (st := s_l_parsed) l32 c32 k32
  have F33 := fun_mk (st := s_l_strange) l33 c33 k33
  have F34 := fun_mk (st := s_l_spoilt) l34 c34 k34
  have F35 := fun_mk (st := s_l_maker) l35 c35 k35
  have F36 := fun_mk (st := s_l_term) l36 c36 k36
  have F37 := fun_mk (st := s_l_is_number) l37 c37 k37
  have F38 := fun_mk (st := s_l_is_maker) l38 c38 k38
  have F39 := fun_mk (st := s_l_is_entry) l39 c39 k39
  have F40 := fun_mk (st := s_l_is_term) l40 c40 k40
  have F41 := fun_mk (st := s_l_is_book) l41 c41 k41
  have F42 := fun_mk (st := s_l_is_stand) l42 c42 k42
  have F43 := fun_mk (st := s_l_due) l43 c43 k43
  have F44 := fun_mk (st := s_l_told) l44 c44 k44
  have F45 := fun_mk (st := s_begun) l45 c45 k45
  have F46 := fun_mk (st := s_p_law) l46 c46 k46
  have b0 := F0.binds (ps := ["field"]) fun _ _ _ _ _ _ us hl => match us, hl with | [_], _ => rfl
  have m0 := PySem.W.mg_of X G a0
  have b1 := F1.binds (ps := ["text", "word"]) fun _ _ _ _ _ _ us hl => match us, hl with | [_, _], _ => rfl
  have m1 := PySem.W.mg_of X G a1
  have b2 := F2.binds (ps := ["line", "text", "at", "word"]) fun _ _ _ _ _ _ us hl => match us, hl with | [_, _, _, _], _ => rfl
  have m2 := PySem.W.mg_of X G a2
  have b3 := F3.binds (ps := ["text", "at", "signs", "most"]) fun _ _ _ _ _ _ us hl => match us, hl with | [_, _, _, _], _ => rfl
  have m3 := PySem.W.mg_of X G a3
  have b4 := F4.binds (ps := ["line", "text", "at", "above"]) fun _ _ _ _ _ _ us hl => match us, hl with | [_, _, _, _], _ => rfl
  have m4 := PySem.W.mg_of X G a4
  have b5 := F5.binds (ps := ["line", "text", "at"]) fun _ _ _ _ _ _ us hl => match us, hl with | [_, _, _], _ => rfl
  have m5 := PySem.W.mg_of X G a5
  have b6 := F6.binds (ps := ["thing"]) fun _ _ _ _ _ _ us hl => match us, hl with | [_], _ => rfl
  have m6 := PySem.W.mg_of X G a6
  have b7 := F7.binds (ps := ["thing"]) fun _ _ _ _ _ _ us hl => match us, hl with | [_], _ => rfl
  have m7 := PySem.W.mg_of X G a7
  have b8 := F8.binds (ps := ["thing"]) fun _ _ _ _ _ _ us hl => match us, hl with | [_], _ => rfl
  have m8 := PySem.W.mg_of X G a8
  have b9 := F9.binds (ps := ["thing"]) fun _ _ _ _ _ _ us hl => match us, hl with | [_], _ => rfl
  have m9 := PySem.W.mg_of X G a9
  have b10 := F10.binds (ps := ["thing", "length"]) fun _ _ _ _ _ _ us hl => match us, hl with | [_, _], _ => rfl
  have m10 := PySem.W.mg_of X G a10
  have b11 := F11.binds (ps := ["row"]) fun _ _ _ _ _ _ us hl => match us, hl with | [_], _ => rfl
  have m11 := PySem.W.mg_of X G a11
  have b12 := F12.binds (ps := ["thing"]) fun _ _ _ _ _ _ us hl => match us, hl with | [_], _ => rfl
  have m12 := PySem.W.mg_of X G a12
  have b13 := F13.binds (ps := ["thing"]) fun _ _ _ _ _ _ us hl => match us, hl with | [_], _ => rfl
  have m13 := PySem.W.mg_of X G a13
  have b14 := F14.binds (ps := ["entries"]) fun _ _ _ _ _ _ us hl => match us, hl with | [_], _ => rfl
  have m14 := PySem.W.mg_of X G a14
  have b15 := F15.binds (ps := ["thing"]) fun _ _ _ _ _ _ us hl => match us, hl with | [_], _ => rfl
  have m15 := PySem.W.mg_of X G a15
  have b16 := F16.binds (ps := ["thing"]) fun _ _ _ _ _ _ us hl => match us, hl with | [_], _ => rfl
  have m16 := PySem.W.mg_of X G a16
  have b17 := F17.binds (ps := ["thing"]) fun _ _ _ _ _ _ us hl => match us, hl with | [_], _ => rfl
  have m17 := PySem.W.mg_of X G a17
  have b18 := F18.binds (ps := ["thing"]) fun _ _ _ _ _ _ us hl => match us, hl with | [_], _ => rfl
  have m18 := PySem.W.mg_of X G a18
  have b19 := F19.binds (ps := ["thing"]) fun _ _ _ _ _ _ us hl => match us, hl with | [_], _ => rfl
  have m19 := PySem.W.mg_of X G a19
  have b20 := F20.binds (ps := ["thing"]) fun _ _ _ _ _ _ us hl => match us, hl with | [_], _ => rfl
  have m20 := PySem.W.mg_of X G a20
  have b21 := F21.binds (ps := ["term"]) fun _ _ _ _ _ _ us hl => match us, hl with | [_], _ => rfl
  have m21 := PySem.W.mg_of X G a21
  have b22 := F22.binds (ps := ["thing"]) fun _ _ _ _ _ _ us hl => match us, hl with | [_], _ => rfl
  have m22 := PySem.W.mg_of X G a22
  have b23 := F23.binds (ps := ["thing"]) fun _ _ _ _ _ _ us hl => match us, hl with | [_], _ => rfl
  have m23 := PySem.W.mg_of X G a23
  have b24 := F24.binds (ps := ["thing"]) fun _ _ _ _ _ _ us hl => match us, hl with | [_], _ => rfl
  have m24 := PySem.W.mg_of X G a24
  have b25 := F25.binds (ps := ["_law_feed", "_law_many"]) fun _ _ _ _ _ _ us hl => match us, hl with | [_, _], _ => rfl
  have m25 := PySem.W.mg_of X G a25
  have b26 := F26.binds (ps := ["_law_feed", "_law_things"]) fun _ _ _ _ _ _ us hl => match us, hl with | [_, _], _ => rfl
  have m26 := PySem.W.mg_of X G a26
  have b27 := F27.binds (ps := ["_law_feed"]) fun _ _ _ _ _ _ us hl => match us, hl with | [_], _ => rfl
  have m27 := PySem.W.mg_of X G a27
  have b28 := F28.binds (ps := ["_law_feed", "_law_size"]) fun _ _ _ _ _ _ us hl => match us, hl with | [_, _], _ => rfl
  have m28 := PySem.W.mg_of X G a28
  have b29 := F29.binds (ps := ["_law_tree_here"]) fun _ _ _ _ _ _ us hl => match us, hl with | [_], _ => rfl
  have m29 := PySem.W.mg_of X G a29
  have b30 := F30.binds (ps := ["_law_item"]) fun _ _ _ _ _ _ us hl => match us, hl with | [_], _ => rfl
  have m30 := PySem.W.mg_of X G a30
  have b31 := F31.binds (ps := ["_law_word"]) fun _ _ _ _ _ _ us hl => match us, hl with | [_], _ => rfl
  have m31 := PySem.W.mg_of X G a31
  have b32 := F32.binds (ps := ["_law_item"]) fun _ _ _ _ _ _ us hl => match us, hl with | [_], _ => rfl
  have m32 := PySem.W.mg_of X G a32
  have b33 := F33.binds (ps := ["_law_feed"]) fun _ _ _ _ _ _ us hl => match us, hl with | [_], _ => rfl
  have m33 := PySem.W.mg_of X G a33
  have b34 := F34.binds (ps := ["_law_feed", "_law_item"]) fun _ _ _ _ _ _ us hl => match us, hl with | [_, _], _ => rfl
  have m34 := PySem.W.mg_of X G a34
  have b35 := F35.binds (ps := ["_law_feed", "_law_size"]) fun _ _ _ _ _ _ us hl => match us, hl with | [_, _], _ => rfl
  have m35 := PySem.W.mg_of X G a35
  have b36 := F36.binds (ps := ["_law_feed", "_law_size"]) fun _ _ _ _ _ _ us hl => match us, hl with | [_, _], _ => rfl
  have m36 := PySem.W.mg_of X G a36
  have b37 := F37.binds (ps := ["_law_item"]) fun _ _ _ _ _ _ us hl => match us, hl with | [_], _ => rfl
  have m37 := PySem.W.mg_of X G a37
  have b38 := F38.binds (ps := ["_law_item"]) fun _ _ _ _ _ _ us hl => match us, hl with | [_], _ => rfl
  have m38 := PySem.W.mg_of X G a38
  have b39 := F39.binds (ps := ["_law_item"]) fun _ _ _ _ _ _ us hl => match us, hl with | [_], _ => rfl
  have m39 := PySem.W.mg_of X G a39
  have b40 := F40.binds (ps := ["_law_item"]) fun _ _ _ _ _ _ us hl => match us, hl with | [_], _ => rfl
  have m40 := PySem.W.mg_of X G a40
  have b41 := F41.binds (ps := ["_law_item"]) fun _ _ _ _ _ _ us hl => match us, hl with | [_], _ => rfl
  have m41 := PySem.W.mg_of X G a41
  have b42 := F42.binds (ps := ["_law_item"]) fun _ _ _ _ _ _ us hl => match us, hl with | [_], _ => rfl
  have m42 := PySem.W.mg_of X G a42
  have b43 := F43.binds (ps := ["_law_item"]) fun _ _ _ _ _ _ us hl => match us, hl with | [_], _ => rfl
  have m43 := PySem.W.mg_of X G a43
  have b44 := F44.binds (ps := ["_law_item"]) fun _ _ _ _ _ _ us hl => match us, hl with | [_], _ => rfl
  have m44 := PySem.W.mg_of X G a44
  have b45 := F45.binds (ps := ["_law_script"]) fun _ _ _ _ _ _ us hl => match us, hl with | [_], _ => rfl
  have m45 := PySem.W.mg_of X G a45
  have b46 := F46.binds (ps := ["_law_script"]) fun _ _ _ _ _ _ us hl => match us, hl with | [_], _ => rfl
  have m46 := PySem.W.mg_of X G a46
  have FT := fun_mk (st := s_initT) lT cT kT
  have bT := FT.binds (ps := ["self", "line", "column"]) fun _ _ _ _ _ _ us hl => match us, hl with | [_, _, _], _ => rfl
  have OT : OexC K CT := ⟨⟨_, _, _, _, _, _, _, _, _, _, _, _, _, _, _, oxT, reT⟩, saT, exT, tyT, kCT⟩
  have BT : BaseC K CBT := ⟨gaT, rdT, iniT⟩
  refine ⟨PySem.W.fnOf "law" "law" (defArgs s_p_law) (defBody s_p_law) (defScope s_p_law) .none kV46 dc46 pm46 an46 cd46 ct46, fun s v => .of_eq rfl, fun base _ _ => ?_⟩
  have S : ShownC P w K mg base := ⟨f0, _, ok_shown F0 (PySem.W.mg_none_of X G z_isinstance) (PySem.W.mg_none_of X G z_int) (PySem.W.mg_none_of X G z_str) (PySem.W.mg_none_of X G z_len) (PySem.W.mg_none_of X G z_repr) (PySem.W.mg_of X G v_LONGEST_SHOWN), m0, k0, b0⟩
  have ET : ErrC P w K mg base 4 "InvalidText" "line" "column" := ⟨CT, fT, _, _, OT, aT, iT, ok_initT FT S BT (PySem.W.mg_of X G aBT) OT n1T n2T, bT, PySem.W.mg_of X G aCT⟩
  have cT : ∃ C, mg "InvalidText" = some (.ref C) ∧ PySem.W.exmOne K (.ref C) (.ref C) = some true := ⟨CT, PySem.W.mg_of X G aCT, exmSelf exT isT tyT sfT⟩
  have g : GG P w K mg base := { len := PySem.W.mg_none_of X G z_len, int := PySem.W.mg_none_of X G z_int, str := PySem.W.mg_none_of X G z_str, tuple := PySem.W.mg_none_of X G z_tuple, list := PySem.W.mg_none_of X G z_list, repr := PySem.W.mg_none_of X G z_repr, isinstance := PySem.W.mg_none_of X G z_isinstance, range := PySem.W.mg_none_of X G z_range, sorted := PySem.W.mg_none_of X G z_sorted, set := PySem.W.mg_none_of X G z_set, all := PySem.W.mg_none_of X G z_all, zip := PySem.W.mg_none_of X G z_zip, bool := PySem.W.mg_none_of X G z_bool, LETTERSx := ⟨tk0, PySem.W.mg_of X G v_LETTERS⟩, LONGEST_NAMEx := ⟨tk1, PySem.W.mg_of X G v_LONGEST_NAME⟩, err_InvalidText := ET, cls_InvalidText := cT }
  have X_p_common_length := x_p_common_length g F1 m1 b1 
  have X_p_word_end := x_p_word_end g F2 m2 b2 X_p_common_length
  have X_p_run_end := x_p_run_end g F3 m3 b3 
  have X_p_name_end := x_p_name_end g F4 m4 b4 X_p_run_end
  have X_p_kind_end := x_p_kind_end g F5 m5 b5 X_p_word_end X_p_name_end
  have X_p_is_integer := x_p_is_integer g F6 m6 b6 
  have XK_p_is_integer : FnXK P w K mg base ks "is_integer" ["thing"] 2 1 f_p_is_integer := fnxk_of (xg_p_is_integer g F6 m6 b6 ) F6 m6 (fun _ _ _ _ _ _ _ => rfl)
  have X_p_is_number := x_p_is_number g F7 m7 b7 X_p_is_integer
  have XK_p_is_number : FnXK P w K mg base ks "is_number" ["thing"] 3 1 f_p_is_number := fnxk_of (xg_p_is_number g F7 m7 b7 X_p_is_integer) F7 m7 (fun _ _ _ _ _ _ _ => rfl)
  have X_p_is_name := x_p_is_name g F8 m8 b8 
  have XK_p_is_name : FnXK P w K mg base ks "is_name" ["thing"] 2 1 f_p_is_name := fnxk_of (xg_p_is_name g F8 m8 b8 ) F8 m8 (fun _ _ _ _ _ _ _ => rfl)
  have X_p_is_kind := x_p_is_kind g F9 m9 b9 X_p_kind_end
  have XK_p_is_kind : FnXK P w K mg base ks "is_kind" ["thing"] 9 1 f_p_is_kind := fnxk_of (xg_p_is_kind g F9 m9 b9 X_p_kind_end) F9 m9 (fun _ _ _ _ _ _ _ => rfl)
  have X_p_is_row := x_p_is_row g F10 m10 b10 
  have X_p_is_ascending := x_p_is_ascending g F11 m11 b11 
  have X_p_is_entry := x_p_is_entry g F12 m12 b12 X_p_is_kind X_p_is_name X_p_is_row
  have XK_p_is_entry : FnXK P w K mg base ks "is_entry" ["thing"] 10 1 f_p_is_entry := fnxk_of (xg_p_is_entry g F12 m12 b12 X_p_is_kind X_p_is_name X_p_is_row) F12 m12 (fun _ _ _ _ _ _ _ => rfl)
  have X_p_are_entries := x_p_are_entries g F13 m13 b13 X_p_is_entry
  have X_p_names_of := x_p_names_of g F14 m14 b14 
  have X_p_is_book := x_p_is_book g F15 m15 b15 X_p_is_ascending X_p_names_of X_p_are_entries
  have XK_p_is_book : FnXK P w K mg base ks "is_book" ["thing"] 12 1 f_p_is_book := fnxk_of (xg_p_is_book g F15 m15 b15 X_p_is_ascending X_p_names_of X_p_are_entries) F15 m15 (fun _ _ _ _ _ _ _ => rfl)
  have X_p_has_maker_form := x_p_has_maker_form g F16 m16 b16 X_p_is_number X_p_is_name X_p_is_row
  have X_p_is_maker := x_p_is_maker g F17 m17 b17 X_p_has_maker_form
  have XK_p_is_maker : FnXK P w K mg base ks "is_maker" ["thing"] 5 1 f_p_is_maker := fnxk_of (xg_p_is_maker g F17 m17 b17 X_p_has_maker_form) F17 m17 (fun _ _ _ _ _ _ _ => rfl)
  have X_p_has_call_form := x_p_has_call_form g F18 m18 b18 X_p_is_row
  have X_p_has_fun_form := x_p_has_fun_form g F19 m19 b19 X_p_names_of X_p_are_entries X_p_is_row
  have X_p_has_term_form := x_p_has_term_form g F20 m20 b20 X_p_has_fun_form X_p_has_call_form X_p_is_name
  have X_p_inner_terms := x_p_inner_terms g F21 m21 b21 X_p_has_fun_form X_p_has_call_form
  have X_p_is_term := x_p_is_term g F22 m22 b22 X_p_inner_terms X_p_has_term_form
  have XK_p_is_term : FnXK P w K mg base ks "is_term" ["thing"] 14 1 f_p_is_term := fnxk_of (xg_p_is_term g F22 m22 b22 X_p_inner_terms X_p_has_term_form) F22 m22 (fun _ _ _ _ _ _ _ => rfl)
  have X_p_is_kind_set := x_p_is_kind_set g F23 m23 b23 X_p_is_ascending X_p_is_kind
  have X_p_is_stand := x_p_is_stand g F24 m24 b24 X_p_is_name X_p_is_kind_set X_p_is_row
  have XK_p_is_stand : FnXK P w K mg base ks "is_stand" ["thing"] 11 1 f_p_is_stand := fnxk_of (xg_p_is_stand g F24 m24 b24 X_p_is_name X_p_is_kind_set X_p_is_row) F24 m24 (fun _ _ _ _ _ _ _ => rfl)
  have X_l_draw := x_l_draw g F25 m25 b25 
  have X_l_pick := x_l_pick g F26 m26 b26 X_l_draw
  have X_l_title := x_l_title g F27 m27 b27 X_l_draw X_l_pick
  have X_l_tree := x_l_tree g F28 m28 b28 X_l_pick X_l_draw 10
  have X_l_spelled := x_l_spelled g F29 m29 b29  10
  have X_l_is_title := x_l_is_title g F30 m30 b30 
  have X_l_pieces := x_l_pieces g F31 m31 b31 
  have X_l_parsed := x_l_parsed g F32 m32 b32 X_l_is_title X_l_pieces 200
  have X_l_strange := x_l_strange g F33 m33 b33 X_l_pick
  have X_l_spoilt := x_l_spoilt g F34 m34 b34 X_l_strange X_l_pick X_l_draw 40
  have X_l_maker := x_l_maker g F35 m35 b35 X_l_draw X_l_title 5
  have X_l_term := x_l_term g F36 m36 b36 X_l_spelled X_l_tree X_l_draw X_l_title 6
  have X_l_is_number := x_l_is_number g F37 m37 b37 
  have X_l_is_maker := x_l_is_maker g F38 m38 b38 X_l_is_number X_l_is_title 14
  have X_l_is_entry := x_l_is_entry g F39 m39 b39 X_l_parsed X_l_is_title
  have X_l_is_term := x_l_is_term g F40 m40 b40 X_l_is_entry X_l_is_title 24
  have X_l_is_book := x_l_is_book g F41 m41 b41 X_l_is_entry
  have X_l_is_stand := x_l_is_stand g F42 m42 b42 X_l_parsed X_l_is_title
  have X_l_due := x_l_due g F43 m43 b43 X_l_is_stand X_l_is_term X_l_is_maker X_l_is_book X_l_is_entry X_l_parsed X_l_is_title X_l_is_number
  have X_l_told := x_l_told g F44 m44 b44 X_p_is_stand X_p_is_term X_p_is_maker X_p_is_book X_p_is_entry X_p_is_kind X_p_is_name X_p_is_number X_p_is_integer XK_p_is_stand XK_p_is_term XK_p_is_maker XK_p_is_book XK_p_is_entry XK_p_is_kind XK_p_is_name XK_p_is_number XK_p_is_integer
  have Bg : BegunC P w K mg base ks "_law_begun" := ⟨f45, _, _, ok_begun F45 (PySem.W.mg_none_of X G z_int), m45, k45, b45⟩
  exact x_p_law g F46 Bg X_l_told X_l_due X_l_spoilt X_l_term X_l_maker X_l_title X_l_spelled X_l_tree X_l_pick X_l_draw X_l_strange

theorem walk {l : PySem.W.OpenLaw} {q : Program} {loose : List Str} {XP : (Str → Option Value) → Heap → Prop} {YP : World → Heap → Prop} {d : DefRec} {K : Params → PySem.W.Frag} (hn : l.most = some 63) (hdf : d.params.defaults = []) (hY : ∀ (w : World) (h : Heap), YP w h → (K w.params).In h)
    (F : ∀ (w : World) (mg : Str → Option Value) (fa : Addr) (h : Heap), (K w.params).In h → h.Ns mainGlobals mg → mg d.name = some (.ref fa) → ∃ fd : FuncData, (∀ (s : Shared) (u : Value), BindsTo s fd ⟨[u], []⟩ [("_law_script", u)]) ∧ ∀ base : Heap, (K w.params).In base → base.Ns mainGlobals mg → FnG l.prog w (K w.params) mg base 229 fa fd ["_law_script"] (spLaw (K w.params) 13 m_p_law))
    (hM : ∀ ns : List Int, ns.length ≤ 63 → (∀ z ∈ ns, Builtin.Int.intBits z ≤ 1048576) → ∃ s', m_p_law (sto1 13 ns) = .rt (.bl true) s') : PySem.W.WalkO q loose XP YP l.row.toRowW d [] (fun f vs => PySem.call f vs) :=
  walkG (n := 63) (k := 229) (x := "_law_script") (sp := fun w => spLaw (K w.params) 13 m_p_law) hn (by decide) hdf ⟨rfl, by decide, by decide⟩ hY F (fun _ _ a ns hl hb _ hS => ⟨a, ns, rfl, hS, hM ns hl hb, fun _ => rfl⟩)
end K01

set_option linter.all false
set_option maxRecDepth 100000
set_option maxHeartbeats 2000000
namespace K01
open PySem L2 Og
def drawM (F : Fd) (many : Int) : Int × Fd :=
  let c := F.count + 1
  if 0 < F.left then (F.left % many, { F with left := F.left / many, count := c })
  else
    let n := F.next + 1
    let cell := if F.cells = [] then 424243 else F.cells.getD (F.next % F.cells.length).toNat 0
    if 10 ^ 18 ≤ cell ∧ F.next < F.cells.length then (cell % many, { F with next := n, left := cell / many, count := c })
    else
      let a := (cell % 982451653 + 6700417 * c + 29) % 2147483647
      let b := (a * a + 15487469 * c + 211) % 2147483629
      ((b * b + 577 * b) % 2147483587 / 32 % many, { F with next := n, count := c })
theorem key_c (F : Fd) : getF ks "count" F = some F.count := rfl
theorem key_l (F : Fd) : getF ks "left" F = some F.left := rfl
theorem key_n (F : Fd) : getF ks "next" F = some F.next := rfl
theorem put_c (F : Fd) (i : Int) : putF ks "count" i F = some { F with count := i } := rfl
theorem put_l (F : Fd) (i : Int) : putF ks "left" i F = some { F with left := i } := rfl
theorem put_n (F : Fd) (i : Int) : putF ks "next" i F = some { F with next := i } := rfl
theorem draw1 (F : Fd) (many : Int) (h1 : 0 < many) (h2 : many < 1073741824) (hl : 0 < F.left) : f_l_draw [.fd, .int many] F = .ok (.int (drawM F many).1) (drawM F many).2 := by
  unfold f_l_draw m_l_draw drawM
  simp [bindM, bindS, retM, optM, m1, m2, m3, mA, mCons, mVar, mPk, mIf, seqS, ifS, asgV, callM, Sto.at, Sto.put, sto0, fnM, asB, asInt, or2, putS, mGet, key_c, key_l, key_n, put_c, put_l, put_n, addO, addI, iiO, gtO, gtI, modI, divI, intO, hl, h1, h2]
end K01
namespace K01
open PySem L2 Og
theorem mul_in {i j : Int} (h : -18446744073709551616 < i ∧ i < 18446744073709551616) : mulI (.int i) (.int j) = some (.int (i * j)) := by
  simp [mulI, iiO, h]
theorem mul_m1 (x j : Int) : mulI (.int (x % 2147483647)) (.int j) = some (.int (x % 2147483647 * j)) := mul_in (by omega)
theorem mul_m2 (x j : Int) : mulI (.int (x % 2147483629)) (.int j) = some (.int (x % 2147483629 * j)) := mul_in (by omega)
theorem mul_k1 (j : Int) : mulI (.int 6700417) (.int j) = some (.int (6700417 * j)) := mul_in (by omega)
theorem mul_k2 (j : Int) : mulI (.int 15487469) (.int j) = some (.int (15487469 * j)) := mul_in (by omega)
theorem mul_k3 (j : Int) : mulI (.int 577) (.int j) = some (.int (577 * j)) := mul_in (by omega)
theorem toPs_ints : ∀ xs : List Int, D.toPs (xs.map D.int) = some (xs.map PyData.int)
  | [] => rfl
  | x :: xs => by simp [D.toPs, D.toP, toPs_ints xs]
theorem lay_ints : ∀ xs : List Int, PyData.canLayAll0 (xs.map PyData.int) = true
  | [] => rfl
  | x :: xs => by simp [PyData.canLayAll0, PyData.canLay0, lay_ints xs]
theorem dep_ints : ∀ xs : List Int, PyData.depthAll (xs.map PyData.int) = 0
  | [] => rfl
  | x :: xs => by simp [PyData.depthAll, PyData.depth, dep_ints xs]
theorem shaped_cells (xs : List Int) : shapedD (.lst (xs.map D.int)) = some (.list (xs.map PyData.int)) := by
  unfold shapedD
  simp [D.toP, toPs_ints, SeqAt.shaped, PyData.canLay0, lay_ints, PyData.depth, dep_ints]
theorem ne_cells (xs : List Int) : eqO true (.lst (xs.map D.int)) (.lst []) = some (.bl (!xs.isEmpty)) := by
  have e0 : shapedD (.lst []) = some (.list []) := shaped_cells []
  unfold eqO
  rw [shaped_cells, e0]
  cases xs <;> simp [PyData.eqv, PyData.eqvAll]
theorem atI_in {α : Type} {xs : List α} {i : Int} {a : α} (h0 : 0 ≤ i) (h : xs[i.toNat]? = some a) : L2.atI xs i = some a := by
  have l : i.toNat < xs.length := by
    by_cases c : i.toNat < xs.length
    · exact c
    · rw [List.getElem?_eq_none (by omega)] at h
      cases h
  unfold L2.atI L2.ixN
  rw [if_pos h0, if_pos (by omega)]
  exact h
theorem draw_ev (F : Fd) (many : Int) (h1 : 0 < many) (h2 : many < 1073741824) (hn : 0 ≤ F.next) : f_l_draw [.fd, .int many] F = .ok (.int (drawM F many).1) (drawM F many).2 := by
  by_cases hl : 0 < F.left
  · exact draw1 F many h1 h2 hl
  unfold f_l_draw m_l_draw drawM
  have hn2 : ¬ F.next < 0 := by omega
  by_cases hc : F.cells = []
  · have sh := ne_cells F.cells
    rw [hc] at sh
    simp at sh
    simp [bindM, bindS, retM, optM, m1, m2, m3, mA, mCons, mVar, mPk, mIf, seqS, ifS, asgV, callM, Sto.at, Sto.put, sto0, fnM, asB, asInt, or2, putS, mGet, key_c, key_l, key_n, put_c, put_l, put_n, addO, addI, iiO, gtO, gtI, modI, divI, intO, hl, h1, h2, lenC, neC, ixC, asFd, cellsD, hc, hn2, sh, geO, geI, ltO, ltI, powI, mul_m1, mul_m2, mul_k1, mul_k2, mul_k3, lstO, ixO]
  · have sh := ne_cells F.cells
    have len : 0 < (F.cells.length : Int) := by
      have := List.length_pos_iff.mpr hc
      omega
    have ix : L2.atI (F.cells.map D.int) (F.next % F.cells.length) = some (.int (F.cells.getD (F.next % F.cells.length).toNat 0)) := by
      have m0 := Int.emod_nonneg F.next (Int.ne_of_gt len)
      have m1 := Int.emod_lt_of_pos F.next len
      refine atI_in m0 ?_
      have l : (F.next % F.cells.length).toNat < F.cells.length := by omega
      rw [List.getElem?_map, List.getD_eq_getElem?_getD, List.getElem?_eq_getElem l]
      rfl
    have lenN := List.length_pos_iff.mpr hc
    have he : F.cells.isEmpty = false := by simpa using hc
    by_cases c : 10 ^ 18 ≤ F.cells.getD (F.next % F.cells.length).toNat 0 ∧ F.next < F.cells.length
    · generalize F.cells.getD (F.next % F.cells.length).toNat 0 = cell at *
      have c1 : (1000000000000000000 : Int) ≤ cell := by simpa using c.1
      simp [bindM, bindS, retM, optM, m1, m2, m3, mA, mCons, mVar, mPk, mIf, seqS, ifS, asgV, callM, Sto.at, Sto.put, sto0, fnM, asB, asInt, or2, putS, mGet, key_c, key_l, key_n, put_c, put_l, put_n, addO, addI, iiO, gtO, gtI, modI, divI, intO, hl, h1, h2, lenC, neC, ixC, asFd, cellsD, hc, hn2, sh, he, ix, lenN, c1, c.2, geO, geI, ltO, ltI, powI, mul_m1, mul_m2, mul_k1, mul_k2, mul_k3, lstO, ixO]
    · generalize F.cells.getD (F.next % F.cells.length).toNat 0 = cell at *
      by_cases c1 : (1000000000000000000 : Int) ≤ cell
      · have c2 : ¬ F.next < F.cells.length := fun z => c ⟨by simpa using c1, z⟩
        simp [bindM, bindS, retM, optM, m1, m2, m3, mA, mCons, mVar, mPk, mIf, seqS, ifS, asgV, callM, Sto.at, Sto.put, sto0, fnM, asB, asInt, or2, putS, mGet, key_c, key_l, key_n, put_c, put_l, put_n, addO, addI, iiO, gtO, gtI, modI, divI, intO, hl, h1, h2, lenC, neC, ixC, asFd, cellsD, hc, hn2, sh, he, ix, lenN, c1, c2, geO, geI, ltO, ltI, powI, mul_m1, mul_m2, mul_k1, mul_k2, mul_k3, lstO, ixO]
      · simp [bindM, bindS, retM, optM, m1, m2, m3, mA, mCons, mVar, mPk, mIf, seqS, ifS, asgV, callM, Sto.at, Sto.put, sto0, fnM, asB, asInt, or2, putS, mGet, key_c, key_l, key_n, put_c, put_l, put_n, addO, addI, iiO, gtO, gtI, modI, divI, intO, hl, h1, h2, lenC, neC, ixC, asFd, cellsD, hc, hn2, sh, he, ix, lenN, c1, geO, geI, ltO, ltI, powI, mul_m1, mul_m2, mul_k1, mul_k2, mul_k3, lstO, ixO]
end K01

set_option linter.all false
set_option maxRecDepth 100000
set_option maxHeartbeats 2000000
namespace K01
open PySem L2 Og
/-- a def gives a value with P, and leaves a good feed -/
def Gv (P : D → Prop) (o : OutF) : Prop := ∃ d F', o = .ok d F' ∧ P d ∧ 0 ≤ F'.next
theorem draw_in (F : Fd) (many : Int) (h1 : 0 < many) (hn : 0 ≤ F.next) : 0 ≤ (drawM F many).1 ∧ (drawM F many).1 < many ∧ 0 ≤ (drawM F many).2.next := by
  have e : ∀ x : Int, 0 ≤ x % many ∧ x % many < many := fun x => ⟨Int.emod_nonneg x (Int.ne_of_gt h1), Int.emod_lt_of_pos x h1⟩
  unfold drawM
  dsimp only
  split
  · exact ⟨(e _).1, (e _).2, hn⟩
  · generalize (if F.cells = [] then (424243 : Int) else F.cells.getD (F.next % F.cells.length).toNat 0) = cell
    split <;> exact ⟨(e _).1, (e _).2, by show 0 ≤ F.next + 1; omega⟩
theorem draw_gv (F : Fd) (many : Int) (h1 : 0 < many) (h2 : many < 1073741824) (hn : 0 ≤ F.next) : Gv (fun d => ∃ r : Int, d = .int r ∧ 0 ≤ r ∧ r < many) (f_l_draw [.fd, .int many] F) := by
  obtain ⟨a, b, c⟩ := draw_in F many h1 hn
  exact ⟨_, _, draw_ev F many h1 h2 hn, ⟨_, rfl, a, b⟩, c⟩
theorem pick_gv (F : Fd) (ds : List D) (h0 : ds ≠ []) (hl : ds.length < 1073741824) (hn : 0 ≤ F.next) : Gv (fun d => d ∈ ds) (f_l_pick [.fd, .lst ds] F) := by
  have lp := List.length_pos_iff.mpr h0
  obtain ⟨d, F', e, ⟨r, rfl, r0, r1⟩, n⟩ := draw_gv F ds.length (by omega) (by omega) hn
  have l : r.toNat < ds.length := by omega
  have ix : L2.atI ds r = some ds[r.toNat] := atI_in r0 (List.getElem?_eq_getElem l)
  refine ⟨ds[r.toNat], F', ?_, List.getElem_mem l, n⟩
  unfold f_l_pick m_l_pick
  simp [bindM, bindS, retM, optM, m1, m2, m3, mA, mCons, mVar, mPk, mIf, seqS, ifS, asgV, callM, Sto.at, Sto.put, sto0, fnM, asB, asInt, or2, lenO, ixO, e, ix]
theorem pickT_gv (F : Fd) (ds : List D) (h0 : ds ≠ []) (hl : ds.length < 1073741824) (hn : 0 ≤ F.next) : Gv (fun d => d ∈ ds) (f_l_pick [.fd, .tup ds] F) := by
  have lp := List.length_pos_iff.mpr h0
  obtain ⟨d, F', e, ⟨r, rfl, r0, r1⟩, n⟩ := draw_gv F ds.length (by omega) (by omega) hn
  have l : r.toNat < ds.length := by omega
  have ix : L2.atI ds r = some ds[r.toNat] := atI_in r0 (List.getElem?_eq_getElem l)
  refine ⟨ds[r.toNat], F', ?_, List.getElem_mem l, n⟩
  unfold f_l_pick m_l_pick
  simp [bindM, bindS, retM, optM, m1, m2, m3, mA, mCons, mVar, mPk, mIf, seqS, ifS, asgV, callM, Sto.at, Sto.put, sto0, fnM, asB, asInt, or2, lenO, ixO, e, ix]
end K01

set_option linter.all false
set_option maxRecDepth 100000
set_option maxHeartbeats 2000000
namespace K01
open PySem L2 Og
/-- the signs of a text -/
abbrev sg (z : Str) : List Nat := z.cps.toList
theorem len_sg (z : Str) : z.length = (sg z).length := by
  unfold sg Str.length
  simp
theorem lstrip_len (x y : Str) : (Txt.lstripChars x y).length = x.length - ((sg x).takeWhile y.cps.contains).length := by
  have hle : ((sg x).takeWhile y.cps.contains).length ≤ x.length := by
    rw [len_sg]
    exact (List.takeWhile_prefix _).length_le
  have e0 : stripLo y.cps.contains true x = ((sg x).takeWhile y.cps.contains).length := by
    simp [stripLo, sg]
  unfold Txt.lstripChars Txt.stripBy
  split
  · rename_i h
    unfold stripSame at h
    rw [Bool.and_eq_true] at h
    have z := eq_of_beq h.1
    rw [e0] at z
    rw [z]
    rfl
  · unfold stripped
    have e1 : stripHi y.cps.contains false x (stripLo y.cps.contains true x) = x.length := by
      simp [stripHi]
    rw [e1, e0]
    unfold Builtin.Str.strSub Str.length
    simp
theorem cut_nat (z : Str) (a b : Nat) : sg (cutS z (some (a : Int)) (some (b : Int))) = ((sg z).drop a).take (b - a) := by
  unfold cutS sg
  rw [HT.sIx_nat, HT.sIx_nat]
  have h : z.length = z.cps.toList.length := len_sg z
  rw [h]
  generalize z.cps.toList = l
  dsimp only
  rcases Nat.le_total a l.length with h1 | h1
  · rw [Nat.min_eq_left h1]
    rw [List.take_eq_take_iff]
    simp
    omega
  · rw [Nat.min_eq_right h1, List.drop_of_length_le (Nat.le_refl _), List.drop_of_length_le h1]
    simp
theorem run_end_ev (z y : Str) (a most : Nat) (F : Fd) (hz : z.length ≤ sizeLine) : f_p_run_end [.str z, .int a, .str y, .int most] F = .ok (.int ((a + ((((sg z).drop a).take most).takeWhile y.cps.contains).length : Nat))) F := by
  have e1 := cut_nat z a (a + most)
  rw [Nat.add_sub_cancel_left] at e1
  have e2 : ((a + most : Nat) : Int) = (a : Int) + (most : Int) := by omega
  rw [e2] at e1
  have l1 : (cutS z (some (a : Int)) (some ((a : Int) + most))).length ≤ sizeLine := by
    rw [len_sg, e1]
    refine Nat.le_trans ?_ hz
    rw [len_sg z, List.length_take, List.length_drop]
    omega
  have l2 := lstrip_len (cutS z (some (a : Int)) (some ((a : Int) + most))) y
  have l3 : (Txt.lstripChars (cutS z (some (a : Int)) (some ((a : Int) + most))) y).length ≤ sizeLine := by omega
  have l4 : ((sg (cutS z (some (a : Int)) (some ((a : Int) + most)))).takeWhile y.cps.contains).length ≤ (cutS z (some (a : Int)) (some ((a : Int) + most))).length := by
    rw [len_sg]
    exact (List.takeWhile_prefix _).length_le
  unfold f_p_run_end m_p_run_end
  simp [bindM, bindS, retM, optM, m1, m2, m3, mA, mCons, mVar, mPk, mIf, seqS, ifS, asgV, callM, Sto.at, Sto.put, sto0, fnM, asB, asInt, or2, addO, addI, subI, iiO, slO, lenO, mMt, lstripO, hz, l1, l3]
  rw [← e1]
  omega
end K01

set_option linter.all false
set_option maxRecDepth 100000
set_option maxHeartbeats 2000000
namespace K01
open PySem L2 Og Gr
theorem letters (c : Nat) : (Str.ofString "abcdefghijklmnopqrstuvwxyz").cps.contains c = isL c := by
  have e : (Str.ofString "abcdefghijklmnopqrstuvwxyz").cps = #[97, 98, 99, 100, 101, 102, 103, 104, 105, 106, 107, 108, 109, 110, 111, 112, 113, 114, 115, 116, 117, 118, 119, 120, 121, 122] := by decide +kernel
  rw [e]
  unfold isL
  rw [Bool.eq_iff_iff]
  simp
  omega
theorem nil_lt (l : List Nat) : decide (([] : List Nat) < l) = decide (l ≠ []) := by
  cases l <;> simp
theorem nam_len (r : W) : (nam r).length ≤ r.length := by
  have := congrArg List.length (nam_pre r)
  rw [List.length_append] at this
  omega
theorem gt_int (i j : Int) : gtO (.int i) (.int j) = some (.bl (decide (j < i))) := by
  simp [gtO, or2, gtI, iiO]
theorem while_no {c : M Bool} {b : MS} {s : Sto} (h : c s = .ok false s) : whileS c b 100000 s = .nx s := by
  show whileS c b (99999 + 1) s = .nx s
  unfold whileS bindS
  rw [h]
  simp
theorem name_end_ev (z : Str) (line : Int) (a : Nat) (F : Fd) (hz : z.length ≤ sizeLine) : f_p_name_end [.int line, .str z, .int a, .str ""] F = if nam ((sg z).drop a) = [] then .exc ⟨"InvalidText", [("column", .int a), ("line", .int line)]⟩ F else .ok (.int ((a + (nam ((sg z).drop a)).length : Nat))) F := by
  have r := run_end_ev z "abcdefghijklmnopqrstuvwxyz" a 8 F hz
  have e0 : (fun c => (Str.ofString "abcdefghijklmnopqrstuvwxyz").cps.contains c) = isL := funext letters
  rw [show ((Str.ofString "abcdefghijklmnopqrstuvwxyz").cps.contains) = isL from e0] at r
  have e1 : (((sg z).drop a).take 8).takeWhile isL = nam ((sg z).drop a) := rfl
  rw [e1] at r
  have c1 := cut_nat z a (a + (nam ((sg z).drop a)).length)
  rw [Nat.add_sub_cancel_left] at c1
  have p : ((sg z).drop a).take (nam ((sg z).drop a)).length = nam ((sg z).drop a) := by
    have q := nam_pre ((sg z).drop a)
    have : ∀ (l n m : W), l = n ++ m → l.take n.length = n := fun l n m e => by rw [e]; simp
    exact this _ _ _ q
  rw [p] at c1
  have emp : sg (Str.ofString "") = [] := by decide +kernel
  unfold f_p_name_end m_p_name_end
  have hr : f_p_run_end [.str z, .int (a : Int), .str (Str.ofString "abcdefghijklmnopqrstuvwxyz"), .int 8] F = _ := r
  have gt : gtO (.str (cutS z (some (a : Int)) (some ((a : Int) + (nam ((sg z).drop a)).length)))) (.str (Str.ofString "")) = some (.bl (decide (nam ((sg z).drop a) ≠ []))) := by
    have c2 : sg (cutS z (some (a : Int)) (some ((a : Int) + (nam ((sg z).drop a)).length))) = nam ((sg z).drop a) := by
      rw [show (a : Int) + ((nam ((sg z).drop a)).length : Int) = ((a + (nam ((sg z).drop a)).length : Nat) : Int) by omega]
      exact c1
    have e : gtO (.str (cutS z (some (a : Int)) (some ((a : Int) + (nam ((sg z).drop a)).length)))) (.str (Str.ofString "")) = some (.bl (decide (sg (Str.ofString "") < sg (cutS z (some (a : Int)) (some ((a : Int) + (nam ((sg z).drop a)).length)))))) := rfl
    rw [e, c2, emp, nil_lt]
  generalize nam ((sg z).drop a) = n at *
  by_cases h : n = []
  · subst h
    rw [if_pos rfl]
    simp at hr gt
    simp [bindM, bindS, retM, optM, m1, m2, m3, mA, mCons, mVar, mPk, mIf, seqS, ifS, asgV, callM, Sto.at, Sto.put, sto0, fnM, asB, asInt, slO, hz, hr, gt, while_no, gt_int, raiseS, fldO]
  · rw [if_neg h]
    simp [h] at gt
    simp [bindM, bindS, retM, optM, m1, m2, m3, mA, mCons, mVar, mPk, mIf, seqS, ifS, asgV, callM, Sto.at, Sto.put, sto0, fnM, asB, asInt, slO, hz, hr, gt]
end K01

set_option linter.all false
set_option maxRecDepth 100000
set_option maxHeartbeats 2000000
namespace K01
open PySem L2 Og Gr
def sOk (x : Str) : Prop := x.cps.all (· < 0x110000) = true
theorem shaped_str {x : Str} (h : sOk x) : shapedD (.str x) = some (.str x) := by
  have h : x.cps.all (· < 0x110000) = true := h
  unfold shapedD
  simp [D.toP, SeqAt.shaped, PyData.canLay0, PyData.strOk, PyData.depth]
  simpa using h
theorem eq_str {x y : Str} (hx : sOk x) (hy : sOk y) (neg : Bool) : eqO neg (.str x) (.str y) = some (.bl (if neg then !(x == y) else x == y)) := by
  unfold eqO
  rw [shaped_str hx, shaped_str hy]
  simp [PyData.eqv]
theorem sOk_iff {x : Str} : sOk x ↔ ∀ c ∈ sg x, c < 0x110000 := by
  unfold sOk sg
  simp [Array.all_eq_true, List.mem_iff_getElem]
  constructor
  · rintro h c i hi rfl
    exact h i hi
  · intro h i hi
    exact h _ i hi rfl
theorem sOk_cut {x : Str} (h : sOk x) (a b : Nat) : sOk (cutS x (some (a : Int)) (some (b : Int))) := by
  rw [sOk_iff] at *
  intro c hc
  rw [cut_nat] at hc
  exact h c (List.mem_of_mem_drop (List.mem_of_mem_take hc))
theorem sg_ext {x y : Str} : x = y ↔ sg x = sg y := by
  constructor
  · intro h; rw [h]
  · intro h
    cases x; cases y
    simp [sg] at h
    simp [h]
theorem lt_int (i j : Int) : ltO (.int i) (.int j) = some (.bl (decide (i < j))) := by
  simp [ltO, or2, ltI, iiO]
theorem add_int (i j : Int) : addO (.int i) (.int j) = some (.int (i + j)) := by
  simp [addO, or2, addI, iiO]
theorem sub_int (i j : Int) : subI (.int i) (.int j) = some (.int (i - j)) := by
  simp [subI, iiO]
theorem ix_str {z : Str} {k : Nat} (hz : z.length ≤ sizeLine) (h : k < (sg z).length) : ixO (.str z) (.int (k : Int)) = some (.str ⟨#[(sg z)[k]]⟩) := by
  have e : L2.atI z.cps.toList (k : Int) = some (sg z)[k] := atI_in (by omega) (by simp [sg])
  unfold ixO
  simp [hz, e]
theorem sOk_one {z : Str} (h : sOk z) {k : Nat} (hk : k < (sg z).length) : sOk ⟨#[(sg z)[k]]⟩ := by
  rw [sOk_iff] at *
  intro c hc
  simp [sg] at hc
  subst hc
  exact h _ (by simp [sg])
theorem common_ev (x w : Str) (F : Fd) (hx : x.length ≤ sizeLine) (hw : w.length < 100000) (ox : sOk x) (ow : sOk w) : wpF (f_p_common_length [.str x, .str w] F) (fun d F' => F' = F ∧ ∃ n : Int, d = .int n) (fun _ _ => False) := by
  have hw2 : w.length ≤ sizeLine := Nat.le_trans (Nat.le_of_lt hw) (by decide)
  have lw := len_sg w
  refine wpF_fn ?_
  refine wpS_seq (wpS_asg (wp_ret ?_))
  refine wpS_seq ?_
  refine wpS_while (J := fun n s => ∃ k : Nat, k + n = w.length ∧ s = ⟨[.val (.str x), .val (.str w), .val (.int (k : Int))], F⟩) ?_ w.length 100000 _ hw ⟨0, by omega, by simp [Sto.put, sto0]⟩
  rintro n s ⟨k, hk, rfl⟩
  by_cases c : k < w.length
  · have sl : (cutS x (some (k : Int)) (some ((k : Int) + 1))) = cutS x (some (k : Int)) (some ((k + 1 : Nat) : Int)) := by
      congr 2
    obtain ⟨ch, ix, och⟩ : ∃ ch, ixO (.str w) (.int (k : Int)) = some (.str ch) ∧ sOk ch := ⟨_, ix_str hw2 (show k < (sg w).length by omega), sOk_one ow (show k < (sg w).length by omega)⟩
    have e1 := eq_str (neg := false) (sOk_cut ox k (k + 1)) och
    rw [← sl] at e1
    have cc : (k : Int) < (w.length : Int) := by omega
    by_cases q : (cutS x (some (k : Int)) (some ((k : Int) + 1)) == ch) = true
    · rw [q] at e1
      simp at e1
      simp [wp, wpS, seqS, asgV, Sto.put, bindM, bindS, retM, optM, m1, m2, m3, mA, mCons, mVar, mPk, mIf, Sto.at, asB, asInt, lt_int, lenO, hw2, cc, add_int, slO, hx, ix, e1]
      exact ⟨n - 1, by omega, k + 1, by omega, by omega⟩
    · have q : (cutS x (some (k : Int)) (some ((k : Int) + 1)) == ch) = false := by simpa using q
      rw [q] at e1
      simp at e1
      simp [wp, wpS, seqS, bindM, bindS, retM, optM, m1, m2, m3, mA, mCons, mVar, mPk, mIf, Sto.at, asB, asInt, lt_int, lenO, hw2, cc, add_int, slO, hx, ix, e1]
  · have cc : ¬ (k : Int) < (w.length : Int) := by omega
    simp [wp, bindM, bindS, retM, optM, m1, m2, m3, mA, mCons, mVar, mPk, mIf, Sto.at, asB, asInt, lt_int, lenO, hw2, cc, add_int, slO, hx, wpS, seqS]
end K01

set_option linter.all false
set_option maxRecDepth 100000
set_option maxHeartbeats 2000000
namespace K01
open PySem L2 Og Gr
theorem arrow_sg : sg (Str.ofString " -> ") = sp := by decide +kernel
theorem arrow_ok : sOk (Str.ofString " -> ") := by unfold sOk; decide +kernel
theorem arrow_len : (Str.ofString " -> ").length = 4 := by decide +kernel
theorem wpF_ok {o : OutF} {Q : D → Fd → Prop} (h : wpF o Q (fun _ _ => False)) : ∃ d F', o = .ok d F' ∧ Q d F' := by
  unfold wpF at h
  cases o with
  | ok d F' => exact ⟨d, F', rfl, h⟩
  | exc x F' => exact h.elim
  | bad => exact h.elim
theorem word_end_ev (z : Str) (line : Int) (a : Nat) (F : Fd) (hz : z.length ≤ sizeLine) (oz : sOk z) : wpF (f_p_word_end [.int line, .str z, .int a, .str " -> "] F) (fun d F' => F' = F ∧ ((sg z).drop a).take 4 = sp ∧ d = .int ((a + 4 : Nat))) (fun x F' => F' = F ∧ ((sg z).drop a).take 4 ≠ sp ∧ x.cls = "InvalidText") := by
  have e0 : ((a : Int) + ((4 : Nat) : Int)) = ((a + 4 : Nat) : Int) := by omega
  have e00 : ((a : Int) + 4) = ((a + 4 : Nat) : Int) := by omega
  have c1 := cut_nat z a (a + 4)
  rw [Nat.add_sub_cancel_left] at c1
  have o1 := sOk_cut oz a (a + 4)
  have e1 := eq_str (neg := true) o1 arrow_ok
  have l1 : (cutS z (some (a : Int)) (some ((a + 4 : Nat) : Int))).length ≤ sizeLine := by
    rw [len_sg, c1]
    refine Nat.le_trans (List.length_take_le _ _) (by decide)
  obtain ⟨d, F', f1, rfl, n, rfl⟩ := wpF_ok (common_ev (cutS z (some (a : Int)) (some ((a + 4 : Nat) : Int))) (Str.ofString " -> ") F l1 (by rw [arrow_len]; decide) o1 arrow_ok)
  have hw2 : (4 : Nat) ≤ sizeLine := by decide
  have iff : (cutS z (some (a : Int)) (some ((a + 4 : Nat) : Int)) == Str.ofString " -> ") = true ↔ ((sg z).drop a).take 4 = sp := by
    rw [beq_iff_eq, sg_ext, c1, arrow_sg]
  generalize hcut : cutS z (some (a : Int)) (some ((a + 4 : Nat) : Int)) = cut at *
  rw [← e00] at hcut
  unfold f_p_word_end m_p_word_end
  by_cases q : (cut == Str.ofString " -> ") = true
  · rw [q] at e1
    simp at e1
    simp [wpF, bindM, bindS, retM, optM, m1, m2, m3, mA, mCons, mVar, mPk, mIf, seqS, ifS, asgV, callM, Sto.at, Sto.put, sto0, fnM, asB, asInt, lenO, arrow_len, hw2, slO, hz, add_int, hcut, e1, f1, raiseS, fldO, iff.mp q]
  · have q2 : (cut == Str.ofString " -> ") = false := by simpa using q
    rw [q2] at e1
    simp at e1
    simp [wpF, bindM, bindS, retM, optM, m1, m2, m3, mA, mCons, mVar, mPk, mIf, seqS, ifS, asgV, callM, Sto.at, Sto.put, sto0, fnM, asB, asInt, lenO, arrow_len, hw2, slO, hz, add_int, hcut, e1, f1, raiseS, fldO]
    exact fun w => q (iff.mpr w)
end K01

set_option linter.all false
set_option maxRecDepth 100000
set_option maxHeartbeats 2000000
namespace K01
open PySem L2 Og Gr
/-! ### titles -/
def isT (z : Str) : Bool := decide (1 ≤ z.length) && decide (z.length ≤ 8) && (sg z).all isL
theorem isT_iff {z : Str} : isT z = true ↔ Ttl (sg z) := by
  unfold isT Ttl
  rw [len_sg]
  simp only [Bool.and_eq_true, decide_eq_true_eq, List.all_eq_true, isL]
  constructor
  · rintro ⟨⟨h1, h2⟩, h3⟩
    exact ⟨h1, h2, h3⟩
  · rintro ⟨h1, h2, h3⟩
    exact ⟨⟨h1, h2⟩, h3⟩
theorem le_int (i j : Int) : leO (.int i) (.int j) = some (.bl (decide (i ≤ j))) := by
  simp [leO, or2, leI, iiO]
def isS : D → Bool
  | .str _ => true
  | _ => false
def isTp : D → Bool
  | .tup _ => true
  | _ => false
theorem isi_any {d : D} {T a : String} {b : Bool} (h : tyN d = some a) (k : kitB a T = some b) : isiO T d = some (.bl b) := by
  unfold isiO
  rw [h]
  show (kitB a T).map _ = _
  rw [k]
  rfl
theorem isi_str {d : D} (h : d ≠ .fd) : isiO "str" d = some (.bl (isS d)) := by
  cases d with
  | fd => exact absurd rfl h
  | non => exact isi_any (a := "NoneType") (b := false) rfl (by decide +kernel)
  | bl b => exact isi_any (a := "bool") (b := false) rfl (by decide +kernel)
  | int b => exact isi_any (a := "int") (b := false) rfl (by decide +kernel)
  | str b => exact isi_any (a := "str") (b := true) rfl (by decide +kernel)
  | tup b => exact isi_any (a := "tuple") (b := false) rfl (by decide +kernel)
  | lst b => exact isi_any (a := "list") (b := false) rfl (by decide +kernel)
theorem isi_tup {d : D} (h : d ≠ .fd) : isiO "tuple" d = some (.bl (isTp d)) := by
  cases d with
  | fd => exact absurd rfl h
  | non => exact isi_any (a := "NoneType") (b := false) rfl (by decide +kernel)
  | bl b => exact isi_any (a := "bool") (b := false) rfl (by decide +kernel)
  | int b => exact isi_any (a := "int") (b := false) rfl (by decide +kernel)
  | str b => exact isi_any (a := "str") (b := false) rfl (by decide +kernel)
  | tup b => exact isi_any (a := "tuple") (b := true) rfl (by decide +kernel)
  | lst b => exact isi_any (a := "list") (b := false) rfl (by decide +kernel)
theorem lf_fd {T : Nat} {d : D} (h : d.lf T) : d ≠ .fd := by
  rintro rfl
  simp [D.lf] at h
theorem sOk_nil : sOk (Str.ofString "") := by unfold sOk; decide +kernel
theorem sg_nil : sg (Str.ofString "") = [] := by decide +kernel
theorem a7_sOk {z : Str} (h : A7 z) : sOk z := h.ok
/-- the program's own word on names -/
def ttl : D → Bool
  | .str z => isT z
  | _ => false
theorem strip_iff (x y : Str) : (Txt.stripChars x y == Str.ofString "") = (sg x).all y.cps.contains := by
  have e : Txt.stripChars x y = Builtin.Str.strSub x (stripLo y.cps.contains true x) (stripHi y.cps.contains true x (stripLo y.cps.contains true x)) := PyProof.Rows.stripBy_eq _ _ _ _
  have lo := PyProof.Rows.lo_facts y.cps.contains x
  have hi := PyProof.Rows.hi_facts y.cps.contains x _ lo.1
  rw [e]
  generalize stripLo y.cps.contains true x = a at *
  generalize stripHi y.cps.contains true x a = b at *
  have lx := len_sg x
  have gd : ∀ k (h : k < (sg x).length), x.cps.getD k 0 = (sg x)[k] := fun k h => by
    rw [← PyProof.Rows.getD_list]
    simp [List.getD, sg]
    rw [Array.getElem?_eq_getElem]
    rfl
  have sub : (Builtin.Str.strSub x a b == Str.ofString "") = decide (a = b) := by
    rw [Bool.eq_iff_iff, beq_iff_eq, sg_ext, sg_nil, decide_eq_true_eq]
    have : sg (Builtin.Str.strSub x a b) = ((sg x).drop a).take (b - a) := by
      simp [Builtin.Str.strSub, sg]
    rw [this]
    have lh := hi.1
    have lb := hi.2.1
    constructor
    · intro h
      have h2 := congrArg List.length h
      rw [List.length_take, List.length_drop, List.length_nil, ← lx] at h2
      omega
    · rintro rfl
      simp
  rw [sub, Bool.eq_iff_iff, decide_eq_true_eq, List.all_eq_true]
  constructor
  · rintro rfl c hc
    obtain ⟨k, hk, rfl⟩ := List.mem_iff_getElem.mp hc
    rw [← gd k hk]
    by_cases q : k < a
    · exact lo.2.1 k q
    · exact hi.2.2.1 k (by omega) (by omega)
  · intro h
    rcases lo.2.2 with z | z
    · omega
    · by_cases q : a < x.length
      · rw [gd a (by omega), h _ (List.getElem_mem _)] at z
        cases z
      · omega
theorem letters_all (z : Str) : ((sg z).all (Str.ofString "abcdefghijklmnopqrstuvwxyz").cps.contains) = (sg z).all isL := by
  congr 1
  exact funext letters
theorem is_name_ev {d : D} {T : Nat} (h : d.lf T) (hT : T ≤ sizeLine) (F : Fd) : f_p_is_name [d] F = .ok (.bl (ttl d)) F := by
  have hs := isi_str (lf_fd h)
  unfold f_p_is_name m_p_is_name
  cases d with
  | str z =>
    simp only [D.lf] at h
    have hz : z.length ≤ sizeLine := Nat.le_trans h.1 hT
    have e : eqO false (.str (Txt.stripChars z (Str.ofString "abcdefghijklmnopqrstuvwxyz"))) (.str (Str.ofString "")) = some (.bl ((sg z).all isL)) := by
      have o : sOk (Txt.stripChars z (Str.ofString "abcdefghijklmnopqrstuvwxyz")) := by
        have e : Txt.stripChars z (Str.ofString "abcdefghijklmnopqrstuvwxyz") = Builtin.Str.strSub z _ _ := PyProof.Rows.stripBy_eq _ _ _ _
        rw [e]
        refine a7_sOk fun c hc => h.2 c ?_
        simp [Builtin.Str.strSub] at hc
        exact List.mem_of_mem_drop (List.mem_of_mem_take hc)
      rw [eq_str o sOk_nil, strip_iff, letters_all]
      rfl
    have c1 : (0 < (z.length : Int)) ↔ 0 < z.length := by omega
    have c2 : ((z.length : Int) ≤ 8) ↔ z.length ≤ 8 := by omega
    have c3 : 1 ≤ z.length ↔ 0 < z.length := by omega
    by_cases q1 : 0 < z.length
    · by_cases q2 : z.length ≤ 8
      · simp [bindM, bindS, retM, optM, m1, m2, m3, mA, mCons, mVar, mPk, mIf, seqS, ifS, asgV, callM, Sto.at, Sto.put, sto0, fnM, asB, asInt, hs, isS, truD, mCh, lenO, hz, lt_int, le_int, c1, c2, c3, q1, q2, mMt, stripO, e, ttl, isT]
      · simp [bindM, bindS, retM, optM, m1, m2, m3, mA, mCons, mVar, mPk, mIf, seqS, ifS, asgV, callM, Sto.at, Sto.put, sto0, fnM, asB, asInt, hs, isS, truD, mCh, lenO, hz, lt_int, le_int, c1, c2, c3, q1, q2, mMt, stripO, e, ttl, isT]
    · simp [bindM, bindS, retM, optM, m1, m2, m3, mA, mCons, mVar, mPk, mIf, seqS, ifS, asgV, callM, Sto.at, Sto.put, sto0, fnM, asB, asInt, hs, isS, truD, mCh, lenO, hz, lt_int, le_int, c1, c2, c3, q1, mMt, stripO, e, ttl, isT]
  | fd => exact absurd rfl (lf_fd h)
  | _ => simp [bindM, bindS, retM, optM, m1, m2, m3, mA, mCons, mVar, mPk, mIf, seqS, ifS, asgV, callM, Sto.at, Sto.put, sto0, fnM, asB, asInt, hs, isS, truD, ttl]
/-- a comprehension without effects -/
theorem lcGo_pure {vs : List Nat} {f : D → Sto → Option Sto} {tt : M Bool} {te : M D} (P : D → Bool) (g : D → D) (s0 : Sto) : ∀ (ds acc : List D), (∀ d ∈ ds, ∃ s1 s2, f d s0 = some s1 ∧ tt s1 = .ok (P d) s2 ∧ (P d = true → ∃ s3, te s2 = .ok (g d) s3 ∧ s3.wipe vs = s0) ∧ (P d = false → s2.wipe vs = s0)) → acc.length + ds.length ≤ sizeLine → lcGo vs f tt te ds acc s0 = .ok (acc ++ (ds.filter P).map g) s0
  | [], acc, _, _ => by simp [lcGo]
  | d :: ds, acc, h, l => by
    obtain ⟨s1, s2, h1, h2, h3, h4⟩ := h d List.mem_cons_self
    rw [List.length_cons] at l
    have l1 : acc.length < sizeLine := by omega
    unfold lcGo
    rw [h1]
    dsimp only
    rw [h2]
    cases p : P d with
    | true =>
      obtain ⟨s3, h5, h6⟩ := h3 p
      dsimp only
      rw [h5]
      dsimp only
      rw [if_pos l1, h6, lcGo_pure P g s0 ds _ (fun x hx => h x (List.mem_cons_of_mem _ hx)) (by rw [List.length_append, List.length_singleton]; omega)]
      simp [p]
    | false =>
      dsimp only
      rw [h4 p, lcGo_pure P g s0 ds _ (fun x hx => h x (List.mem_cons_of_mem _ hx)) (by omega)]
      simp [p]
/-- .. and the law's -/
theorem lc_title (z : Str) (F : Fd) (hz : z.length ≤ 100) : lcGo [1] (tgN 1) (bindM (m2 (inS true) (mPk 1) (retM (.str "abcdefghijklmnopqrstuvwxyz"))) asB) (mVar 1) (chars z) [] ⟨[.val (.str z), .un], F⟩ = .ok (((sg z).filter fun c => !isL c).map fun c => .str ⟨#[c]⟩) ⟨[.val (.str z), .un], F⟩ := by
  have hl : (chars z).length ≤ 100 := by
    unfold chars
    rw [List.length_map]
    have := len_sg z
    show (sg z).length ≤ 100
    omega
  have g := lcGo_pure (vs := [1]) (f := tgN 1) (tt := (bindM (m2 (inS true) (mPk 1) (retM (.str "abcdefghijklmnopqrstuvwxyz"))) asB)) (te := mVar 1) (fun d => match d with | .str x => !(sg x).all isL | _ => false) id ⟨[.val (.str z), .un], F⟩ (chars z) [] (by
    intro d hd
    unfold chars at hd
    obtain ⟨c, hc, rfl⟩ := List.mem_map.mp hd
    have hm : decide (c ∈ (Str.ofString "abcdefghijklmnopqrstuvwxyz").cps.toList) = isL c := by
      rw [← letters c, Bool.eq_iff_iff]
      simp
    have hi : inS true (.str ⟨#[c]⟩) (.str (Str.ofString "abcdefghijklmnopqrstuvwxyz")) = some (.bl (!isL c)) := by
      rw [← hm]
      rfl
    refine ⟨⟨[.val (.str z), .val (.str ⟨#[c]⟩)], F⟩, ⟨[.val (.str z), .val (.str ⟨#[c]⟩)], F⟩, rfl, ?_, fun _ => ⟨⟨[.val (.str z), .val (.str ⟨#[c]⟩)], F⟩, rfl, rfl⟩, fun _ => rfl⟩
    simp [bindM, bindS, retM, optM, m1, m2, m3, mA, mCons, mVar, mPk, mIf, seqS, ifS, asgV, callM, Sto.at, Sto.put, sto0, fnM, asB, asInt, hi, sg]) (by simp; exact Nat.le_trans hl (by decide))
  rw [g]
  congr 1
  unfold chars
  rw [List.nil_append, List.filter_map]
  simp [Function.comp_def, sg]
theorem is_title_ev {d : D} {T : Nat} (h : d.lf T) (hT : T ≤ sizeLine) (F : Fd) : f_l_is_title [d] F = .ok (.bl (ttl d)) F := by
  have hs := isi_str (lf_fd h)
  unfold f_l_is_title m_l_is_title
  cases d with
  | str z =>
    simp only [D.lf] at h
    have hz : z.length ≤ sizeLine := Nat.le_trans h.1 hT
    have c1 : (1 ≤ (z.length : Int)) ↔ 0 < z.length := by omega
    have c2 : ((z.length : Int) ≤ 8) ↔ z.length ≤ 8 := by omega
    have c3 : 1 ≤ z.length ↔ 0 < z.length := by omega
    by_cases q1 : 0 < z.length
    · by_cases q2 : z.length ≤ 8
      · have g := lc_title z F (by omega)
        simp only [m2] at g
        have lf : D.lf 1 (.lst ((List.filter (fun c => !isL c) (sg z)).map fun c => D.str ⟨#[c]⟩)) := by
          simp only [D.lf, lfs_iff, List.mem_map]
          rintro d ⟨c, hc, rfl⟩
          simp only [D.lf]
          refine ⟨by simp [Str.length], fun x hx => ?_⟩
          simp at hx
          subst hx
          exact h.2 _ (List.mem_filter.mp hc).1
        have dp : D.dp (.lst ((List.filter (fun c => !isL c) (sg z)).map fun c => D.str ⟨#[c]⟩)) ≤ 64 := by
          simp only [D.dp]
          have := dps_le (k := 0) (ds := (List.filter (fun c => !isL c) (sg z)).map fun c => D.str ⟨#[c]⟩) |>.mpr (by
            intro d hd
            obtain ⟨c, _, rfl⟩ := List.mem_map.mp hd
            simp [D.dp])
          omega
        have e : eqO false (.lst ((List.filter (fun c => !isL c) (sg z)).map fun c => D.str ⟨#[c]⟩)) (.lst []) = some (.bl ((sg z).all isL)) := by
          obtain ⟨p, hp⟩ := shaped_ok lf dp
          obtain ⟨p1, _⟩ := shapedD_some hp
          have e0 : shapedD (.lst []) = some (.list []) := shaped_cells []
          unfold eqO
          rw [hp, e0]
          simp only [D.toP, Option.map_eq_some_iff] at p1
          obtain ⟨ps, p2, rfl⟩ := p1
          by_cases w : (sg z).all isL = true
          · have : List.filter (fun c => !isL c) (sg z) = [] := by
              rw [List.filter_eq_nil_iff]
              intro c hc
              simp [List.all_eq_true.mp w c hc]
            rw [this] at p2
            simp [D.toPs] at p2
            subst p2
            simp [w, PyData.eqv, PyData.eqvAll]
          · have w2 : (sg z).all isL = false := by simpa using w
            obtain ⟨c, hc, hn⟩ := List.all_eq_false.mp w2
            have : List.filter (fun c => !isL c) (sg z) ≠ [] := by
              intro n
              rw [List.filter_eq_nil_iff] at n
              exact n c hc (by simpa using hn)
            generalize List.filter (fun c => !isL c) (sg z) = r at *
            cases r with
            | nil => exact absurd rfl this
            | cons x r =>
              simp only [List.map_cons, D.toPs, D.toP] at p2
              split at p2
              · cases p2
                simp [w2, PyData.eqv, PyData.eqvAll]
              · cases p2
        simp [bindM, bindS, retM, optM, m1, m2, m3, mA, mCons, mVar, mPk, mIf, seqS, ifS, asgV, callM, Sto.at, Sto.put, sto0, fnM, asB, asInt, hs, isS, truD, mCh, lenO, hz, le_int, c1, c2, c3, q1, q2, lcM, asC, Sto.wipe, lstO, g, e, ttl, isT]
      · simp [bindM, bindS, retM, optM, m1, m2, m3, mA, mCons, mVar, mPk, mIf, seqS, ifS, asgV, callM, Sto.at, Sto.put, sto0, fnM, asB, asInt, hs, isS, truD, mCh, lenO, hz, le_int, c1, c2, c3, q1, q2, ttl, isT]
    · simp [bindM, bindS, retM, optM, m1, m2, m3, mA, mCons, mVar, mPk, mIf, seqS, ifS, asgV, callM, Sto.at, Sto.put, sto0, fnM, asB, asInt, hs, isS, truD, mCh, lenO, hz, le_int, c1, c2, c3, q1, ttl, isT]
  | fd => exact absurd rfl (lf_fd h)
  | _ => simp [bindM, bindS, retM, optM, m1, m2, m3, mA, mCons, mVar, mPk, mIf, seqS, ifS, asgV, callM, Sto.at, Sto.put, sto0, fnM, asB, asInt, hs, isS, truD, ttl]
end K01

set_option linter.all false
set_option maxRecDepth 100000
set_option maxHeartbeats 4000000
namespace K01
open PySem L2 Og Gr
/-! ### the program's own reading of kinds -/
theorem eq_int (i j : Int) (neg : Bool) : eqO neg (.int i) (.int j) = some (.bl (if neg then !(decide (i = j)) else decide (i = j))) := by
  unfold eqO shapedD
  simp [D.toP, SeqAt.shaped, PyData.canLay0, PyData.depth, PyData.eqv]
  rcases Classical.em (i = j) with h | h
  · simp [h]
  · simp [h, beq_false_of_ne h]
theorem sign_ev {z : Str} (oz : sOk z) (a : Nat) (A A1 : Int) (hA : A = a) (hA1 : A1 = A + 1) (w : Str) (c : Nat) (hw : sg w = [c]) (hc : c < 128) (neg : Bool) : eqO neg (.str (cutS z (some A) (some A1))) (.str w) = some (.bl (if neg then !(decide (((sg z).drop a).take 1 = [c])) else decide (((sg z).drop a).take 1 = [c]))) := by
  have e : A1 = ((a + 1 : Nat) : Int) := by omega
  subst hA
  subst e
  have c1 := cut_nat z a (a + 1)
  rw [Nat.add_sub_cancel_left] at c1
  have ow : sOk w := by
    rw [sOk_iff, hw]
    intro x hx
    simp at hx
    omega
  rw [eq_str (sOk_cut oz a (a + 1)) ow]
  have : (cutS z (some (a : Int)) (some ((a + 1 : Nat) : Int)) == w) = decide (((sg z).drop a).take 1 = [c]) := by
    rw [Bool.eq_iff_iff, beq_iff_eq, sg_ext, c1, hw, decide_eq_true_eq]
  rw [this]
theorem opn_at : ∀ (r : W) (i : Nat), i ≤ opn r → ((r.drop i).take 1 = [40] ↔ i < opn r)
  | [], i, h => by simp [opn]
  | c :: r, 0, h => by
    by_cases q : c = 40
    · subst q
      simp [opn]
    · have : (c == 40) = false := by simpa using q
      simp [opn, this, q]
  | c :: r, i + 1, h => by
    by_cases q : c = 40
    · subst q
      have e : opn (40 :: r) = opn r + 1 := by simp [opn]
      rw [e] at h ⊢
      rw [List.drop_succ_cons, opn_at r i (by omega)]
      omega
    · have q2 : (c == 40) = false := by simpa using q
      have : opn (c :: r) = 0 := by simp [opn, q2]
      omega
theorem opn_len (r : W) : opn r ≤ r.length := (List.takeWhile_prefix _).length_le
theorem sg1 : sg (Str.ofString "(") = [40] := by decide +kernel
theorem sg2 : sg (Str.ofString ")") = [41] := by decide +kernel
theorem sg3 : sg (Str.ofString " ") = [32] := by decide +kernel
theorem word_ok (z : Str) (a : Nat) (F : Fd) (hz : z.length ≤ sizeLine) (oz : sOk z) (P P4 : Int) (hP : P = a) (hP4 : P4 = ((a + 4 : Nat) : Int)) (h : ((sg z).drop a).take 4 = sp) : f_p_word_end [.int 0, .str z, .int P, .str " -> "] F = .ok (.int P4) F := by
  have w := word_end_ev z 0 a F hz oz
  rw [← hP] at w
  unfold wpF at w
  split at w
  · rename_i d F' e
    obtain ⟨rfl, _, rfl⟩ := w
    rw [e, hP4]
  · exact absurd h w.2.1
  · exact w.elim
theorem word_no (z : Str) (a : Nat) (F : Fd) (hz : z.length ≤ sizeLine) (oz : sOk z) (P : Int) (hP : P = a) (h : ¬ ((sg z).drop a).take 4 = sp) : ∃ x, f_p_word_end [.int 0, .str z, .int P, .str " -> "] F = .exc x F ∧ x.cls = "InvalidText" := by
  have w := word_end_ev z 0 a F hz oz
  rw [← hP] at w
  unfold wpF at w
  split at w
  · exact absurd w.2.1 h
  · rename_i x F' e
    obtain ⟨rfl, _, c⟩ := w
    exact ⟨x, e, c⟩
  · exact w.elim
theorem take4_len {r : W} (h : r.take 4 = sp) : 4 ≤ r.length := by
  have := congrArg List.length h
  simp [sp] at this
  omega
theorem kind_end_ev (z : Str) (F : Fd) (hz : z.length ≤ 50000) (oz : sOk z) : wpF (f_p_kind_end [.int 0, .str z, .int 0] F) (fun d F' => F' = F ∧ ∃ n : Nat, d = .int n ∧ (n = z.length ↔ Au 0 (sg z))) (fun x F' => F' = F ∧ x.cls = "InvalidText" ∧ ¬ Au 0 (sg z)) := by
  have hz2 : z.length ≤ sizeLine := Nat.le_trans hz (by decide)
  have lz := len_sg z
  refine wpF_fn ?_
  unfold m_p_kind_end
  refine wpS_seq (wpS_asg (wp_ret ?_))
  refine wpS_seq ?_
  refine wpS_while (J := fun n s => ∃ (a d : Nat) (x4 x5 : SV), z.length + 1 ≤ a + n ∧ a ≤ z.length ∧ (Au 0 (sg z) ↔ Au d ((sg z).drop a)) ∧ s = ⟨[.val (.int 0), .val (.str z), .val (.int a), .val (.int d), x4, x5], F⟩) ?_ (z.length + 1) 100000 _ (by omega) ⟨0, 0, .un, .un, by omega, by omega, by simp, rfl⟩
  rintro n s ⟨a, d, x4, x5, hn, ha, hau, rfl⟩
  refine wp_bind (wp_ret (wp_ret ?_))
  rw [if_pos rfl]
  refine ⟨n - 1, by omega, ?_⟩
  refine wpS_seq (wpS_asg (wp_var rfl ?_))
  refine wpS_seq ?_
  have hol := opn_len ((sg z).drop a)
  rw [List.length_drop] at hol
  refine wpS_while (J := fun m s => ∃ (i : Nat) (S : Int), i + m = opn ((sg z).drop a) ∧ S = ((a + i : Nat) : Int) ∧ s = ⟨[.val (.int 0), .val (.str z), .val (.int a), .val (.int d), .val (.int S), x5], F⟩) ?_ (opn ((sg z).drop a)) 100000 _ (by omega) ⟨0, a, by omega, by omega, rfl⟩
  rintro m s ⟨i, S, him, hS, rfl⟩
  have hop := opn_at ((sg z).drop a) i (by omega)
  rw [List.drop_drop] at hop
  have hsg := sign_ev oz (a + i) S (S + 1) hS rfl (Str.ofString "(") 40 sg1 (by decide) false
  simp only [Bool.false_eq_true, if_false] at hsg
  by_cases hlt : i < opn ((sg z).drop a)
  · rw [decide_eq_true (hop.mpr hlt)] at hsg
    simp [bindM, bindS, retM, optM, m1, m2, m3, mA, mCons, mVar, mPk, mIf, seqS, ifS, asgV, callM, Sto.at, Sto.put, sto0, fnM, asB, asInt, wp, wpS, slO, hz2, add_int, hsg]
    exact ⟨m - 1, by omega, i + 1, by omega, by omega⟩
  · rw [decide_eq_false (fun h => hlt (hop.mp h))] at hsg
    have hi : i = opn ((sg z).drop a) := by omega
    have hnm := name_end_ev z 0 (a + i) F hz2
    rw [← hS] at hnm
    have htn := au_turn (d := d) (r := (sg z).drop a)
    rw [← hau] at htn
    unfold turn at htn
    dsimp only at htn
    rw [← hi, List.drop_drop, List.drop_drop] at htn
    have lnm := nam_len ((sg z).drop (a + i))
    rw [List.length_drop] at lnm
    generalize hk : nam ((sg z).drop (a + i)) = nm at *
    obtain ⟨D1, hD1⟩ : ∃ D1 : Int, D1 = ((d + i : Nat) : Int) := ⟨_, rfl⟩
    obtain ⟨D0, hD0⟩ : ∃ D0 : Int, D0 = (d : Int) + S := ⟨_, rfl⟩
    obtain ⟨S1, hS1⟩ : ∃ S1 : Int, S1 = S + 1 := ⟨_, rfl⟩
    have f1 : addO (.int (d : Int)) (.int S) = some (.int D0) := by rw [add_int, hD0]
    have f2 : subI (.int D0) (.int (a : Int)) = some (.int D1) := by
      rw [sub_int]
      congr 2
      omega
    have f3 : gtO (.int D1) (.int 0) = some (.bl (decide (0 < d + i))) := by
      rw [gt_int]
      congr 2
      rw [decide_eq_decide]
      omega
    have f4 : eqO false (.int S) (.int (a : Int)) = some (.bl (decide (i = 0))) := by
      rw [eq_int]
      simp only [Bool.false_eq_true, if_false]
      congr 2
      rw [decide_eq_decide]
      omega
    have f5 : eqO false (.int D1) (.int 0) = some (.bl (decide (d + i = 0))) := by
      rw [eq_int]
      simp only [Bool.false_eq_true, if_false]
      congr 2
      rw [decide_eq_decide]
      omega
    have f6 : addO (.int S) (.int 1) = some (.int S1) := by rw [add_int, hS1]
    rw [← hS1] at hsg
    by_cases hn0 : nm = []
    · rw [if_pos hn0] at hnm htn
      simp only [iff_false] at htn
      by_cases c0 : 0 < d + i <;> simp [bindM, bindS, retM, optM, m1, m2, m3, mA, mCons, mVar, mPk, mIf, seqS, ifS, asgV, callM, Sto.at, Sto.put, sto0, fnM, asB, asInt, wp, wpS, slO, hz2, f1, f2, f3, f4, f6, hsg, c0, hnm, htn]
    · rw [if_neg hn0] at hnm htn
      have ln0 : 0 < nm.length := List.length_pos_iff.mpr hn0
      obtain ⟨p, hp⟩ : ∃ p, p = a + i + nm.length := ⟨_, rfl⟩
      obtain ⟨P, hP⟩ : ∃ P : Int, P = (p : Nat) := ⟨_, rfl⟩
      obtain ⟨P1, hP1⟩ : ∃ P1 : Int, P1 = P + 1 := ⟨_, rfl⟩
      rw [← hp, ← hP] at hnm
      rw [← hp] at htn
      have g1 : addO (.int P) (.int 1) = some (.int P1) := by rw [add_int, hP1]
      have pz : p ≤ z.length := by omega
      have h41 := sign_ev oz p P P1 hP hP1 (Str.ofString ")") 41 sg2 (by decide) false
      have h32 := sign_ev oz p P P1 hP hP1 (Str.ofString " ") 32 sg3 (by decide) true
      simp only [Bool.false_eq_true, if_false, if_true] at h41 h32
      by_cases q1 : 0 < d ∧ i = 0 ∧ ((sg z).drop p).take 1 = [41]
      · rw [if_pos q1] at htn
        obtain ⟨d1, i0, q3⟩ := q1
        have c0 : 0 < d + i := by omega
        rw [decide_eq_true q3] at h41
        unfold aft at htn
        rw [List.drop_drop] at htn
        obtain ⟨D2, hD2⟩ : ∃ D2 : Int, D2 = ((d - 1 : Nat) : Int) := ⟨_, rfl⟩
        have f7 : subI (.int D1) (.int 1) = some (.int D2) := by
          rw [sub_int]
          congr 2
          omega
        by_cases q4 : ((sg z).drop (p + 1)).take 4 = sp
        · have l4 := take4_len q4
          rw [List.length_drop] at l4
          obtain ⟨Q, hQ⟩ : ∃ Q : Int, Q = ((p + 1 + 4 : Nat) : Int) := ⟨_, rfl⟩
          have w := word_ok z (p + 1) F hz2 oz P1 Q (by omega) hQ q4
          rw [if_pos q4, List.drop_drop] at htn
          simp [bindM, bindS, retM, optM, m1, m2, m3, mA, mCons, mVar, mPk, mIf, seqS, ifS, asgV, callM, Sto.at, Sto.put, sto0, fnM, asB, asInt, wp, wpS, slO, hz2, f1, f2, f3, f4, f6, f7, g1, hsg, c0, d1, i0, hnm, truD, h41, w]
          exact ⟨p + 1 + 4, by omega, by omega, d - 1, htn, hQ, hD2⟩
        · obtain ⟨x, w, wc⟩ := word_no z (p + 1) F hz2 oz P1 (by omega) q4
          rw [if_neg q4] at htn
          simp only [iff_false] at htn
          simp [bindM, bindS, retM, optM, m1, m2, m3, mA, mCons, mVar, mPk, mIf, seqS, ifS, asgV, callM, Sto.at, Sto.put, sto0, fnM, asB, asInt, wp, wpS, slO, hz2, f1, f2, f3, f4, f6, f7, g1, hsg, c0, d1, i0, hnm, truD, h41, w, wc, htn]
      · rw [if_neg q1] at htn
        by_cases q5 : d + i = 0 ∧ ((sg z).drop p).take 1 ≠ [32]
        · rw [if_pos q5] at htn
          have c0 : ¬ 0 < d + i := by omega
          rw [decide_eq_false q5.2] at h32
          have hlen : p = z.length ↔ Au 0 (sg z) := by
            rw [htn]
            dsimp only
            rw [List.drop_eq_nil_iff]
            omega
          simp [bindM, bindS, retM, optM, m1, m2, m3, mA, mCons, mVar, mPk, mIf, seqS, ifS, asgV, callM, Sto.at, Sto.put, sto0, fnM, asB, asInt, wp, wpS, slO, hz2, f1, f2, f3, f4, f5, f6, g1, hsg, c0, hnm, truD, q5.1, h32]
          exact ⟨p, hP, hlen⟩
        · rw [if_neg q5] at htn
          have h32' : d + i = 0 → ((sg z).drop p).take 1 = [32] := fun h => Classical.byContradiction fun h2 => q5 ⟨h, h2⟩
          unfold aft at htn
          rcases Nat.eq_zero_or_pos (d + i) with c0 | c0
          · have c1 : ¬ 0 < d + i := by omega
            have i0 : i = 0 := by omega
            have d0 : d = 0 := by omega
            rw [decide_eq_true (h32' c0)] at h32
            rw [decide_eq_false c1] at f3
            rw [decide_eq_true c0] at f5
            by_cases q4 : ((sg z).drop p).take 4 = sp
            · have l4 := take4_len q4
              rw [List.length_drop] at l4
              obtain ⟨Q, hQ⟩ : ∃ Q : Int, Q = ((p + 4 : Nat) : Int) := ⟨_, rfl⟩
              have w := word_ok z p F hz2 oz P Q (by omega) hQ q4
              rw [if_pos q4, List.drop_drop] at htn
              simp [bindM, bindS, retM, optM, m1, m2, m3, mA, mCons, mVar, mPk, mIf, seqS, ifS, asgV, callM, Sto.at, Sto.put, sto0, fnM, asB, asInt, wp, wpS, slO, hz2, f1, f2, f3, f4, f5, f6, g1, hsg, hnm, truD, h32, w]
              exact ⟨p + 4, by omega, by omega, d + i, htn, hQ, hD1⟩
            · obtain ⟨x, w, wc⟩ := word_no z p F hz2 oz P (by omega) q4
              rw [if_neg q4] at htn
              simp only [iff_false] at htn
              simp [bindM, bindS, retM, optM, m1, m2, m3, mA, mCons, mVar, mPk, mIf, seqS, ifS, asgV, callM, Sto.at, Sto.put, sto0, fnM, asB, asInt, wp, wpS, slO, hz2, f1, f2, f3, f4, f5, f6, g1, hsg, hnm, truD, h32, w, wc, htn]
          · have c1 : ¬ d + i = 0 := by omega
            have c2 : ¬ (d = 0 ∧ i = 0) := by omega
            have c3 : d = 0 → ¬ i = 0 := by omega
            by_cases i0 : i = 0
            · have d1 : 0 < d := by omega
              have d2 : ¬ d = 0 := by omega
              have n41 : ¬ ((sg z).drop p).take 1 = [41] := fun h => q1 ⟨d1, i0, h⟩
              rw [decide_eq_false n41] at h41
              by_cases q4 : ((sg z).drop p).take 4 = sp
              · have l4 := take4_len q4
                rw [List.length_drop] at l4
                obtain ⟨Q, hQ⟩ : ∃ Q : Int, Q = ((p + 4 : Nat) : Int) := ⟨_, rfl⟩
                have w := word_ok z p F hz2 oz P Q (by omega) hQ q4
                rw [if_pos q4, List.drop_drop] at htn
                simp [bindM, bindS, retM, optM, m1, m2, m3, mA, mCons, mVar, mPk, mIf, seqS, ifS, asgV, callM, Sto.at, Sto.put, sto0, fnM, asB, asInt, wp, wpS, slO, hz2, f1, f2, f3, f4, f5, f6, g1, hsg, c0, c1, i0, d1, d2, hnm, truD, h41, w]
                exact ⟨p + 4, by omega, by omega, d + i, htn, hQ, hD1⟩
              · obtain ⟨x, w, wc⟩ := word_no z p F hz2 oz P (by omega) q4
                rw [if_neg q4] at htn
                simp only [iff_false] at htn
                simp [bindM, bindS, retM, optM, m1, m2, m3, mA, mCons, mVar, mPk, mIf, seqS, ifS, asgV, callM, Sto.at, Sto.put, sto0, fnM, asB, asInt, wp, wpS, slO, hz2, f1, f2, f3, f4, f5, f6, g1, hsg, c0, c1, i0, d1, d2, hnm, truD, h41, w, wc, htn]
            · by_cases q4 : ((sg z).drop p).take 4 = sp
              · have l4 := take4_len q4
                rw [List.length_drop] at l4
                obtain ⟨Q, hQ⟩ : ∃ Q : Int, Q = ((p + 4 : Nat) : Int) := ⟨_, rfl⟩
                have w := word_ok z p F hz2 oz P Q (by omega) hQ q4
                rw [if_pos q4, List.drop_drop] at htn
                simp [bindM, bindS, retM, optM, m1, m2, m3, mA, mCons, mVar, mPk, mIf, seqS, ifS, asgV, callM, Sto.at, Sto.put, sto0, fnM, asB, asInt, wp, wpS, slO, hz2, f1, f2, f3, f4, f5, f6, g1, hsg, c0, c1, c3, i0, hnm, truD, h41, w]
                exact ⟨p + 4, by omega, by omega, d + i, htn, hQ, hD1⟩
              · obtain ⟨x, w, wc⟩ := word_no z p F hz2 oz P (by omega) q4
                rw [if_neg q4] at htn
                simp only [iff_false] at htn
                simp [bindM, bindS, retM, optM, m1, m2, m3, mA, mCons, mVar, mPk, mIf, seqS, ifS, asgV, callM, Sto.at, Sto.put, sto0, fnM, asB, asInt, wp, wpS, slO, hz2, f1, f2, f3, f4, f5, f6, g1, hsg, c0, c1, c3, i0, hnm, truD, h41, w, wc, htn]
end K01

set_option linter.all false
set_option maxRecDepth 100000
set_option maxHeartbeats 4000000
namespace K01
open PySem L2 Og Gr
open Classical in
noncomputable def knd : D → Bool
  | .str z => decide (Au 0 (sg z))
  | _ => false
theorem kind_end_eq (z : Str) (F : Fd) (hz : z.length ≤ 50000) (oz : sOk z) : (∃ n : Nat, f_p_kind_end [.int 0, .str z, .int 0] F = .ok (.int n) F ∧ (n = z.length ↔ Au 0 (sg z))) ∨ ∃ x, f_p_kind_end [.int 0, .str z, .int 0] F = .exc x F ∧ x.cls = "InvalidText" ∧ ¬ Au 0 (sg z) := by
  have w := kind_end_ev z F hz oz
  unfold wpF at w
  split at w
  · rename_i d F' e
    obtain ⟨rfl, n, rfl, h⟩ := w
    exact .inl ⟨n, e, h⟩
  · rename_i x F' e
    obtain ⟨rfl, h1, h2⟩ := w
    exact .inr ⟨x, e, h1, h2⟩
  · exact w.elim
theorem is_kind_ev {d : D} {T : Nat} (h : d.lf T) (hT : T ≤ 50000) (F : Fd) : f_p_is_kind [d] F = .ok (.bl (knd d)) F := by
  have hs := isi_str (lf_fd h)
  unfold f_p_is_kind m_p_is_kind
  cases d with
  | str z =>
    simp only [D.lf] at h
    have hz : z.length ≤ 50000 := Nat.le_trans h.1 hT
    have hz2 : z.length ≤ sizeLine := Nat.le_trans hz (by decide)
    rcases kind_end_eq z F hz (a7_sOk h.2) with ⟨n, e, w⟩ | ⟨x, e, c, w⟩
    · have q := eq_int (n : Int) (z.length : Int) false
      simp only [Bool.false_eq_true, if_false] at q
      have k : knd (.str z) = decide ((n : Int) = (z.length : Int)) := by
        unfold knd
        rw [decide_eq_decide, ← w]
        omega
      simp [bindM, bindS, retM, optM, m1, m2, m3, mA, mCons, mVar, mPk, mIf, seqS, ifS, asgV, callM, Sto.at, Sto.put, sto0, fnM, asB, asInt, hs, isS, truD, tryS, lenO, hz2, e, q, k]
    · have k : knd (.str z) = false := by
        simp [knd, w]
      simp [bindM, bindS, retM, optM, m1, m2, m3, mA, mCons, mVar, mPk, mIf, seqS, ifS, asgV, callM, Sto.at, Sto.put, sto0, fnM, asB, asInt, hs, isS, truD, tryS, lenO, hz2, e, c, k]
  | fd => exact absurd rfl (lf_fd h)
  | _ => simp [bindM, bindS, retM, optM, m1, m2, m3, mA, mCons, mVar, mPk, mIf, seqS, ifS, asgV, callM, Sto.at, Sto.put, sto0, fnM, asB, asInt, hs, isS, truD, knd]
/-! ### the law's own reading -/
def wd (w : W) : D := .str ⟨w.toArray⟩
theorem wd_sg {z : Str} {w : W} (h : sg z = w) : D.str z = wd w := by
  unfold wd
  congr 1
  rw [sg_ext, h]
theorem sg_wd (w : W) : sg ⟨w.toArray⟩ = w := rfl
theorem cut_none (z : Str) (a : Nat) : sg (cutS z (some (a : Int)) none) = (sg z).drop a := by
  unfold cutS sg
  rw [HT.sIx_nat, HT.sIx_none]
  have h : z.length = z.cps.toList.length := len_sg z
  rw [h]
  generalize z.cps.toList = l
  dsimp only
  rcases Nat.le_total a l.length with h1 | h1
  · rw [Nat.min_eq_left h1, List.take_of_length_le (by rw [List.length_drop]; omega)]
  · rw [Nat.min_eq_right h1, List.drop_of_length_le (Nat.le_refl _), List.drop_of_length_le h1]
    simp
theorem pc_step {c : Nat} {r : W} {d : Int} {cur : W} (h : ¬ (d = 0 ∧ (c :: r).take 4 = sp)) : Pc (c :: r) d cur = Pc r (d + dl c) (cur ++ [c]) := by
  rw [Pc]
  intro z' e1 e2 e3
  exact h ⟨e1, by rw [e2, e3]; rfl⟩
theorem take_snoc {l : W} {s p : Nat} (h : s ≤ p) (hp : p < l.length) : (l.drop s).take (p - s) ++ [l[p]] = (l.drop s).take (p + 1 - s) := by
  have e : p + 1 - s = (p - s) + 1 := by omega
  rw [e, List.take_add_one]
  congr 1
  rw [List.getElem?_drop, show s + (p - s) = p by omega, List.getElem?_eq_getElem hp]
  rfl
theorem arrow_ev {z : Str} (oz : sOk z) (a : Nat) (A A4 : Int) (hA : A = a) (hA4 : A4 = A + 4) : eqO false (.str (cutS z (some A) (some A4))) (.str " -> ") = some (.bl (decide (((sg z).drop a).take 4 = sp))) := by
  have e : A4 = ((a + 4 : Nat) : Int) := by omega
  subst hA
  subst e
  have c1 := cut_nat z a (a + 4)
  rw [Nat.add_sub_cancel_left] at c1
  rw [eq_str (sOk_cut oz a (a + 4)) arrow_ok]
  have : (cutS z (some (a : Int)) (some ((a + 4 : Nat) : Int)) == Str.ofString " -> ") = decide (((sg z).drop a).take 4 = sp) := by
    rw [Bool.eq_iff_iff, beq_iff_eq, sg_ext, c1, arrow_sg, decide_eq_true_eq]
  simp only [Bool.false_eq_true, if_false]
  rw [this]
theorem paren_in (c : Nat) : inS false (.str ⟨#[c]⟩) (.str "()") = some (.bl (decide (c = 40 ∨ c = 41))) := by
  have e : (Str.ofString "()").cps.toList = [40, 41] := by decide +kernel
  show some (D.bl (decide (c ∈ (Str.ofString "()").cps.toList))) = _
  rw [e]
  simp
theorem open_eq (c : Nat) (h : c < 128) : eqO false (.str ⟨#[c]⟩) (.str "(") = some (.bl (decide (c = 40))) := by
  have o : sOk ⟨#[c]⟩ := by
    rw [sOk_iff]
    intro x hx
    simp [sg] at hx
    omega
  have o2 : sOk (Str.ofString "(") := by unfold sOk; decide +kernel
  rw [eq_str o o2]
  have : ((⟨#[c]⟩ : Str) == Str.ofString "(") = decide (c = 40) := by
    rw [Bool.eq_iff_iff, beq_iff_eq, sg_ext, sg1, decide_eq_true_eq]
    simp [sg]
  simp only [Bool.false_eq_true, if_false]
  rw [this]
theorem one_line : 1 ≤ sizeLine := by decide
theorem asR_nat (n : Nat) (h : n ≤ 1000000) (s : Sto) : asR (.int (n : Nat)) s = .ok (rngD n) s := by
  have h2 : -(2 ^ 62) ≤ ((n : Nat) : Int) ∧ ((n : Nat) : Int) < 2 ^ 62 := by
    have : (2 : Int) ^ 62 = 4611686018427387904 := by decide
    omega
  unfold asR
  dsimp only
  rw [if_pos h2]
  rfl
def rst (z : Str) (p : Nat) : List D := ((List.range z.length).drop p).map (fun i => D.int (i : Nat))
theorem rst_len (z : Str) (p : Nat) : (rst z p).length = z.length - p := by simp [rst]
theorem rst_cons (z : Str) (p : Nat) (h : p < z.length) : rst z p = .int (p : Nat) :: rst z (p + 1) := by
  unfold rst
  have hl : (List.range z.length).drop p = p :: (List.range z.length).drop (p + 1) := by
    rw [List.drop_eq_getElem_cons (by simpa using h)]
    simp
  rw [hl, List.map_cons]
def PJ (z : Str) (F : Fd) (ds : List D) (s : Sto) : Prop := ∃ (p st sk : Nat) (dep : Int) (found : List W) (x5 : SV), p ≤ z.length ∧ ds = rst z p ∧ s = ⟨[.val (.str z), .own (found.map wd), .val (.int st), .val (.int dep), .val (.int sk), x5], F⟩ ∧ found.length ≤ p ∧ (sk = 0 ∧ st ≤ p ∧ found ++ Pc ((sg z).drop p) dep (((sg z).drop st).take (p - st)) = Pc (sg z) 0 [] ∨ 0 < sk ∧ st = p + sk ∧ dep = 0 ∧ st ≤ z.length ∧ found ++ Pc ((sg z).drop st) 0 [] = Pc (sg z) 0 [])
theorem pieces_ev (z : Str) (F : Fd) (hz : z.length ≤ 50000) (az : A7 z) : f_l_pieces [.str z] F = .ok (.lst ((Pc (sg z) 0 []).map wd)) F := by
  have hz2 : z.length ≤ sizeLine := Nat.le_trans hz (by decide)
  have lz := len_sg z
  have oz := a7_sOk az
  have g : wpF (f_l_pieces [.str z] F) (fun d F' => d = .lst ((Pc (sg z) 0 []).map wd) ∧ F' = F) (fun _ _ => False) := by
    refine wpF_fn ?_
    unfold m_l_pieces
    refine wpS_seq ?_
    have par : wpS (par4S 1 2 3 4 (mCons (bindM (retM []) fun ds => optM (lstO ds)) (mCons (retM (.int 0)) (mCons (retM (.int 0)) (mCons (retM (.int 0)) (retM [])))))) (sto0 6 [.str z] F) { nx := fun t => t = ⟨[.val (.str z), .own [], .val (.int 0), .val (.int 0), .val (.int 0), .un], F⟩ } := by
      simp [bindM, bindS, retM, optM, m1, m2, m3, mA, mCons, mVar, mPk, mIf, seqS, ifS, asgV, callM, Sto.at, Sto.put, sto0, fnM, asB, asInt, wpS, par4S, lstO]
    refine wpS_mono par ?_ (fun _ _ h => h.elim) (fun _ h => h.elim) (fun _ h => h.elim) (fun _ _ h => h.elim)
    rintro t rfl
    refine wpS_seq (wpS_bind ?_)
    have hr : wp (bindM (mA lenO (mCons (mPk 0) (retM []))) asR) ⟨[.val (.str z), .own [], .val (.int 0), .val (.int 0), .val (.int 0), .un], F⟩ (fun ds t => ds = rngD z.length ∧ t = ⟨[.val (.str z), .own [], .val (.int 0), .val (.int 0), .val (.int 0), .un], F⟩) (fun _ _ => False) := by
      have r := asR_nat z.length (by omega)
      simp [bindM, bindS, retM, optM, m1, m2, m3, mA, mCons, mVar, mPk, mIf, seqS, ifS, asgV, callM, Sto.at, Sto.put, sto0, fnM, asB, asInt, wp, lenO, hz2, r]
    refine wp_mono hr ?_
    rintro ds t ⟨rfl, rfl⟩
    refine wpS_for (J := PJ z F) ?_ ?_ _ _ ⟨0, 0, 0, 0, [], .un, by omega, rfl, rfl, by simp, .inl ⟨rfl, by omega, by simp⟩⟩
    · rintro t ⟨p, st, sk, dep, found, x5, hp, hds, rfl, hf, hinv⟩
      have hp2 : p = z.length := by
        have := congrArg List.length hds
        rw [rst_len] at this
        simp at this
        omega
      rcases hinv with ⟨rfl, h1, h2⟩ | ⟨h1, h2, _, h3, _⟩
      · have c := cut_none z st
        have e : sg (cutS z (some (st : Int)) none) = ((sg z).drop st).take (p - st) := by
          rw [c, List.take_of_length_le]
          rw [List.length_drop]
          omega
        have l1 : found.length + 1 ≤ sizeLine := Nat.le_trans (by omega : found.length + 1 ≤ 60000) (by decide)
        rw [List.drop_of_length_le (by omega)] at h2
        have pn : ∀ (d : Int) (cur : W), Pc [] d cur = [cur] := fun _ _ => by rw [Pc]
        rw [pn] at h2
        simp [bindM, bindS, retM, optM, m1, m2, m3, mA, mCons, mVar, mPk, mIf, seqS, ifS, asgV, callM, Sto.at, Sto.put, sto0, fnM, asB, asInt, wpS, slO, hz2, addL, lstO, l1, one_line, ← h2, wd_sg e]
      · omega
    · rintro d ds t ⟨p, st, sk, dep, found, x5, hp, hds, rfl, hf, hinv⟩
      have hlt : p < z.length := by
        have := congrArg List.length hds
        rw [rst_len] at this
        simp at this
        omega
      rw [rst_cons z p hlt] at hds
      obtain ⟨rfl, rfl⟩ := List.cons.inj hds
      refine ⟨_, rfl, ?_⟩
      obtain ⟨P, hP⟩ : ∃ P : Int, P = ((p : Nat) : Int) := ⟨_, rfl⟩
      obtain ⟨P4, hP4⟩ : ∃ P4 : Int, P4 = P + 4 := ⟨_, rfl⟩
      rw [← hP]
      have f1 : addO (.int P) (.int 4) = some (.int P4) := by rw [add_int, hP4]
      have ha := arrow_ev oz p P P4 hP hP4
      have hd := eq_int dep 0 false
      simp only [Bool.false_eq_true, if_false] at hd
      have dr : (sg z).drop p = (sg z)[p]'(by omega) :: (sg z).drop (p + 1) := List.drop_eq_getElem_cons (by omega)
      have ix : ixO (.str z) (.int P) = some (.str ⟨#[(sg z)[p]'(by omega)]⟩) := by
        have := ix_str (k := p) hz2 (by omega)
        rw [← hP] at this
        exact this
      have f2 : addO (.int P) (.int 1) = some (.int (P + 1)) := add_int _ _
      have hc : (sg z)[p]'(by omega) < 128 := az _ (List.getElem_mem _)
      rcases hinv with ⟨rfl, h1, h2⟩ | ⟨h1, h2, rfl, h3, h4⟩
      · by_cases q : dep = 0 ∧ ((sg z).drop p).take 4 = sp
        · obtain ⟨rfl, q2⟩ := q
          have l4 := take4_len q2
          rw [List.length_drop] at l4
          rw [decide_eq_true q2] at ha
          have e4 : (sg z).drop p = sp ++ (sg z).drop (p + 4) := by
            rw [← q2, ← List.drop_drop, List.take_append_drop]
          rw [e4, pc_arrow] at h2
          have l1 : found.length < sizeLine := Nat.lt_of_le_of_lt (by omega : found.length ≤ 60000) (by decide)
          have c := cut_nat z st p
          rw [← hP] at c
          simp [bindM, bindS, retM, optM, m1, m2, m3, mA, mCons, mVar, mPk, mIf, seqS, ifS, asgV, callM, Sto.at, Sto.put, sto0, fnM, asB, asInt, wpS, gt_int, hd, slO, hz2, f1, ha, appS, l1, wd_sg c, parS]
          exact ⟨p + 1, p + 4, 3, 0, found ++ [((sg z).drop st).take (p - st)], (.val (.int P)), by omega, rfl, by rw [show ((p + 4 : Nat) : Int) = P4 by omega]; simp, by simp; omega, .inr ⟨by omega, by omega, rfl, by omega, by simpa using h2⟩⟩
        · have st2 := pc_step (r := (sg z).drop (p + 1)) (cur := ((sg z).drop st).take (p - st)) (d := dep) (c := (sg z)[p]'(by omega)) (by rw [← dr]; exact q)
          rw [dr, st2, take_snoc (by omega) (by omega)] at h2
          have pin := paren_in ((sg z)[p]'(by omega))
          have opn := open_eq ((sg z)[p]'(by omega)) hc
          have dlc : dl ((sg z)[p]'(by omega)) = if (sg z)[p]'(by omega) = 40 then 1 else if (sg z)[p]'(by omega) = 41 then -1 else 0 := rfl
          generalize (sg z)[p]'(by omega) = c at *
          have nx : PJ z F (rst z (p + 1)) ⟨[.val (.str z), .own (found.map wd), .val (.int st), .val (.int (dep + dl c)), .val (.int 0), .val (.int P)], F⟩ :=
            ⟨p + 1, st, 0, dep + dl c, found, _, by omega, rfl, rfl, by omega, .inl ⟨rfl, by omega, h2⟩⟩
          obtain ⟨D1, hD1⟩ : ∃ D1 : Int, D1 = dep + dl c := ⟨_, rfl⟩
          rw [← hD1] at nx
          obtain ⟨M1, hM1⟩ : ∃ M1 : Int, M1 = -1 := ⟨_, rfl⟩
          have ng : negO (.int 1) = some (.int M1) := by rw [hM1]; rfl
          have gz : gtO (.int 0) (.int 0) = some (.bl false) := by rw [gt_int]; rfl
          have fin : ∀ b1 b2 : Bool, (b1 = true → b2 = false) → eqO false (.int dep) (.int 0) = some (.bl b1) → eqO false (.str (cutS z (some P) (some P4))) (.str " -> ") = some (.bl b2) → wpS (seqS (ifS (bindM (m2 gtO (mPk 4) (retM (.int 0))) asB) (seqS (asgV 4 (m2 subI (mPk 4) (retM (.int 1)))) (fun s => .nx s)) (seqS (ifS (mIf (bindM (m2 (eqO false) (mPk 3) (retM (.int 0))) asB) (bindM (m2 (eqO false) (m3 slO (mPk 0) (bindM (mPk 5) asInt) (bindM (m2 addO (mPk 5) (retM (.int 4))) asInt)) (retM (.str " -> "))) asB) (retM false)) (seqS (appS 1 (m3 slO (mPk 0) (bindM (mPk 2) asInt) (bindM (mPk 5) asInt))) (seqS (parS 2 4 (mCons (m2 addO (mPk 5) (retM (.int 4))) (mCons (retM (.int 3)) (retM [])))) (fun s => .nx s))) (seqS (ifS (bindM (m2 (inS false) (m2 ixO (mPk 0) (mPk 5)) (retM (.str "()"))) asB) (seqS (asgV 3 (m2 addO (mPk 3) (mIf (bindM (m2 (eqO false) (m2 ixO (mPk 0) (mPk 5)) (retM (.str "("))) asB) (retM (.int 1)) (m1 negO (retM (.int 1)))))) (fun s => .nx s)) (fun s => .nx s)) (fun s => .nx s))) (fun s => .nx s))) (fun s => .nx s)) ⟨[.val (.str z), .own (found.map wd), .val (.int st), .val (.int dep), .val (.int 0), .val (.int P)], F⟩ { nx := PJ z F (rst z (p + 1)) } := by
            intro b1 b2 hb hd ha
            by_cases c40 : c = 40
            · subst c40
              simp at pin opn dlc
              rw [dlc] at hD1
              have e0 : addO (.int dep) (.int 1) = some (.int D1) := by rw [add_int, hD1]
              cases b1 with
              | true =>
                rw [hb rfl] at ha
                simp [bindM, bindS, retM, optM, m1, m2, m3, mA, mCons, mVar, mPk, mIf, seqS, ifS, asgV, callM, Sto.at, Sto.put, sto0, fnM, asB, asInt, wpS, gz, hd, slO, hz2, f1, ha, ix, pin, opn, e0, nx]
              | false => simp [bindM, bindS, retM, optM, m1, m2, m3, mA, mCons, mVar, mPk, mIf, seqS, ifS, asgV, callM, Sto.at, Sto.put, sto0, fnM, asB, asInt, wpS, gz, hd, slO, hz2, f1, ix, pin, opn, e0, nx]
            · by_cases c41 : c = 41
              · subst c41
                simp at pin opn dlc
                rw [dlc] at hD1
                have e0 : addO (.int dep) (.int M1) = some (.int D1) := by rw [add_int, hD1, hM1]
                cases b1 with
                | true =>
                  rw [hb rfl] at ha
                  simp [bindM, bindS, retM, optM, m1, m2, m3, mA, mCons, mVar, mPk, mIf, seqS, ifS, asgV, callM, Sto.at, Sto.put, sto0, fnM, asB, asInt, wpS, gz, hd, slO, hz2, f1, ha, ix, pin, opn, e0, nx, ng]
                | false => simp [bindM, bindS, retM, optM, m1, m2, m3, mA, mCons, mVar, mPk, mIf, seqS, ifS, asgV, callM, Sto.at, Sto.put, sto0, fnM, asB, asInt, wpS, gz, hd, slO, hz2, f1, ix, pin, opn, e0, nx, ng]
              · rw [decide_eq_false (by omega)] at pin
                rw [if_neg c40, if_neg c41] at dlc
                rw [dlc, Int.add_zero] at hD1
                subst hD1
                cases b1 with
                | true =>
                  rw [hb rfl] at ha
                  simp [bindM, bindS, retM, optM, m1, m2, m3, mA, mCons, mVar, mPk, mIf, seqS, ifS, asgV, callM, Sto.at, Sto.put, sto0, fnM, asB, asInt, wpS, gz, hd, slO, hz2, f1, ha, ix, pin, nx]
                | false => simp [bindM, bindS, retM, optM, m1, m2, m3, mA, mCons, mVar, mPk, mIf, seqS, ifS, asgV, callM, Sto.at, Sto.put, sto0, fnM, asB, asInt, wpS, gz, hd, slO, hz2, f1, ix, pin, nx]
          refine wpS_mono (fin _ _ ?_ hd ha) (fun t h => h) (fun _ _ h => h.elim) (fun _ h => h.elim) (fun _ h => h.elim) (fun _ _ h => h.elim)
          intro h
          exact decide_eq_false fun h2 => q ⟨by simpa using h, h2⟩
      · obtain ⟨SK, hSK⟩ : ∃ SK : Int, SK = ((sk : Nat) : Int) := ⟨_, rfl⟩
        have g1 : gtO (.int SK) (.int 0) = some (.bl true) := by
          rw [gt_int]
          congr 2
          exact decide_eq_true (by omega)
        obtain ⟨SK1, hSK1⟩ : ∃ SK1 : Int, SK1 = ((sk - 1 : Nat) : Int) := ⟨_, rfl⟩
        have g2 : subI (.int SK) (.int 1) = some (.int SK1) := by
          rw [sub_int]
          congr 2
          omega
        rw [← hSK]
        simp [bindM, bindS, retM, optM, m1, m2, m3, mA, mCons, mVar, mPk, mIf, seqS, ifS, asgV, callM, Sto.at, Sto.put, sto0, fnM, asB, asInt, wpS, g1, g2]
        refine ⟨p + 1, st, sk - 1, 0, found, _, by omega, rfl, by rw [hSK1], by omega, ?_⟩
        by_cases z1 : sk = 1
        · refine .inl ⟨by omega, by omega, ?_⟩
          rw [show p + 1 - st = 0 by omega, show p + 1 = st by omega]
          simpa using h4
        · exact .inr ⟨by omega, by omega, rfl, h3, h4⟩
  unfold wpF at g
  split at g
  · rename_i d F' e
    rw [e, g.1, g.2]
  · exact g.elim
  · exact g.elim
end K01

set_option linter.all false
set_option maxRecDepth 100000
set_option maxHeartbeats 4000000
namespace K01
open PySem L2 Og Gr
theorem jn_mem : ∀ {l : List W} {w : W}, w ∈ l → w.length ≤ (jn l).length ∧ ∀ c ∈ w, c ∈ jn l
  | [a], w, h => by
    simp at h
    subst h
    exact ⟨Nat.le_refl _, fun c hc => hc⟩
  | a :: b :: r, w, h => by
    rw [jn_cons (by simp)]
    rcases List.mem_cons.mp h with rfl | h
    · exact ⟨by simp, fun c hc => List.mem_append_left _ hc⟩
    · have ih := jn_mem h
      refine ⟨by simp; omega, fun c hc => ?_⟩
      exact List.mem_append_right _ (List.mem_append_right _ (ih.2 c hc))
theorem two_line : 2 ≤ sizeLine := by decide
theorem jn_len : ∀ (l : List W), l.length ≤ (jn l).length + 1
  | [] => by simp
  | [a] => by simp
  | a :: b :: r => by
    have ih := jn_len (b :: r)
    rw [jn_cons (by simp)]
    simp [sp] at ih ⊢
    omega
theorem jn_front : ∀ {ps : List W} {t w : W}, w ∈ ps → w.length + 4 + t.length ≤ (jn (ps ++ [t])).length
  | a :: r, t, w, h => by
    rw [List.cons_append, jn_cons (by simp)]
    rcases List.mem_cons.mp h with rfl | h
    · have := (jn_mem (l := r ++ [t]) (w := t) (by simp)).1
      simp [sp]
      omega
    · have ih := jn_front (t := t) h
      simp [sp]
      omega
theorem pc_last (z : W) : ∃ ps t, Pc z 0 [] = ps ++ [t] ∧ jn (ps ++ [t]) = z := by
  have h := pc_ne z.length z 0 [] (Nat.le_refl _)
  refine ⟨(Pc z 0 []).dropLast, (Pc z 0 []).getLast h, (List.dropLast_concat_getLast h).symm, ?_⟩
  rw [List.dropLast_concat_getLast h]
  simpa using pc_join z.length z 0 [] (Nat.le_refl _)
theorem pr_uniq {n : Nat} {z : W} {a b : Bool} (h1 : Pr n z a) (h2 : Pr n z b) : a = b := by
  cases n with
  | zero => exact h1.elim
  | succ n =>
    obtain ⟨ps, t, e1, _, rfl, _⟩ := h1
    obtain ⟨qs, u, e2, _, rfl, _⟩ := h2
    rw [e1] at e2
    have := (List.append_inj' e2 rfl).1
    rw [this]
theorem sIx_m1 (n d : Nat) : HT.sIx n d (some (-1 : Int)) = n - 1 := by
  show (if (-1 : Int) < 0 then ((-1 : Int) + (n : Int)).toNat else min (-1 : Int).toNat n) = n - 1
  rw [if_pos (by omega)]
  omega
theorem sIx_1 (n d : Nat) : HT.sIx n d (some (1 : Int)) = min 1 n := HT.sIx_nat n d 1
theorem cut_first (z : Str) : sg (cutS z none (some (1 : Int))) = (sg z).take 1 := by
  unfold cutS
  rw [HT.sIx_none, sIx_1, len_sg]
  unfold sg
  dsimp only
  generalize z.cps.toList = l
  cases l <;> simp
theorem cut_lastI (z : Str) : sg (cutS z (some (-1 : Int)) none) = (sg z).drop ((sg z).length - 1) := by
  unfold cutS
  rw [HT.sIx_none, sIx_m1, len_sg]
  unfold sg
  dsimp only
  rw [List.take_of_length_le]
  rw [List.length_drop]
  exact Nat.le_refl _
theorem cut_mid (z : Str) : sg (cutS z (some (1 : Int)) (some (-1 : Int))) = ((sg z).drop 1).take ((sg z).length - 2) := by
  unfold cutS
  rw [sIx_1, sIx_m1, len_sg]
  unfold sg
  dsimp only
  generalize z.cps.toList = l
  cases l with
  | nil => simp
  | cons c l =>
    have e : min 1 (c :: l).length = 1 := by simp
    rw [e]
    congr 1
theorem paren_form (p : W) : (p.take 1 = [40] ∧ p.drop (p.length - 1) = [41]) ↔ ∃ k, p = 40 :: (k ++ [41]) := by
  constructor
  · rintro ⟨h1, h2⟩
    cases p with
    | nil => simp at h1
    | cons c r =>
      simp at h1
      subst h1
      rcases List.eq_nil_or_concat r with rfl | ⟨k, x, rfl⟩
      · simp at h2
      · refine ⟨k, ?_⟩
        simp at h2
        simp [h2]
  · rintro ⟨k, rfl⟩
    simp
theorem one_T {p : W} : ttl (wd p) = true ↔ Ttl p := isT_iff
theorem lf_wd {T : Nat} {p : W} (h1 : p.length ≤ T) (h2 : ∀ c ∈ p, c < 128) : (wd p).lf T := by
  unfold wd
  simp only [D.lf]
  exact ⟨by rw [len_sg]; exact h1, h2⟩
theorem eq_w {x : Str} (hx : sOk x) (w : Str) (c : Nat) (hw : sg w = [c]) (hc : c < 128) : eqO false (.str x) (.str w) = some (.bl (decide (sg x = [c]))) := by
  have ow : sOk w := by
    rw [sOk_iff, hw]
    intro y hy
    simp at hy
    omega
  rw [eq_str hx ow]
  have : (x == w) = decide (sg x = [c]) := by
    rw [Bool.eq_iff_iff, beq_iff_eq, sg_ext, hw, decide_eq_true_eq]
  simp only [Bool.false_eq_true, if_false]
  rw [this]
theorem eq_nilT {T : Nat} {ds : List D} (h : (D.tup ds).lf T) (hd : (D.tup ds).dp ≤ 64) (neg : Bool) : eqO neg (.tup ds) (.tup []) = some (.bl (if neg then !ds.isEmpty else ds.isEmpty)) := by
  obtain ⟨p, hp⟩ := shaped_ok h hd
  obtain ⟨p1, _⟩ := shapedD_some hp
  have e0 : shapedD (.tup []) = some (.tuple []) := by
    unfold shapedD
    simp [D.toP, D.toPs, SeqAt.shaped, PyData.canLay0, PyData.canLayAll0, PyData.depth, PyData.depthAll]
  unfold eqO
  rw [hp, e0]
  simp only [D.toP, Option.map_eq_some_iff] at p1
  obtain ⟨ps, p2, rfl⟩ := p1
  cases ds with
  | nil =>
    simp [D.toPs] at p2
    subst p2
    simp [PyData.eqv, PyData.eqvAll]
  | cons d ds =>
    simp only [D.toPs] at p2
    split at p2
    · cases p2
      simp [PyData.eqv, PyData.eqvAll]
    · cases p2
def Gd (n : Nat) (p : W) : Prop := Ttl p ∨ ∃ k, p = 40 :: (k ++ [41]) ∧ Pr n k true
def QJ (n : Nat) (z : Str) (F : Fd) (ps : List W) (words : D) (ds : List D) (s : Sto) : Prop := ∃ (done rest : List W) (found : List D) (x3 x4 : SV), ps = done ++ rest ∧ ds = rest.map wd ∧ s = ⟨[.val (.str z), .own found, .val words, x3, x4], F⟩ ∧ (∀ p ∈ done, Gd n p) ∧ found.length = done.length ∧ ∀ f ∈ found, f.lf 400 ∧ f.dp ≤ z.length / 3
theorem at_last (l : List D) (t : D) : L2.atI (l ++ [t]) (-1 : Int) = some t := by
  unfold L2.atI L2.ixN
  rw [if_neg (by omega), if_pos (by simp; omega)]
  simp
  rw [show ((-1 : Int) + ((l.length : Int) + 1)).toNat = l.length by omega]
  simp
theorem cut_init (l : List D) (t : D) : cutD (l ++ [t]) none (some (-1 : Int)) = l := by
  unfold cutD
  rw [HT.sIx_none, sIx_m1]
  simp
def Parsed (n : Nat) (z : Str) (F : Fd) (o : OutF) : Prop := ∃ r, o = .ok r F ∧ ((r = .non ∧ ¬ ∃ b, Pr n (sg z) b) ∨ ∃ ds e, r = .tup [.tup ds, e] ∧ Pr n (sg z) (!ds.isEmpty) ∧ r.lf 400 ∧ r.dp ≤ 2 + z.length / 3)
theorem parsed_ev : ∀ (n : Nat) (z : Str) (F : Fd), A7 z → z.length < 2 * n → z.length ≤ 400 → Parsed n z F (f_l_parsed n [.str z] F)
  | 0, z, F, _, h, _ => absurd h (Nat.not_lt_zero _)
  | n + 1, z, F, az, hn, hz => by
    have hz2 : z.length ≤ sizeLine := Nat.le_trans hz (by decide)
    have lz := len_sg z
    obtain ⟨ps, t, hpc, hjn⟩ := pc_last (sg z)
    have pe := pieces_ev z F (by omega) az
    rw [hpc] at pe
    have mem : ∀ w ∈ ps ++ [t], w.length ≤ 400 ∧ ∀ c ∈ w, c < 128 := fun w hw => by
      have := jn_mem hw
      rw [hjn] at this
      exact ⟨by omega, fun c hc => az c (this.2 c hc)⟩
    have tt := is_title_ev (d := wd t) (T := 400) (lf_wd (mem t (by simp)).1 (mem t (by simp)).2) (by decide) F
    have isz := isi_str (d := .str z) (fun h => nomatch h)
    obtain ⟨M1, hM1⟩ : ∃ M1 : Int, M1 = -1 := ⟨_, rfl⟩
    have ng : negO (.int 1) = some (.int M1) := by rw [hM1]; rfl
    have ixw : ixO (.lst ((ps ++ [t]).map wd)) (.int M1) = some (wd t) := by
      rw [hM1, List.map_append]
      exact at_last _ _
    have slw : slL (.lst ((ps ++ [t]).map wd)) none (some M1) = some (.lst (ps.map wd)) := by
      rw [hM1, List.map_append]
      show some (D.lst (cutD _ _ _)) = _
      rw [List.map_singleton, cut_init]
    obtain ⟨ws, hws⟩ : ∃ ws, ws = (ps ++ [t]).map wd := ⟨_, rfl⟩
    rw [← hws] at pe ixw slw
    show Parsed (n + 1) z F (fnM 5 (m_l_parsed (f_l_parsed n)) [.str z] F)
    by_cases ht : Ttl t
    · rw [one_T.mpr ht] at tt
      have g : wpF (fnM 5 (m_l_parsed (f_l_parsed n)) [.str z] F) (fun d F' => Parsed (n + 1) z F (.ok d F')) (fun _ _ => False) := by
        refine wpF_fn ?_
        unfold m_l_parsed
        refine wpS_seq (wpS_if ?_)
        have w1 : wp (bindM (bindM (m1 (isiO "str") (mPk 0)) fun d => optM (truD d)) fun v => retM (!v)) (sto0 5 [.str z] F) (fun k s1 => k = false ∧ s1 = ⟨[.val (.str z), .un, .un, .un, .un], F⟩) (fun _ _ => False) := by
          simp [bindM, bindS, retM, optM, m1, m2, m3, mA, mCons, mVar, mPk, mIf, seqS, ifS, asgV, callM, Sto.at, Sto.put, sto0, fnM, asB, asInt, wp, isz, isS, truD]
        refine wp_mono w1 ?_
        rintro k s1 ⟨rfl, rfl⟩
        rw [if_neg Bool.false_ne_true]
        refine wpS_nil ?_
        refine wpS_seq ?_
        have w2 : wpS (parLS 1 2 (mCons (bindM (retM []) fun ds => optM (lstO ds)) (mCons (callM 1 f_l_pieces (mCons (mVar 0) (retM []))) (retM [])))) ⟨[.val (.str z), .un, .un, .un, .un], F⟩ { nx := fun s => s = ⟨[.val (.str z), .own [], .val (.lst ws), .un, .un], F⟩ } := by
          simp [bindM, bindS, retM, optM, m1, m2, m3, mA, mCons, mVar, mPk, mIf, seqS, ifS, asgV, callM, Sto.at, Sto.put, sto0, fnM, asB, asInt, wpS, parLS, lstO, pe]
        refine wpS_mono w2 ?_ (fun _ _ h => h.elim) (fun _ h => h.elim) (fun _ h => h.elim) (fun _ _ h => h.elim)
        rintro _ rfl
        refine wpS_seq ?_
        have w3 : wpS (ifS (bindM (bindM (callM 1 f_l_is_title (mCons (m2 ixO (mPk 2) (m1 negO (retM (.int 1)))) (retM []))) fun d => optM (truD d)) fun v => retM (!v)) (seqS (bindS (retM .non) fun d s => .rt d s) (fun s => .nx s)) (fun s => .nx s)) ⟨[.val (.str z), .own [], .val (.lst ws), .un, .un], F⟩ { nx := fun s => s = ⟨[.val (.str z), .own [], .val (.lst ws), .un, .un], F⟩ } := by
          simp [bindM, bindS, retM, optM, m1, m2, m3, mA, mCons, mVar, mPk, mIf, seqS, ifS, asgV, callM, Sto.at, Sto.put, sto0, fnM, asB, asInt, wpS, ng, ixw, tt, truD]
        refine wpS_mono w3 ?_ (fun _ _ h => h.elim) (fun _ h => h.elim) (fun _ h => h.elim) (fun _ _ h => h.elim)
        rintro _ rfl
        refine wpS_seq (wpS_bind ?_)
        have w4 : wp (bindM (m3 slL (mPk 2) (retM none) (bindM (m1 negO (retM (.int 1))) asInt)) asL) ⟨[.val (.str z), .own [], .val (.lst ws), .un, .un], F⟩ (fun ds s => ds = ps.map wd ∧ s = ⟨[.val (.str z), .own [], .val (.lst ws), .un, .un], F⟩) (fun _ _ => False) := by
          simp [bindM, bindS, retM, optM, m1, m2, m3, mA, mCons, mVar, mPk, mIf, seqS, ifS, asgV, callM, Sto.at, Sto.put, sto0, fnM, asB, asInt, wp, ng, slw, asL]
        refine wp_mono w4 ?_
        rintro ds s1 ⟨rfl, rfl⟩
        refine wpS_for (J := QJ n z F ps (.lst ws)) ?_ ?_ _ _ ⟨[], ps, [], .un, .un, rfl, rfl, rfl, (fun _ h => nomatch h), rfl, (fun _ h => nomatch h)⟩
        · rintro s ⟨done, rest, found, x3, x4, hps, hds, rfl, hg, hl, hf⟩
          have hr : rest = [] := by
            have := congrArg List.length hds
            simpa using this.symm
          subst hr
          rw [List.append_nil] at hps
          subst hps
          have l1 : D.lf 400 (.tup [.tup found, wd t]) := by
            simp only [D.lf, D.lfs]
            exact ⟨lfs_iff.mpr fun f h => (hf f h).1, lf_wd (mem t (by simp)).1 (mem t (by simp)).2, trivial⟩
          have d0 : D.dps found ≤ z.length / 3 := dps_le.mpr fun f h => (hf f h).2
          have dw : (wd t).dp = 0 := rfl
          have d1 : D.dp (.tup [.tup found, wd t]) ≤ 2 + z.length / 3 := by
            simp only [D.dp, D.dps, dw]
            omega
          have res : Parsed (n + 1) z F (.ok (.tup [.tup found, wd t]) F) := by
            refine ⟨_, rfl, .inr ⟨found, wd t, rfl, ?_, l1, d1⟩⟩
            refine ⟨ps, t, hpc, ht, ?_, hg⟩
            cases found <;> cases ps <;> simp at hl ⊢
          simp [bindM, bindS, retM, optM, m1, m2, m3, mA, mCons, mVar, mPk, mIf, seqS, ifS, asgV, callM, Sto.at, Sto.put, sto0, fnM, asB, asInt, wpS, ng, ixw, tupO, tupleO, two_line, res]
        · rintro d ds s ⟨done, rest, found, x3, x4, hps, hds, rfl, hg, hl, hf⟩
          cases rest with
          | nil => simp at hds
          | cons p rest =>
            rw [List.map_cons] at hds
            obtain ⟨rfl, rfl⟩ := List.cons.inj hds
            refine ⟨_, rfl, ?_⟩
            have hmem : p ∈ ps := by rw [hps]; simp
            have lw := mem p (by simp [hmem])
            have lfr := jn_front (t := t) hmem
            rw [hjn] at lfr
            have t1 : 1 ≤ t.length := ht.1
            have tp := is_title_ev (d := wd p) (T := 400) (lf_wd lw.1 lw.2) (by decide) F
            have lps := jn_len (ps ++ [t])
            rw [hjn, ← lz, List.length_append, List.length_singleton] at lps
            have lf1 : found.length < sizeLine := by
              have : found.length ≤ 400 := by
                have := congrArg List.length hps
                simp at this
                omega
              exact Nat.lt_of_le_of_lt this (by decide)
            have step : ∀ f : D, Gd n p → f.lf 400 → f.dp ≤ z.length / 3 → QJ n z F ps (.lst ws) (rest.map wd) ⟨[.val (.str z), .own (found ++ [f]), .val (.lst ws), .val (wd p), .val f], F⟩ := by
              intro f gp l1 l2
              refine ⟨done ++ [p], rest, found ++ [f], _, _, by rw [hps]; simp, rfl, rfl, fun q hq => ?_, by simp [hl], fun q hq => ?_⟩
              · rcases List.mem_append.mp hq with hq | hq
                · exact hg q hq
                · simp at hq
                  subst hq
                  exact gp
              · rcases List.mem_append.mp hq with hq | hq
                · exact hf q hq
                · simp at hq
                  subst hq
                  exact ⟨l1, l2⟩
            have nores : ¬ Gd n p → Parsed (n + 1) z F (.ok .non F) := by
              intro ng
              refine ⟨.non, rfl, .inl ⟨rfl, ?_⟩⟩
              rintro ⟨b, qs, u, e, _, _, hq⟩
              rw [hpc] at e
              have := (List.append_inj' e rfl).1
              subst this
              exact ng (hq p hmem)
            by_cases pt : Ttl p
            · rw [one_T.mpr pt] at tp
              have st := step (.tup [.tup [], wd p]) (.inl pt) (by
                simp only [D.lf, D.lfs]
                exact ⟨trivial, lf_wd lw.1 lw.2, trivial⟩) (by
                have dw : (wd p).dp = 0 := rfl
                have p1 := pt.1
                simp only [D.dp, D.dps, dw]
                omega)
              simp [bindM, bindS, retM, optM, m1, m2, m3, mA, mCons, mVar, mPk, mIf, seqS, ifS, asgV, callM, Sto.at, Sto.put, sto0, fnM, asB, asInt, wpS, tupO, two_line, tp, truD, appS, lf1, st]
            · have tf : ttl (wd p) = false := by
                rw [← Bool.not_eq_true]
                exact fun h => pt (one_T.mp h)
              rw [tf] at tp
              have lp2 : (⟨p.toArray⟩ : Str).length ≤ sizeLine := by
                rw [len_sg]
                exact Nat.le_trans lw.1 (by decide)
              have sls : ∀ lo hi, slO (wd p) lo hi = some (.str (cutS ⟨p.toArray⟩ lo hi)) := fun lo hi => by
                show (if _ then _ else _) = _
                rw [if_pos lp2]
              have ok : ∀ x : Str, (∀ c ∈ sg x, c ∈ p) → A7 x := fun x h c hc => lw.2 c (h c hc)
              have c1 := cut_first ⟨p.toArray⟩
              have c2 := cut_lastI ⟨p.toArray⟩
              have c3 := cut_mid ⟨p.toArray⟩
              rw [sg_wd] at c1 c2 c3
              have s1 := sls none (some 1)
              have s2 := sls (some M1) none
              have s3 := sls (some 1) (some M1)
              rw [hM1] at s2 s3
              generalize cutS ⟨p.toArray⟩ none (some 1) = A at *
              generalize cutS ⟨p.toArray⟩ (some (-1)) none = B at *
              generalize cutS ⟨p.toArray⟩ (some 1) (some (-1)) = C at *
              have c1 : sg A = p.take 1 := c1
              have c2 : sg B = p.drop (p.length - 1) := c2
              have c3 : sg C = (p.drop 1).take (p.length - 2) := c3
              have e1 := eq_w (a7_sOk (ok A (by rw [c1]; exact fun c hc => List.mem_of_mem_take hc))) (Str.ofString "(") 40 sg1 (by decide)
              have e2 := eq_w (a7_sOk (ok B (by rw [c2]; exact fun c hc => List.mem_of_mem_drop hc))) (Str.ofString ")") 41 sg2 (by decide)
              rw [c1] at e1
              rw [c2] at e2
              rw [← hM1] at s2 s3
              by_cases form : p.take 1 = [40] ∧ p.drop (p.length - 1) = [41]
              · obtain ⟨k, hk⟩ := (paren_form p).mp form
                rw [decide_eq_true form.1] at e1
                rw [decide_eq_true form.2] at e2
                have c3' : sg C = k := by
                  rw [c3, hk]
                  simp
                have aC := ok C (by rw [c3]; exact fun c hc => List.mem_of_mem_drop (List.mem_of_mem_take hc))
                have lC : C.length = k.length := by rw [len_sg, c3']
                have lk : p.length = k.length + 2 := by rw [hk]; simp
                obtain ⟨r, hr, hcase⟩ := parsed_ev n C F aC (by omega) (by omega)
                rw [c3'] at hcase
                rcases hcase with ⟨rfl, hno⟩ | ⟨ds2, e, rfl, hpr, hlf, hdp⟩
                · have nr := nores (by
                    rintro (h | ⟨k2, h1, h2⟩)
                    · exact pt h
                    · rw [hk] at h1
                      simp at h1
                      subst h1
                      exact hno ⟨true, h2⟩)
                  simp [bindM, bindS, retM, optM, m1, m2, m3, mA, mCons, mVar, mPk, mIf, seqS, ifS, asgV, callM, Sto.at, Sto.put, sto0, fnM, asB, asInt, wpS, tupO, two_line, tp, truD, s1, s2, s3, ng, e1, e2, hr, isNO, Og.isNon, nr]
                · have hlf2 : (D.tup ds2).lf 400 := by
                    simp only [D.lf, D.lfs] at hlf ⊢
                    exact hlf.1
                  have eq : nilO false (.tup ds2) (.tup []) = some (.bl ds2.isEmpty) := rfl
                  have ix0 : ixO (.tup [.tup ds2, e]) (.int 0) = some (.tup ds2) := rfl
                  by_cases emp : ds2 = []
                  · have nr := nores (by
                      rintro (h | ⟨k2, h1, h2⟩)
                      · exact pt h
                      · rw [hk] at h1
                        simp at h1
                        subst h1
                        have := pr_uniq hpr h2
                        simp [emp] at this)
                    subst emp
                    simp at eq
                    simp [bindM, bindS, retM, optM, m1, m2, m3, mA, mCons, mVar, mPk, mIf, seqS, ifS, asgV, callM, Sto.at, Sto.put, sto0, fnM, asB, asInt, wpS, tupO, two_line, tp, truD, s1, s2, s3, ng, e1, e2, hr, isNO, Og.isNon, nr, ix0, eq]
                  · have em : ds2.isEmpty = false := by simpa using emp
                    rw [em] at hpr eq
                    have st := step (.tup [.tup ds2, e]) (.inr ⟨k, hk, hpr⟩) hlf (by omega)
                    simp [bindM, bindS, retM, optM, m1, m2, m3, mA, mCons, mVar, mPk, mIf, seqS, ifS, asgV, callM, Sto.at, Sto.put, sto0, fnM, asB, asInt, wpS, tupO, two_line, tp, truD, s1, s2, s3, ng, e1, e2, hr, isNO, Og.isNon, nores, ix0, eq, appS, lf1, st]
              · have nr := nores (by
                  rintro (h | ⟨k2, h1, h2⟩)
                  · exact pt h
                  · exact form ((paren_form p).mpr ⟨k2, h1⟩))
                by_cases f1 : p.take 1 = [40]
                · have f2 : ¬ p.drop (p.length - 1) = [41] := fun h => form ⟨f1, h⟩
                  rw [decide_eq_true f1] at e1
                  rw [decide_eq_false f2] at e2
                  simp [bindM, bindS, retM, optM, m1, m2, m3, mA, mCons, mVar, mPk, mIf, seqS, ifS, asgV, callM, Sto.at, Sto.put, sto0, fnM, asB, asInt, wpS, tupO, two_line, tp, truD, s1, s2, s3, ng, e1, e2, isNO, Og.isNon, nr]
                · rw [decide_eq_false f1] at e1
                  simp [bindM, bindS, retM, optM, m1, m2, m3, mA, mCons, mVar, mPk, mIf, seqS, ifS, asgV, callM, Sto.at, Sto.put, sto0, fnM, asB, asInt, wpS, tupO, two_line, tp, truD, s1, s2, s3, ng, e1, e2, isNO, Og.isNon, nr]
      unfold wpF at g
      split at g
      · rename_i e
        rw [e]
        exact g
      · exact g.elim
      · exact g.elim
    · have tf : ttl (wd t) = false := by
        rw [← Bool.not_eq_true]
        exact fun h => ht (one_T.mp h)
      rw [tf] at tt
      refine ⟨.non, ?_, .inl ⟨rfl, ?_⟩⟩
      · unfold m_l_parsed
        simp [bindM, bindS, retM, optM, m1, m2, m3, mA, mCons, mVar, mPk, mIf, seqS, ifS, asgV, callM, Sto.at, Sto.put, sto0, fnM, asB, asInt, isz, isS, truD, parLS, lstO, one_line, pe, ng, ixw, tt]
      · rintro ⟨b, qs, u, e, hu, _⟩
        rw [hpc] at e
        have := (List.append_inj' e rfl).2
        simp at this
        exact ht (this ▸ hu)
end K01

set_option linter.all false
set_option maxRecDepth 100000
set_option maxHeartbeats 4000000
namespace K01
open PySem L2 Og Gr
theorem parsed_d {d : D} (h : d.lf 390) (F : Fd) : ∃ r, f_l_parsed 200 [d] F = .ok r F ∧ Og.isNon r = !knd d := by
  have hs := isi_str (lf_fd h)
  cases d with
  | str z =>
    simp only [D.lf] at h
    obtain ⟨r, e, hr⟩ := parsed_ev 200 z F h.2 (by omega) (by omega)
    refine ⟨r, e, ?_⟩
    have pi := pr_iff2 (z := sg z) (n := 200) (by rw [← len_sg]; omega)
    rcases hr with ⟨rfl, hn⟩ | ⟨ds, e, rfl, hp, _⟩
    · rw [pi] at hn
      simp [Og.isNon, knd, hn]
    · have : Au 0 (sg z) := pi.mp ⟨_, hp⟩
      simp [Og.isNon, knd, this]
  | fd => exact absurd rfl (lf_fd h)
  | _ =>
    refine ⟨.non, ?_, rfl⟩
    show fnM 5 (m_l_parsed (f_l_parsed 199)) _ F = _
    generalize f_l_parsed 199 = r
    unfold m_l_parsed
    simp [bindM, bindS, retM, optM, m1, m2, m3, mA, mCons, mVar, mPk, mIf, seqS, ifS, asgV, callM, Sto.at, Sto.put, sto0, fnM, asB, asInt, hs, isS, truD]
/-! whole numbers -/
def isI : D → Bool
  | .int _ => true
  | _ => false
def isB : D → Bool
  | .bl _ => true
  | _ => false
def numP : D → Bool
  | .int i => decide (0 ≤ i)
  | _ => false
theorem isi_int {d : D} (h : d ≠ .fd) : isiO "int" d = some (.bl (isI d || isB d)) := by
  cases d with
  | fd => exact absurd rfl h
  | non => exact isi_any (a := "NoneType") (b := false) rfl (by decide +kernel)
  | bl b => exact isi_any (a := "bool") (b := true) rfl (by decide +kernel)
  | int b => exact isi_any (a := "int") (b := true) rfl (by decide +kernel)
  | str b => exact isi_any (a := "str") (b := false) rfl (by decide +kernel)
  | tup b => exact isi_any (a := "tuple") (b := false) rfl (by decide +kernel)
  | lst b => exact isi_any (a := "list") (b := false) rfl (by decide +kernel)
theorem isi_bool {d : D} (h : d ≠ .fd) : isiO "bool" d = some (.bl (isB d)) := by
  cases d with
  | fd => exact absurd rfl h
  | non => exact isi_any (a := "NoneType") (b := false) rfl (by decide +kernel)
  | bl b => exact isi_any (a := "bool") (b := true) rfl (by decide +kernel)
  | int b => exact isi_any (a := "int") (b := false) rfl (by decide +kernel)
  | str b => exact isi_any (a := "str") (b := false) rfl (by decide +kernel)
  | tup b => exact isi_any (a := "tuple") (b := false) rfl (by decide +kernel)
  | lst b => exact isi_any (a := "list") (b := false) rfl (by decide +kernel)
theorem ge_int (i j : Int) : geO (.int i) (.int j) = some (.bl (decide (j ≤ i))) := rfl
theorem is_integer_ev {d : D} (h : d ≠ .fd) (F : Fd) : f_p_is_integer [d] F = .ok (.bl (isI d)) F := by
  have h1 := isi_int h
  have h2 := isi_bool h
  unfold f_p_is_integer m_p_is_integer
  cases d with
  | fd => exact absurd rfl h
  | _ => simp [bindM, bindS, retM, optM, m1, m2, m3, mA, mCons, mVar, mPk, mIf, seqS, ifS, asgV, callM, Sto.at, Sto.put, sto0, fnM, asB, asInt, h1, h2, isI, isB, notO, truD]
theorem is_number_ev {d : D} (h : d ≠ .fd) (F : Fd) : f_p_is_number [d] F = .ok (.bl (numP d)) F := by
  have h1 := is_integer_ev h F
  unfold f_p_is_number m_p_is_number
  cases d with
  | fd => exact absurd rfl h
  | int i =>
    have g := ge_int i 0
    simp [bindM, bindS, retM, optM, m1, m2, m3, mA, mCons, mVar, mPk, mIf, seqS, ifS, asgV, callM, Sto.at, Sto.put, sto0, fnM, asB, asInt, h1, isI, numP, g]
  | _ => simp [bindM, bindS, retM, optM, m1, m2, m3, mA, mCons, mVar, mPk, mIf, seqS, ifS, asgV, callM, Sto.at, Sto.put, sto0, fnM, asB, asInt, h1, isI, numP]
theorem lis_number_ev {d : D} (h : d ≠ .fd) (F : Fd) : f_l_is_number [d] F = .ok (.bl (numP d)) F := by
  have h1 := isi_int h
  have h2 := isi_bool h
  unfold f_l_is_number m_l_is_number
  cases d with
  | fd => exact absurd rfl h
  | int i =>
    have g := ge_int i 0
    simp [bindM, bindS, retM, optM, m1, m2, m3, mA, mCons, mVar, mPk, mIf, seqS, ifS, asgV, callM, Sto.at, Sto.put, sto0, fnM, asB, asInt, h1, h2, isI, isB, numP, g, notO, truD]
  | _ => simp [bindM, bindS, retM, optM, m1, m2, m3, mA, mCons, mVar, mPk, mIf, seqS, ifS, asgV, callM, Sto.at, Sto.put, sto0, fnM, asB, asInt, h1, h2, isI, isB, numP, notO, truD]
/-! entries -/
noncomputable def isE : D → Bool
  | .tup [a, b] => ttl a && knd b
  | _ => false
def nmO : D → Str
  | .tup (.str x :: _) => x
  | _ => ""
theorem isE_str {d : D} (h : isE d = true) : ∃ x b, d = .tup [.str x, b] ∧ nmO d = x := by
  unfold isE at h
  split at h
  · rename_i a b
    rw [Bool.and_eq_true] at h
    cases a with
    | str x => exact ⟨x, b, rfl, rfl⟩
    | _ => simp [ttl] at h
  · cases h
theorem isE_tup {ds : List D} (h : ds.length ≠ 2) : isE (.tup ds) = false := by
  unfold isE
  split
  · rename_i a b e
    cases e
    simp at h
  · rfl
theorem isE_no {d : D} (h : isTp d = false) : isE d = false := by
  cases d <;> simp [isTp] at h <;> rfl
def rowP (n : Nat) : D → Bool
  | .tup ds => decide (ds.length = n)
  | _ => false
theorem is_row_ev {d : D} (h : d ≠ .fd) (n : Nat) (F : Fd) : f_p_is_row [d, .int (n : Int)] F = .ok (.bl (rowP n d)) F := by
  have ht := isi_tup h
  obtain ⟨N, hN⟩ : ∃ N : Int, N = (n : Int) := ⟨_, rfl⟩
  rw [← hN]
  unfold f_p_is_row m_p_is_row
  cases d with
  | tup ds =>
    have q := eq_int (ds.length : Int) N false
    simp only [Bool.false_eq_true, if_false] at q
    have q2 : decide ((ds.length : Int) = N) = decide (ds.length = n) := by
      rw [decide_eq_decide]
      omega
    rw [q2] at q
    simp [bindM, bindS, retM, optM, m1, m2, m3, mA, mCons, mVar, mPk, mIf, seqS, ifS, asgV, callM, Sto.at, Sto.put, sto0, fnM, asB, asInt, ht, isTp, lenO, q, rowP]
  | fd => exact absurd rfl h
  | _ => simp [bindM, bindS, retM, optM, m1, m2, m3, mA, mCons, mVar, mPk, mIf, seqS, ifS, asgV, callM, Sto.at, Sto.put, sto0, fnM, asB, asInt, ht, isTp, rowP]
theorem is_entry_ev {d : D} {T : Nat} (h : d.lf T) (hT : T ≤ 50000) (F : Fd) : f_p_is_entry [d] F = .ok (.bl (isE d)) F := by
  have hr : f_p_is_row [d, .int 2] F = _ := is_row_ev (lf_fd h) 2 F
  have hT2 : T ≤ sizeLine := Nat.le_trans hT (by decide)
  unfold f_p_is_entry m_p_is_entry
  cases d with
  | tup ds =>
    by_cases l : ds.length = 2
    · match ds, l with
      | [a, b], _ =>
        simp only [D.lf, D.lfs] at h
        have n := is_name_ev h.1 hT2 F
        have k := is_kind_ev h.2.1 hT F
        have i0 : ixO (.tup [a, b]) (.int 0) = some a := rfl
        have i1 : ixO (.tup [a, b]) (.int 1) = some b := rfl
        cases q : ttl a
        · rw [q] at n
          simp [bindM, bindS, retM, optM, m1, m2, m3, mA, mCons, mVar, mPk, mIf, seqS, ifS, asgV, callM, Sto.at, Sto.put, sto0, fnM, asB, asInt, hr, rowP, n, i0, isE, q]
        · rw [q] at n
          simp [bindM, bindS, retM, optM, m1, m2, m3, mA, mCons, mVar, mPk, mIf, seqS, ifS, asgV, callM, Sto.at, Sto.put, sto0, fnM, asB, asInt, hr, rowP, n, k, i0, i1, isE, q]
    · have e := isE_tup l
      simp [bindM, bindS, retM, optM, m1, m2, m3, mA, mCons, mVar, mPk, mIf, seqS, ifS, asgV, callM, Sto.at, Sto.put, sto0, fnM, asB, asInt, hr, rowP, l, e]
  | fd => exact absurd rfl (lf_fd h)
  | _ => simp [bindM, bindS, retM, optM, m1, m2, m3, mA, mCons, mVar, mPk, mIf, seqS, ifS, asgV, callM, Sto.at, Sto.put, sto0, fnM, asB, asInt, hr, rowP, isE]
theorem lis_entry_ev {d : D} (h : d.lf 390) (F : Fd) : f_l_is_entry [d] F = .ok (.bl (isE d)) F := by
  have ht := isi_tup (lf_fd h)
  have hT2 : 390 ≤ sizeLine := by decide
  unfold f_l_is_entry m_l_is_entry
  cases d with
  | tup ds =>
    have q := eq_int (ds.length : Int) 2 true
    simp only [if_true] at q
    have q2 : decide ((ds.length : Int) = 2) = decide (ds.length = 2) := by
      rw [decide_eq_decide]
      omega
    rw [q2] at q
    by_cases l : ds.length = 2
    · match ds, l with
      | [a, b], _ =>
        simp only [D.lf, D.lfs] at h
        have n := is_title_ev h.1 hT2 F
        obtain ⟨r, hr, hn⟩ := parsed_d h.2.1 F
        have i0 : ixO (.tup [a, b]) (.int 0) = some a := rfl
        have i1 : ixO (.tup [a, b]) (.int 1) = some b := rfl
        have q : eqO true (.int 2) (.int 2) = some (.bl false) := by rw [eq_int 2 2 true]; rfl
        have e : isNO true r .non = some (.bl (knd b)) := by
          show some (D.bl _) = _
          rw [hn]
          simp
        generalize f_l_parsed 200 = fp at *
        cases c : ttl a
        · rw [c] at n
          simp [bindM, bindS, retM, optM, m1, m2, m3, mA, mCons, mVar, mPk, mIf, seqS, ifS, asgV, callM, Sto.at, Sto.put, sto0, fnM, asB, asInt, ht, isTp, lenO, q, n, i0, isE, c, truD]
        · rw [c] at n
          simp [bindM, bindS, retM, optM, m1, m2, m3, mA, mCons, mVar, mPk, mIf, seqS, ifS, asgV, callM, Sto.at, Sto.put, sto0, fnM, asB, asInt, ht, isTp, lenO, q, n, i0, i1, hr, e, isE, c, truD]
    · have e := isE_tup l
      rw [decide_eq_false l] at q
      generalize f_l_parsed 200 = fp at *
      simp [bindM, bindS, retM, optM, m1, m2, m3, mA, mCons, mVar, mPk, mIf, seqS, ifS, asgV, callM, Sto.at, Sto.put, sto0, fnM, asB, asInt, ht, isTp, lenO, q, e, truD]
  | fd => exact absurd rfl (lf_fd h)
  | _ =>
    generalize f_l_parsed 200 = fp at *
    simp [bindM, bindS, retM, optM, m1, m2, m3, mA, mCons, mVar, mPk, mIf, seqS, ifS, asgV, callM, Sto.at, Sto.put, sto0, fnM, asB, asInt, ht, isTp, isE, truD]
end K01

set_option linter.all false
set_option maxRecDepth 100000
set_option maxHeartbeats 4000000
namespace K01
open PySem L2 Og Gr
/-! == [] and == of lists of texts -/
theorem eq_nilL {T : Nat} {ds : List D} (h : (D.lst ds).lf T) (hd : (D.lst ds).dp ≤ 64) (neg : Bool) : eqO neg (.lst ds) (.lst []) = some (.bl (if neg then !ds.isEmpty else ds.isEmpty)) := by
  obtain ⟨p, hp⟩ := shaped_ok h hd
  obtain ⟨p1, _⟩ := shapedD_some hp
  have e0 : shapedD (.lst []) = some (.list []) := by
    unfold shapedD
    simp [D.toP, D.toPs, SeqAt.shaped, PyData.canLay0, PyData.canLayAll0, PyData.depth, PyData.depthAll]
  unfold eqO
  rw [hp, e0]
  simp only [D.toP, Option.map_eq_some_iff] at p1
  obtain ⟨ps, p2, rfl⟩ := p1
  cases ds with
  | nil =>
    simp [D.toPs] at p2
    subst p2
    simp [PyData.eqv, PyData.eqvAll]
  | cons d ds =>
    simp only [D.toPs] at p2
    split at p2
    · cases p2
      simp [PyData.eqv, PyData.eqvAll]
    · cases p2
theorem toPs_str : ∀ xs : List Str, D.toPs (xs.map D.str) = some (xs.map PyData.str)
  | [] => rfl
  | x :: xs => by
    simp [D.toPs, D.toP, toPs_str xs]
theorem eqv_strs : ∀ xs ys : List Str, PyData.eqvAll (xs.map PyData.str) (ys.map PyData.str) = decide (xs = ys)
  | [], [] => by simp [PyData.eqvAll]
  | [], _ :: _ => by simp [PyData.eqvAll]
  | _ :: _, [] => by simp [PyData.eqvAll]
  | x :: xs, y :: ys => by
    rw [List.map_cons, List.map_cons, PyData.eqvAll, eqv_strs xs ys, Bool.eq_iff_iff]
    simp [PyData.eqv]
theorem lfs_strs {T : Nat} {xs : List Str} (h : ∀ x ∈ xs, x.length ≤ T ∧ A7 x) : D.lfs T (xs.map D.str) := by
  rw [lfs_iff]
  intro d hd
  obtain ⟨x, hx, rfl⟩ := List.mem_map.mp hd
  simp only [D.lf]
  exact h x hx
theorem dps_strs (xs : List Str) : D.dps (xs.map D.str) = 0 := by
  have : D.dps (xs.map D.str) ≤ 0 := dps_le.mpr fun d hd => by
    obtain ⟨x, _, rfl⟩ := List.mem_map.mp hd
    exact Nat.le_refl 0
  omega
theorem shaped_strs {T : Nat} {xs : List Str} (h : ∀ x ∈ xs, x.length ≤ T ∧ A7 x) : shapedD (.lst (xs.map D.str)) = some (.list (xs.map PyData.str)) := by
  obtain ⟨p, hp⟩ := shaped_ok (T := T) (d := .lst (xs.map D.str)) (by simp only [D.lf]; exact lfs_strs h) (by simp only [D.dp, dps_strs]; omega)
  have := (shapedD_some hp).1
  simp only [D.toP, toPs_str] at this
  cases this
  exact hp
theorem eq_strs {T : Nat} {xs ys : List Str} (h1 : ∀ x ∈ xs, x.length ≤ T ∧ A7 x) (h2 : ∀ x ∈ ys, x.length ≤ T ∧ A7 x) (neg : Bool) : eqO neg (.lst (xs.map D.str)) (.lst (ys.map D.str)) = some (.bl (if neg then !decide (xs = ys) else decide (xs = ys))) := by
  unfold eqO
  rw [shaped_strs h1, shaped_strs h2]
  simp [PyData.eqv, eqv_strs]
/-! ascending -/
def ltS (a b : Str) : Bool := decide (a.cps.toList < b.cps.toList)
def ascS (xs : List Str) : Bool := (xs.zip (xs.drop 1)).all fun p => ltS p.1 p.2
theorem ascS_cons (x y : Str) (r : List Str) : ascS (x :: y :: r) = (ltS x y && ascS (y :: r)) := by
  simp [ascS]
theorem asc_iff : ∀ xs : List Str, ascS xs = true ↔ xs.Pairwise fun a b => ltS a b = true
  | [] => by simp [ascS]
  | [x] => by simp [ascS]
  | x :: y :: r => by
    rw [ascS_cons, Bool.and_eq_true, asc_iff (y :: r), List.pairwise_cons (a := x)]
    constructor
    · rintro ⟨h1, h2⟩
      refine ⟨fun z hz => ?_, h2⟩
      rcases List.mem_cons.mp hz with rfl | hz
      · exact h1
      · have h3 := (List.pairwise_cons.mp h2).1 z hz
        simp only [ltS, decide_eq_true_eq] at *
        exact List.lt_trans h1 h3
    · rintro ⟨h1, h2⟩
      exact ⟨h1 y List.mem_cons_self, h2⟩
theorem ded_of_nodup : ∀ {xs : List Str}, xs.Nodup → dedS xs = xs
  | [], _ => rfl
  | x :: xs, h => by
    obtain ⟨h1, h2⟩ := List.nodup_cons.mp h
    rw [dedS, if_neg h1, ded_of_nodup h2]
theorem lt_ne {a b : Str} (h : ltS a b = true) : a ≠ b := by
  rintro rfl
  simp only [ltS, decide_eq_true_eq] at h
  exact List.lt_irrefl _ h
theorem uniq_iff (xs : List Str) : xs = uniqS xs ↔ ascS xs = true := by
  rw [asc_iff]
  constructor
  · intro h
    have p : (uniqS xs).Pairwise fun a b => leT a b = true := List.pairwise_mergeSort leT_trans leT_total (dedS xs)
    have nd : (uniqS xs).Nodup := (List.mergeSort_perm (dedS xs) leT).nodup_iff.mpr (nodup_dedS xs)
    rw [← h] at p nd
    have q := p.and nd
    refine q.imp fun {a b} ⟨h1, h2⟩ => ?_
    simp only [ltS, leT, decide_eq_true_eq] at *
    refine Decidable.byContradiction fun c => h2 ?_
    have e := List.le_antisymm h1 (List.not_lt.mp c)
    cases a
    cases b
    simp at e
    simp [e]
  · intro h
    have nd : xs.Nodup := h.imp fun {a b} q => lt_ne q
    unfold uniqS
    rw [ded_of_nodup nd]
    refine (List.mergeSort_of_pairwise (h.imp fun {a b} q => ?_)).symm
    simp only [ltS, leT, decide_eq_true_eq] at *
    exact List.le_of_lt q
end K01

set_option linter.all false
set_option maxRecDepth 100000
set_option maxHeartbeats 4000000
namespace K01
open PySem L2 Og Gr
theorem fil_t {α : Type} (xs : List α) : (xs.filter fun _ => true) = xs := List.filter_eq_self.mpr fun _ _ => rfl
theorem bools_map {α : Type} (f : α → Bool) : ∀ xs : List α, boolsOf (xs.map fun x => D.bl (f x)) = some (xs.map f)
  | [] => rfl
  | x :: xs => by
    simp [boolsOf, bools_map f xs]
theorem all_map {α : Type} (f : α → Bool) (xs : List α) : allO [.lst (xs.map fun x => D.bl (f x))] = some (.bl (xs.all f)) := by
  simp [allO, bools_map, List.all_map, Function.comp_def]
/-- [f(x) for x in t] -/
theorem lc_call {f : Fn} {P : D → Bool} {x1 : SV} {F : Fd} {all : List D} (hw : (⟨[.val (.tup all), x1], F⟩ : Sto).wipe [1] = ⟨[.val (.tup all), .un], F⟩) (ds : List D) (h : ∀ d ∈ ds, f [d] F = .ok (.bl (P d)) F) (l : ds.length ≤ sizeLine) :
    lcGo [1] (tgN 1) (retM true) (callM 1 f (mCons (mVar 1) (retM []))) ds [] ⟨[.val (.tup all), .un], F⟩ = .ok (ds.map fun d => .bl (P d)) ⟨[.val (.tup all), .un], F⟩ := by
  have g := lcGo_pure (vs := [1]) (f := tgN 1) (tt := retM true) (te := callM 1 f (mCons (mVar 1) (retM []))) (fun _ => true) (fun d => .bl (P d)) ⟨[.val (.tup all), .un], F⟩ ds [] (by
    intro d hd
    have e := h d hd
    refine ⟨⟨[.val (.tup all), .val d], F⟩, ⟨[.val (.tup all), .val d], F⟩, rfl, rfl, fun _ => ⟨⟨[.val (.tup all), .val d], F⟩, ?_, rfl⟩, fun h => absurd h (by simp)⟩
    simp [bindM, bindS, retM, optM, m1, m2, m3, mA, mCons, mVar, mPk, mIf, seqS, ifS, asgV, callM, Sto.at, Sto.put, sto0, fnM, asB, asInt, e]) (by simpa using l)
  rw [g, fil_t, List.nil_append]
theorem wipe2 (a : SV) (x : SV) (F : Fd) : (⟨[a, x], F⟩ : Sto).wipe [1] = ⟨[a, .un], F⟩ := rfl
theorem all_ev {f : Fn} {P : D → Bool} {F : Fd} {ds : List D} (h : ∀ d ∈ ds, f [d] F = .ok (.bl (P d)) F) (l : ds.length ≤ sizeLine) (x1 : SV) :
    mA allO (mCons (lcM [1] (tgN 1) (retM true) (callM 1 f (mCons (mVar 1) (retM []))) (bindM (mVar 0) asT)) (retM [])) ⟨[.val (.tup ds), x1], F⟩ = .ok (.bl (ds.all P)) ⟨[.val (.tup ds), .un], F⟩ := by
  have g := lc_call (wipe2 (.val (.tup ds)) x1 F) ds h l
  have e := all_map P ds
  generalize callM 1 f (mCons (mVar 1) (retM [])) = te at *
  simp [bindM, bindS, retM, optM, m1, m2, m3, mA, mCons, mVar, mPk, mIf, seqS, ifS, asgV, callM, Sto.at, Sto.put, sto0, fnM, asB, asInt, lcM, asT, wipe2, g, e]
def entsP : D → Bool := fun _ => true
noncomputable def allE : D → Bool
  | .tup ds => ds.all isE
  | _ => false
theorem are_entries_ev {d : D} {T : Nat} (h : d.lf T) (hT : T ≤ 50000) (hl : ∀ ds, d = .tup ds → ds.length ≤ sizeLine) (F : Fd) : f_p_are_entries [d] F = .ok (.bl (allE d)) F := by
  have ht := isi_tup (lf_fd h)
  unfold f_p_are_entries m_p_are_entries
  cases d with
  | tup ds =>
    simp only [D.lf] at h
    have g := all_ev (F := F) (fun d hd => is_entry_ev (lfs_iff.mp h d hd) hT F) (hl ds rfl) .un
    generalize (mA allO (mCons (lcM [1] (tgN 1) (retM true) (callM 1 f_p_is_entry (mCons (mVar 1) (retM []))) (bindM (mVar 0) asT)) (retM []))) = te at *
    simp [bindM, bindS, retM, optM, m1, m2, m3, mA, mCons, mVar, mPk, mIf, seqS, ifS, asgV, callM, Sto.at, Sto.put, sto0, fnM, asB, asInt, ht, isTp, g, allE]
  | fd => exact absurd rfl (lf_fd h)
  | _ => simp [bindM, bindS, retM, optM, m1, m2, m3, mA, mCons, mVar, mPk, mIf, seqS, ifS, asgV, callM, Sto.at, Sto.put, sto0, fnM, asB, asInt, ht, isTp, allE]
theorem nm_of {d : D} (h : isE d = true) : ixO d (.int 0) = some (.str (nmO d)) := by
  obtain ⟨x, b, rfl, e⟩ := isE_str h
  rw [e]
  rfl
/-- [e[0] for e in t] -/
theorem lc_nm {vs : List D} {F : Fd} (S : Sto) (put : ∀ d, (S.put 1 (.val d)).wipe [1] = S) (pk : ∀ d, mPk 1 (S.put 1 (.val d)) = .ok d (S.put 1 (.val d))) (ds : List D) (h : ∀ d ∈ ds, isE d = true) (l : ds.length ≤ sizeLine) :
    lcGo [1] (tgN 1) (retM true) (m2 ixO (mPk 1) (retM (.int 0))) ds [] S = .ok (ds.map fun d => .str (nmO d)) S := by
  have g := lcGo_pure (vs := [1]) (f := tgN 1) (tt := retM true) (te := m2 ixO (mPk 1) (retM (.int 0))) (fun _ => true) (fun d => .str (nmO d)) S ds [] (by
    intro d hd
    have e := nm_of (h d hd)
    refine ⟨S.put 1 (.val d), S.put 1 (.val d), rfl, rfl, fun _ => ⟨S.put 1 (.val d), ?_, put d⟩, fun h => absurd h (by simp)⟩
    simp only [m2, bindM, retM, optM, pk, e]) (by simpa using l)
  rw [g, fil_t, List.nil_append]
theorem names_of_ev {ds : List D} (h : ∀ d ∈ ds, isE d = true) (l : ds.length ≤ sizeLine) (F : Fd) : f_p_names_of [.tup ds] F = .ok (.lst ((ds.map nmO).map D.str)) F := by
  have g := lc_nm (vs := []) (F := F) ⟨[.val (.tup ds), .un], F⟩ (fun _ => rfl) (fun _ => rfl) ds h l
  have w := wipe2 (.val (.tup ds)) .un F
  unfold f_p_names_of m_p_names_of
  generalize m2 ixO (mPk 1) (retM (.int 0)) = te at *
  simp [bindM, bindS, retM, optM, m1, m2, m3, mA, mCons, mVar, mPk, mIf, seqS, ifS, asgV, callM, Sto.at, Sto.put, sto0, fnM, asB, asInt, lcM, asT, w, g, Function.comp_def]
/-- all([low < high for low, high in zip(row, row[1:])]) -/
def rowD (t : Bool) (ds : List D) : D := if t then .tup ds else .lst ds
theorem zip_strs (xs : List Str) : zipD (xs.map D.str) ((xs.map D.str).drop 1) = (xs.zip (xs.drop 1)).map fun p => .tup [.str p.1, .str p.2] := by
  unfold zipD
  rw [← List.map_drop, List.zip_map, List.map_map]
  rfl
theorem cutD_from (ds : List D) (i : Nat) : cutD ds (some (i : Int)) none = ds.drop i := by
  unfold cutD
  rw [HT.sIx_none, HT.sIx_nat, List.take_of_length_le (by rw [List.length_drop]; exact Nat.le_refl _)]
  rcases Nat.le_total i ds.length with h | h
  · rw [Nat.min_eq_left h]
  · rw [Nat.min_eq_right h, List.drop_of_length_le (Nat.le_refl _), List.drop_of_length_le h]
theorem cut_1 (ds : List D) : cutD ds (some 1) none = ds.drop 1 := cutD_from ds 1
theorem is_asc_ev (t : Bool) {xs : List Str} (l : xs.length ≤ sizeLine) (F : Fd) : f_p_is_ascending [rowD t (xs.map D.str)] F = .ok (.bl (ascS xs)) F := by
  obtain ⟨R, hR⟩ : ∃ R, R = rowD t (xs.map D.str) := ⟨_, rfl⟩
  have sv : ∃ R2, slV R (some 1) none = some R2 ∧ zipM [R, R2] = retM ((xs.zip (xs.drop 1)).map fun p => .tup [.str p.1, .str p.2]) := by
    rw [hR]
    cases t with
    | true => exact ⟨_, rfl, by rw [cut_1]; show retM (zipD _ _) = _; rw [zip_strs]⟩
    | false => exact ⟨_, rfl, by rw [cut_1]; show retM (zipD _ _) = _; rw [zip_strs]⟩
  obtain ⟨R2, e1, e2⟩ := sv
  rw [← hR]
  have g := lcGo_pure (vs := [1, 2]) (f := tg2 1 2) (tt := retM true) (te := m2 ltO (mPk 1) (mPk 2)) (fun _ => true) (fun d => match d with | .tup [.str a, .str b] => .bl (ltS a b) | _ => .non) ⟨[.val R, .un, .un], F⟩ ((xs.zip (xs.drop 1)).map fun p => .tup [.str p.1, .str p.2]) [] (by
    intro d hd
    obtain ⟨p, _, rfl⟩ := List.mem_map.mp hd
    refine ⟨⟨[.val R, .val (.str p.1), .val (.str p.2)], F⟩, ⟨[.val R, .val (.str p.1), .val (.str p.2)], F⟩, rfl, rfl, fun _ => ⟨⟨[.val R, .val (.str p.1), .val (.str p.2)], F⟩, rfl, rfl⟩, fun h => absurd h (by simp)⟩) (by simp; omega)
  have e3 : (([] : List D) ++ (((xs.zip (xs.drop 1)).map fun p => (.tup [.str p.1, .str p.2] : D)).filter fun _ => true).map (fun d => match d with | .tup [.str a, .str b] => .bl (ltS a b) | _ => .non)) = (xs.zip (xs.drop 1)).map fun p => .bl (ltS p.1 p.2) := by
    rw [List.nil_append, fil_t, List.map_map]
    rfl
  rw [e3] at g
  have e4 := all_map (fun p : Str × Str => ltS p.1 p.2) (xs.zip (xs.drop 1))
  have w : (⟨[.val R, .un, .un], F⟩ : Sto).wipe [1, 2] = ⟨[.val R, .un, .un], F⟩ := rfl
  unfold f_p_is_ascending m_p_is_ascending
  generalize m2 ltO (mPk 1) (mPk 2) = te at *
  generalize ((xs.zip (xs.drop 1)).map fun p => (.tup [.str p.1, .str p.2] : D)) = zs at *
  generalize ((xs.zip (xs.drop 1)).map fun p => D.bl (ltS p.1 p.2)) = bs at *
  simp [bindM, bindS, retM, optM, m1, m2, m3, mA, mCons, mVar, mPk, mIf, seqS, ifS, asgV, callM, Sto.at, Sto.put, sto0, fnM, asB, asInt, lcM, e1, e2, w, g, e4, ascS]
end K01

set_option linter.all false
set_option maxRecDepth 100000
set_option maxHeartbeats 4000000
namespace K01
open PySem L2 Og Gr
theorem fil_all {α : Type} (P : α → Bool) : ∀ xs : List α, (xs.filter fun d => !P d).isEmpty = xs.all P
  | [] => rfl
  | x :: xs => by
    have := fil_all P xs
    cases h : P x <;> simp [h, this]
/-- [x for x in t if not P(x)] == [] -/
theorem none_ev {TT : M Bool} {P : D → Bool} {it : D} {rest : List SV} {F : Fd} {m : M (List D)} {S0 : Sto} {ds : List D} {T : Nat} (neg : Bool) (hm : m S0 = .ok ds ⟨.val it :: .un :: rest, F⟩)
    (hT : ∀ d ∈ ds, TT ⟨.val it :: .val d :: rest, F⟩ = .ok (!P d) ⟨.val it :: .val d :: rest, F⟩) (h : D.lfs T ds) (hd : D.dps ds ≤ 60) (l : ds.length ≤ sizeLine) :
    m2 (eqO neg) (lcM [1] (tgN 1) TT (mVar 1) m) (bindM (retM []) fun ds => optM (lstO ds)) S0 = .ok (.bl (if neg then !ds.all P else ds.all P)) ⟨.val it :: .un :: rest, F⟩ := by
  have g := lcGo_pure (vs := [1]) (f := tgN 1) (tt := TT) (te := mVar 1) (fun d => !P d) id ⟨.val it :: .un :: rest, F⟩ ds [] (by
    intro d hd
    refine ⟨⟨.val it :: .val d :: rest, F⟩, ⟨.val it :: .val d :: rest, F⟩, rfl, hT d hd, fun _ => ⟨⟨.val it :: .val d :: rest, F⟩, rfl, rfl⟩, fun _ => rfl⟩) (by simpa using l)
  have w : (⟨.val it :: .un :: rest, F⟩ : Sto).wipe [1] = ⟨.val it :: .un :: rest, F⟩ := rfl
  have k1 : (D.lst (ds.filter fun d => !P d)).lf T := by
    simp only [D.lf]
    exact lfs_iff.mpr fun d hd => lfs_iff.mp h d (List.mem_filter.mp hd).1
  have k2 : (D.lst (ds.filter fun d => !P d)).dp ≤ 64 := by
    have : D.dps (ds.filter fun d => !P d) ≤ 60 := dps_le.mpr fun d hx => dps_le.mp hd d (List.mem_filter.mp hx).1
    simp only [D.dp]
    omega
  have e := eq_nilL k1 k2 neg
  rw [fil_all] at e
  have o : lstO [] = some (.lst []) := rfl
  rw [List.map_id, List.nil_append] at g
  generalize (mVar 1 : M D) = te at *
  show bindM _ _ S0 = _
  simp only [bindM, lcM, hm, w, g, retM, optM, o, e]
noncomputable def bookP : D → Bool
  | .tup ds => ds.all isE && ascS (ds.map nmO)
  | _ => false
theorem is_book_ev {d : D} {T : Nat} (h : d.lf T) (hT : T ≤ 50000) (hl : ∀ ds, d = .tup ds → ds.length ≤ sizeLine) (F : Fd) : f_p_is_book [d] F = .ok (.bl (bookP d)) F := by
  have e := are_entries_ev h hT hl F
  unfold f_p_is_book m_p_is_book
  cases d with
  | tup ds =>
    simp only [allE] at e
    cases c : ds.all isE with
    | false =>
      rw [c] at e
      simp [bindM, bindS, retM, optM, m1, m2, m3, mA, mCons, mVar, mPk, mIf, seqS, ifS, asgV, callM, Sto.at, Sto.put, sto0, fnM, asB, asInt, e, bookP, c]
    | true =>
      rw [c] at e
      have n := names_of_ev (List.all_eq_true.mp c) (hl ds rfl) F
      have a : f_p_is_ascending [.lst ((ds.map nmO).map D.str)] F = _ := is_asc_ev false (xs := ds.map nmO) (by rw [List.length_map]; exact hl ds rfl) F
      generalize (ds.map nmO).map D.str = zs at *
      simp [bindM, bindS, retM, optM, m1, m2, m3, mA, mCons, mVar, mPk, mIf, seqS, ifS, asgV, callM, Sto.at, Sto.put, sto0, fnM, asB, asInt, e, n, a, bookP, c]
  | fd => exact absurd rfl (lf_fd h)
  | _ => simp [bindM, bindS, retM, optM, m1, m2, m3, mA, mCons, mVar, mPk, mIf, seqS, ifS, asgV, callM, Sto.at, Sto.put, sto0, fnM, asB, asInt, e, allE, bookP]
theorem nm_small {T : Nat} {d : D} (h : d.lf T) (he : isE d = true) : (nmO d).length ≤ T ∧ A7 (nmO d) := by
  obtain ⟨x, b, rfl, e⟩ := isE_str he
  rw [e]
  simp only [D.lf, D.lfs] at h
  exact h.1
theorem uniq_strs {T : Nat} {xs : List Str} (h : ∀ x ∈ xs, x.length ≤ T ∧ A7 x) (l : xs.length < 4000) (t : Bool) : uniqO (rowD t (xs.map D.str)) = some (.lst ((uniqS xs).map D.str)) ∧ eqO false (.lst (xs.map D.str)) (.lst ((uniqS xs).map D.str)) = some (.bl (ascS xs)) := by
  have st : strsOf (xs.map D.str) = some xs := by
    clear h l
    induction xs with
    | nil => rfl
    | cons x xs ih => simp [strsOf, ih]
  refine ⟨?_, ?_⟩
  · unfold uniqO
    have : textsO (rowD t (xs.map D.str)) = some xs := by cases t <;> exact st
    rw [this]
    simp [l]
  · rw [eq_strs h (fun x hx => h x (uniqS_mem.mp hx))]
    have : decide (xs = uniqS xs) = ascS xs := by
      rw [Bool.eq_iff_iff, decide_eq_true_eq]
      exact uniq_iff xs
    rw [this]
    rfl
theorem lis_book_ev {d : D} (h : d.lf 390) (hd : d.dp ≤ 60) (hl : ∀ ds, d = .tup ds → ds.length < 4000) (F : Fd) : f_l_is_book [d] F = .ok (.bl (bookP d)) F := by
  have ht := isi_tup (lf_fd h)
  unfold f_l_is_book m_l_is_book
  cases d with
  | tup ds =>
    simp only [D.lf] at h
    simp only [D.dp] at hd
    have l1 := hl ds rfl
    have l2 : ds.length ≤ sizeLine := Nat.le_trans (Nat.le_of_lt l1) (by decide)
    have S0 : (⟨[.val (.tup ds), .un, .un], F⟩ : Sto) = sto0 3 [.tup ds] F := rfl
    have n := none_ev (TT := bindM (bindM (callM 1 f_l_is_entry (mCons (mVar 1) (retM []))) fun d => optM (truD d)) fun v => retM (!v)) (P := isE) (it := .tup ds) (rest := [.un]) (F := F) (m := bindM (mVar 0) asT) (S0 := ⟨[.val (.tup ds), .un, .un], F⟩) (ds := ds) (T := 390) true rfl (fun d hx => by
      have e := lis_entry_ev (lfs_iff.mp h d hx) F
      simp [bindM, bindS, retM, optM, m1, m2, m3, mA, mCons, mVar, mPk, mIf, seqS, ifS, asgV, callM, Sto.at, Sto.put, sto0, fnM, asB, asInt, e, truD]) h (by omega) l2
    generalize (m2 (eqO true) (lcM [1] (tgN 1) (bindM (bindM (callM 1 f_l_is_entry (mCons (mVar 1) (retM []))) fun d => optM (truD d)) fun v => retM (!v)) (mVar 1) (bindM (mVar 0) asT)) (bindM (retM []) fun ds => optM (lstO ds))) = test at *
    cases c : ds.all isE with
    | false =>
      rw [c] at n
      simp [bindM, bindS, retM, optM, m1, m2, m3, mA, mCons, mVar, mPk, mIf, seqS, ifS, asgV, callM, Sto.at, Sto.put, sto0, fnM, asB, asInt, ht, isTp, truD, n, bookP, c]
    | true =>
      rw [c] at n
      have hE := List.all_eq_true.mp c
      have g := lc_nm (vs := []) (F := F) ⟨[.val (.tup ds), .un, .un], F⟩ (fun _ => rfl) (fun _ => rfl) ds hE l2
      have w : (⟨[.val (.tup ds), .un, .un], F⟩ : Sto).wipe [1] = ⟨[.val (.tup ds), .un, .un], F⟩ := rfl
      obtain ⟨u1, u2⟩ := uniq_strs (T := 390) (xs := ds.map nmO) (fun x hx => by
        obtain ⟨d, hd, rfl⟩ := List.mem_map.mp hx
        exact nm_small (lfs_iff.mp h d hd) (hE d hd)) (by rw [List.length_map]; exact l1) false
      have u1 : uniqO (.lst ((ds.map nmO).map D.str)) = _ := u1
      rw [List.map_map] at u1 u2
      have g2 : (ds.map fun d => D.str (nmO d)) = ds.map (D.str ∘ nmO) := rfl
      rw [g2] at g
      generalize m2 ixO (mPk 1) (retM (.int 0)) = te at *
      generalize ds.map (D.str ∘ nmO) = zs at *
      generalize (uniqS (ds.map nmO)).map D.str = ys at *
      simp [bindM, bindS, retM, optM, m1, m2, m3, mA, mCons, mVar, mPk, mIf, seqS, ifS, asgV, callM, Sto.at, Sto.put, sto0, fnM, asB, asInt, ht, isTp, truD, n, asgL, lcM, asT, w, g, u1, u2, bookP, c]
  | fd => exact absurd rfl (lf_fd h)
  | _ => simp [bindM, bindS, retM, optM, m1, m2, m3, mA, mCons, mVar, mPk, mIf, seqS, ifS, asgV, callM, Sto.at, Sto.put, sto0, fnM, asB, asInt, ht, isTp, truD, bookP]
end K01

set_option linter.all false
set_option maxRecDepth 100000
set_option maxHeartbeats 4000000
namespace K01
open PySem L2 Og Gr
def txO : D → Str
  | .str x => x
  | _ => ""
theorem knd_str {d : D} (h : knd d = true) : d = .str (txO d) := by
  cases d <;> simp [knd] at h <;> rfl
theorem knds_str {ds : List D} (h : ds.all knd = true) : ds = (ds.map txO).map D.str := by
  rw [List.map_map]
  conv => lhs; rw [← List.map_id ds]
  exact List.map_congr_left fun d hd => knd_str (List.all_eq_true.mp h d hd)
noncomputable def ksetP : D → Bool
  | .tup ds => ds.all knd && ascS (ds.map txO)
  | _ => false
noncomputable def stP : D → Bool
  | .tup [a, b] => ksetP a && ttl b
  | _ => false
theorem kset_ev {d : D} {T : Nat} (h : d.lf T) (hT : T ≤ 50000) (hl : ∀ ds, d = .tup ds → ds.length ≤ sizeLine) (F : Fd) : f_p_is_kind_set [d] F = .ok (.bl (ksetP d)) F := by
  have ht := isi_tup (lf_fd h)
  unfold f_p_is_kind_set m_p_is_kind_set
  cases d with
  | tup ds =>
    simp only [D.lf] at h
    have g := all_ev (F := F) (fun d hd => is_kind_ev (lfs_iff.mp h d hd) hT F) (hl ds rfl) .un
    generalize (mA allO (mCons (lcM [1] (tgN 1) (retM true) (callM 1 f_p_is_kind (mCons (mVar 1) (retM []))) (bindM (mVar 0) asT)) (retM []))) = te at *
    cases c : ds.all knd with
    | false =>
      rw [c] at g
      simp [bindM, bindS, retM, optM, m1, m2, m3, mA, mCons, mVar, mPk, mIf, seqS, ifS, asgV, callM, Sto.at, Sto.put, sto0, fnM, asB, asInt, ht, isTp, g, ksetP, c]
    | true =>
      rw [c] at g
      have a : f_p_is_ascending [.tup ((ds.map txO).map D.str)] F = _ := is_asc_ev true (xs := ds.map txO) (by rw [List.length_map]; exact hl ds rfl) F
      rw [← knds_str c] at a
      simp [bindM, bindS, retM, optM, m1, m2, m3, mA, mCons, mVar, mPk, mIf, seqS, ifS, asgV, callM, Sto.at, Sto.put, sto0, fnM, asB, asInt, ht, isTp, g, a, ksetP, c]
  | fd => exact absurd rfl (lf_fd h)
  | _ => simp [bindM, bindS, retM, optM, m1, m2, m3, mA, mCons, mVar, mPk, mIf, seqS, ifS, asgV, callM, Sto.at, Sto.put, sto0, fnM, asB, asInt, ht, isTp, ksetP]
theorem stP_tup {ds : List D} (h : ds.length ≠ 2) : stP (.tup ds) = false := by
  unfold stP
  split
  · rename_i a b e
    cases e
    simp at h
  · rfl
theorem is_stand_ev {d : D} {T : Nat} (h : d.lf T) (hT : T ≤ 50000) (hl : ∀ a b ds, d = .tup [a, b] → a = .tup ds → ds.length ≤ sizeLine) (F : Fd) : f_p_is_stand [d] F = .ok (.bl (stP d)) F := by
  have hr : f_p_is_row [d, .int 2] F = _ := is_row_ev (lf_fd h) 2 F
  have hT2 : T ≤ sizeLine := Nat.le_trans hT (by decide)
  unfold f_p_is_stand m_p_is_stand
  cases d with
  | tup ds =>
    by_cases l : ds.length = 2
    · match ds, l with
      | [a, b], _ =>
        simp only [D.lf, D.lfs] at h
        have k := kset_ev h.1 hT (fun ds e => hl a b ds rfl e) F
        have n := is_name_ev h.2.1 hT2 F
        have i0 : ixO (.tup [a, b]) (.int 0) = some a := rfl
        have i1 : ixO (.tup [a, b]) (.int 1) = some b := rfl
        cases q : ksetP a
        · rw [q] at k
          simp [bindM, bindS, retM, optM, m1, m2, m3, mA, mCons, mVar, mPk, mIf, seqS, ifS, asgV, callM, Sto.at, Sto.put, sto0, fnM, asB, asInt, hr, rowP, k, i0, stP, q]
        · rw [q] at k
          simp [bindM, bindS, retM, optM, m1, m2, m3, mA, mCons, mVar, mPk, mIf, seqS, ifS, asgV, callM, Sto.at, Sto.put, sto0, fnM, asB, asInt, hr, rowP, n, k, i0, i1, stP, q]
    · have e := stP_tup l
      simp [bindM, bindS, retM, optM, m1, m2, m3, mA, mCons, mVar, mPk, mIf, seqS, ifS, asgV, callM, Sto.at, Sto.put, sto0, fnM, asB, asInt, hr, rowP, l, e]
  | fd => exact absurd rfl (lf_fd h)
  | _ => simp [bindM, bindS, retM, optM, m1, m2, m3, mA, mCons, mVar, mPk, mIf, seqS, ifS, asgV, callM, Sto.at, Sto.put, sto0, fnM, asB, asInt, hr, rowP, stP]
theorem tx_small {T : Nat} {d : D} (h : d.lf T) (he : knd d = true) : (txO d).length ≤ T ∧ A7 (txO d) := by
  have e := knd_str he
  rw [e] at h
  simp only [D.lf] at h
  exact h
theorem lis_stand_ev {d : D} (h : d.lf 390) (hd : d.dp ≤ 60) (hl : ∀ a b ds, d = .tup [a, b] → a = .tup ds → ds.length < 4000) (F : Fd) : f_l_is_stand [d] F = .ok (.bl (stP d)) F := by
  have ht := isi_tup (lf_fd h)
  unfold f_l_is_stand m_l_is_stand
  cases d with
  | tup ds =>
    have q := eq_int (ds.length : Int) 2 true
    simp only [if_true] at q
    have q2 : decide ((ds.length : Int) = 2) = decide (ds.length = 2) := by
      rw [decide_eq_decide]
      omega
    rw [q2] at q
    by_cases l : ds.length = 2
    · match ds, l with
      | [a, b], _ =>
        simp only [D.lf, D.lfs] at h
        simp only [D.dp, D.dps] at hd
        clear q q2
        have q0 : eqO true (.int 2) (.int 2) = some (.bl false) := by rw [eq_int 2 2 true]; rfl
        have n := is_title_ev h.2.1 (by decide) F
        have i0 : ixO (.tup [a, b]) (.int 0) = some a := rfl
        have i1 : ixO (.tup [a, b]) (.int 1) = some b := rfl
        have hta := isi_tup (lf_fd h.1)
        cases c : ttl b with
        | false =>
          rw [c] at n
          generalize f_l_parsed 200 = fp at *
          simp [bindM, bindS, retM, optM, m1, m2, m3, mA, mCons, mVar, mPk, mIf, seqS, ifS, asgV, callM, Sto.at, Sto.put, sto0, fnM, asB, asInt, ht, isTp, lenO, q0, n, i1, truD, stP, c]
        | true =>
          rw [c] at n
          cases a with
          | tup ks =>
            simp only [D.lf] at h
            simp only [D.dp] at hd
            have l1 := hl _ _ ks rfl rfl
            have l2 : ks.length ≤ sizeLine := Nat.le_trans (Nat.le_of_lt l1) (by decide)
            have nn := none_ev (TT := bindM (m2 (isNO false) (callM 1 (f_l_parsed 200) (mCons (mVar 1) (retM []))) (retM .non)) asB) (P := knd) (it := .tup [.tup ks, b]) (rest := []) (F := F) (m := bindM (m2 ixO (mPk 0) (retM (.int 0))) asT) (S0 := ⟨[.val (.tup [.tup ks, b]), .un], F⟩) (ds := ks) (T := 390) true rfl (fun d hx => by
              obtain ⟨r, hr, hn⟩ := parsed_d (lfs_iff.mp h.1 d hx) F
              have e : isNO false r .non = some (.bl (!knd d)) := by
                show some (D.bl _) = _
                rw [hn]
                simp
              generalize f_l_parsed 200 = fp at *
              simp [bindM, bindS, retM, optM, m1, m2, m3, mA, mCons, mVar, mPk, mIf, seqS, ifS, asgV, callM, Sto.at, Sto.put, sto0, fnM, asB, asInt, hr, e]) h.1 (by omega) l2
            generalize (m2 (eqO true) (lcM [1] (tgN 1) (bindM (m2 (isNO false) (callM 1 (f_l_parsed 200) (mCons (mVar 1) (retM []))) (retM .non)) asB) (mVar 1) (bindM (m2 ixO (mPk 0) (retM (.int 0))) asT)) (bindM (retM []) fun ds => optM (lstO ds))) = test at *
            cases k : ks.all knd with
            | false =>
              rw [k] at nn
              simp [bindM, bindS, retM, optM, m1, m2, m3, mA, mCons, mVar, mPk, mIf, seqS, ifS, asgV, callM, Sto.at, Sto.put, sto0, fnM, asB, asInt, ht, hta, isTp, lenO, q0, n, i0, i1, truD, nn, stP, ksetP, c, k]
            | true =>
              rw [k] at nn
              obtain ⟨u1, u2⟩ := uniq_strs (T := 390) (xs := ks.map txO) (fun x hx => by
                obtain ⟨d, hd, rfl⟩ := List.mem_map.mp hx
                exact tx_small (lfs_iff.mp h.1 d hd) (List.all_eq_true.mp k d hd)) (by rw [List.length_map]; exact l1) true
              have u1 : uniqO (.tup ((ks.map txO).map D.str)) = _ := u1
              rw [← knds_str k] at u1 u2
              have lo : listO [.tup ks] = some (.lst ks) := rfl
              generalize (uniqS (ks.map txO)).map D.str = ys at *
              simp [bindM, bindS, retM, optM, m1, m2, m3, mA, mCons, mVar, mPk, mIf, seqS, ifS, asgV, callM, Sto.at, Sto.put, sto0, fnM, asB, asInt, ht, hta, isTp, lenO, q0, n, i0, i1, truD, nn, lo, u1, u2, stP, ksetP, c, k]
          | fd => exact absurd rfl (lf_fd h.1)
          | _ =>
            generalize f_l_parsed 200 = fp at *
            simp [bindM, bindS, retM, optM, m1, m2, m3, mA, mCons, mVar, mPk, mIf, seqS, ifS, asgV, callM, Sto.at, Sto.put, sto0, fnM, asB, asInt, ht, hta, isTp, lenO, q0, n, i0, i1, truD, stP, ksetP, c]
    · have e := stP_tup l
      rw [decide_eq_false l] at q
      generalize f_l_parsed 200 = fp at *
      simp [bindM, bindS, retM, optM, m1, m2, m3, mA, mCons, mVar, mPk, mIf, seqS, ifS, asgV, callM, Sto.at, Sto.put, sto0, fnM, asB, asInt, ht, isTp, lenO, q, e, truD]
  | fd => exact absurd rfl (lf_fd h)
  | _ =>
    generalize f_l_parsed 200 = fp at *
    simp [bindM, bindS, retM, optM, m1, m2, m3, mA, mCons, mVar, mPk, mIf, seqS, ifS, asgV, callM, Sto.at, Sto.put, sto0, fnM, asB, asInt, ht, isTp, stP, truD]
end K01

set_option linter.all false
set_option maxRecDepth 100000
set_option maxHeartbeats 4000000
namespace K01
open PySem L2 Og Gr
/-! makers -/
mutual
def mkP : D → Bool
  | .tup ds => mk2 ds
  | _ => false
def mk2 : List D → Bool
  | [a, b] => (ttl a || numP a) && mkT b
  | _ => false
def mkT : D → Bool
  | .tup ds => mksP ds
  | _ => false
def mksP : List D → Bool
  | [] => true
  | d :: ds => mkP d && mksP ds
end
theorem mks_all : ∀ ds : List D, mksP ds = ds.all mkP
  | [] => by simp [mksP]
  | d :: ds => by simp [mksP, mks_all ds]
def mkF : D → Bool
  | .tup [a, b] => (ttl a || numP a) && isTp b
  | _ => false
theorem mkF_some {d : D} (h : mkF d = true) : ∃ a ms, d = .tup [a, .tup ms] ∧ mkP d = ms.all mkP := by
  unfold mkF at h
  split at h
  · rename_i a b
    rw [Bool.and_eq_true] at h
    cases b with
    | tup ms => exact ⟨a, ms, rfl, by simp [mkP, mk2, mkT, mks_all, h.1]⟩
    | _ => simp [isTp] at h
  · cases h
theorem mkF_no {d : D} (h : mkF d = false) : mkP d = false := by
  cases d with
  | tup ds =>
    match ds with
    | [a, b] =>
      cases b with
      | tup ms =>
        simp [mkF, isTp] at h
        simp [mkP, mk2, h]
      | _ => simp [mkP, mk2, mkT]
    | [] => simp [mkP, mk2]
    | [a] => simp [mkP, mk2]
    | a :: b :: c :: r => simp [mkP, mk2]
  | _ => simp [mkP]
theorem mkF_tup {ds : List D} (h : ds.length ≠ 2) : mkF (.tup ds) = false := by
  unfold mkF
  split
  · rename_i a b e
    cases e
    simp at h
  · rfl
theorem maker_form_ev {d : D} {T : Nat} (h : d.lf T) (hT : T ≤ 50000) (F : Fd) : f_p_has_maker_form [d] F = .ok (.bl (mkF d)) F := by
  have hr : f_p_is_row [d, .int 2] F = _ := is_row_ev (lf_fd h) 2 F
  have hT2 : T ≤ sizeLine := Nat.le_trans hT (by decide)
  unfold f_p_has_maker_form m_p_has_maker_form
  cases d with
  | tup ds =>
    by_cases l : ds.length = 2
    · match ds, l with
      | [a, b], _ =>
        simp only [D.lf, D.lfs] at h
        have n := is_name_ev h.1 hT2 F
        have k := is_number_ev (lf_fd h.1) F
        have t := isi_tup (lf_fd h.2.1)
        have i0 : ixO (.tup [a, b]) (.int 0) = some a := rfl
        have i1 : ixO (.tup [a, b]) (.int 1) = some b := rfl
        cases q : ttl a
        · rw [q] at n
          cases q2 : numP a
          · rw [q2] at k
            simp [bindM, bindS, retM, optM, m1, m2, m3, mA, mCons, mVar, mPk, mIf, seqS, ifS, asgV, callM, Sto.at, Sto.put, sto0, fnM, asB, asInt, hr, rowP, n, k, i0, mkF, q, q2]
          · rw [q2] at k
            simp [bindM, bindS, retM, optM, m1, m2, m3, mA, mCons, mVar, mPk, mIf, seqS, ifS, asgV, callM, Sto.at, Sto.put, sto0, fnM, asB, asInt, hr, rowP, n, k, t, i0, i1, mkF, q, q2]
        · rw [q] at n
          simp [bindM, bindS, retM, optM, m1, m2, m3, mA, mCons, mVar, mPk, mIf, seqS, ifS, asgV, callM, Sto.at, Sto.put, sto0, fnM, asB, asInt, hr, rowP, n, k, t, i0, i1, mkF, q]
    · have e := mkF_tup l
      simp [bindM, bindS, retM, optM, m1, m2, m3, mA, mCons, mVar, mPk, mIf, seqS, ifS, asgV, callM, Sto.at, Sto.put, sto0, fnM, asB, asInt, hr, rowP, l, e]
  | fd => exact absurd rfl (lf_fd h)
  | _ => simp [bindM, bindS, retM, optM, m1, m2, m3, mA, mCons, mVar, mPk, mIf, seqS, ifS, asgV, callM, Sto.at, Sto.put, sto0, fnM, asB, asInt, hr, rowP, mkF]
theorem is_maker_ev {d : D} {T : Nat} (h : d.lf T) (hT : T ≤ 50000) (hw : d.wt ≤ 40000) (F : Fd) : f_p_is_maker [d] F = .ok (.bl (mkP d)) F := by
  have g : wpF (f_p_is_maker [d] F) (fun r F' => r = .bl (mkP d) ∧ F' = F) (fun _ _ => False) := by
    refine wpF_fn ?_
    unfold m_p_is_maker
    refine wpS_seq ?_
    have w1 : wpS (asgL 1 (bindM (mCons (mVar 0) (retM [])) fun ds => optM (lstO ds))) (sto0 3 [d] F) { nx := fun s => s = ⟨[.val d, .own [d], .un], F⟩ } := by
      simp [bindM, bindS, retM, optM, m1, m2, m3, mA, mCons, mVar, mPk, mIf, seqS, ifS, asgV, callM, Sto.at, Sto.put, sto0, fnM, asB, asInt, asgL, lstO, wpS, one_line]
    refine wpS_mono w1 ?_ (fun _ _ h => h.elim) (fun _ h => h.elim) (fun _ h => h.elim) (fun _ _ h => h.elim)
    rintro _ rfl
    refine wpS_seq ?_
    refine wpS_while (J := fun n s => ∃ (ws : List D) (x2 : SV), D.wts ws ≤ n ∧ n ≤ 40001 ∧ (∀ w ∈ ws, w.lf T) ∧ ws.all mkP = mkP d ∧ s = ⟨[.val d, .own ws, x2], F⟩) ?_ (d.wt + 1) 100000 _ (by omega) ⟨[d], .un, by simp [D.wts], by omega, by simpa using h, by simp, rfl⟩
    rintro n s ⟨ws, x2, hn, hn2, hl, ha, rfl⟩
    by_cases e : ws = []
    · subst e
      have ha : mkP d = true := by rw [← ha]; rfl
      have t : truD (.lst []) = some false := rfl
      simp [bindM, bindS, retM, optM, m1, m2, m3, mA, mCons, mVar, mPk, mIf, seqS, ifS, asgV, callM, Sto.at, Sto.put, sto0, fnM, asB, asInt, wp, wpS, t, ha]
    · have t : truD (.lst ws) = some true := by
        cases ws with
        | nil => exact absurd rfl e
        | cons => rfl
      obtain ⟨ini, w, rfl⟩ : ∃ ini w, ws = ini ++ [w] := ⟨ws.dropLast, ws.getLast e, (List.dropLast_concat_getLast e).symm⟩
      have hwl := hl w (by simp)
      have fm := maker_form_ev hwl hT F
      have wts : D.wts (ini ++ [w]) = D.wts ini + (w.wt + 1) := by rw [wts_app]; simp [D.wts]
      have la : (ini ++ [w]).getLast? = some w := by simp
      have dl : (ini ++ [w]).dropLast = ini := by simp
      rw [List.all_append] at ha
      simp only [List.all_cons, List.all_nil, Bool.and_true] at ha
      rw [wts] at hn
      have w0 : wp (bindM (mPk 1) fun d => optM (truD d)) ⟨[.val d, .own (ini ++ [w]), x2], F⟩ (fun k s => k = true ∧ s = ⟨[.val d, .own (ini ++ [w]), x2], F⟩) (fun _ _ => False) := by
        simp [bindM, bindS, retM, optM, m1, m2, m3, mA, mCons, mVar, mPk, mIf, seqS, ifS, asgV, callM, Sto.at, Sto.put, sto0, fnM, asB, asInt, wp, t]
      refine wp_mono w0 ?_
      rintro k s1 ⟨rfl, rfl⟩
      rw [if_pos rfl]
      refine ⟨n - 1, by omega, ?_⟩
      cases c : mkF w with
      | false =>
        rw [c] at fm
        have := mkF_no c
        rw [this, Bool.and_false] at ha
        simp [bindM, bindS, retM, optM, m1, m2, m3, mA, mCons, mVar, mPk, mIf, seqS, ifS, asgV, callM, Sto.at, Sto.put, sto0, fnM, asB, asInt, popS, la, dl, fm, truD, wpS, ha]
      | true =>
        rw [c] at fm
        obtain ⟨a, ms, rfl, hm⟩ := mkF_some c
        have i1 : ixO (.tup [a, .tup ms]) (.int 1) = some (.tup ms) := rfl
        have wt2 : (D.tup [a, .tup ms]).wt = a.wt + 1 + (D.wts ms + 1) := by simp [D.wt, D.wts]
        rw [wt2] at hn
        have l1 := len_wts ini
        have l2 := len_wts ms
        have lz : ini.length + ms.length ≤ sizeLine := Nat.le_trans (show _ ≤ 40001 by omega) (by decide)
        simp only [D.lf, D.lfs] at hwl
        have hlf : ∀ w ∈ ini ++ ms, w.lf T := fun w hw => by
          rcases List.mem_append.mp hw with hw | hw
          · exact hl w (by simp [hw])
          · exact lfs_iff.mp hwl.2.1 w hw
        have hall : (ini ++ ms).all mkP = mkP d := by rw [List.all_append, ← ha, hm]
        have hw2 : D.wts (ini ++ ms) ≤ n - 1 := by rw [wts_app]; omega
        have w2 : wpS (seqS (popS 2 1) (seqS (ifS (bindM (bindM (callM 1 f_p_has_maker_form (mCons (mVar 2) (retM []))) fun d => optM (truD d)) fun v => retM (!v)) (seqS (bindS (retM (.bl false)) fun d s => .rt d s) (fun s => .nx s)) (fun s => .nx s)) (seqS (extTM 1 (m2 ixO (mPk 2) (retM (.int 1)))) (fun s => .nx s)))) ⟨[.val d, .own (ini ++ [.tup [a, .tup ms]]), x2], F⟩ { nx := fun s => s = ⟨[.val d, .own (ini ++ ms), .val (.tup [a, .tup ms])], F⟩ } := by
          simp [bindM, bindS, retM, optM, m1, m2, m3, mA, mCons, mVar, mPk, mIf, seqS, ifS, asgV, callM, Sto.at, Sto.put, sto0, fnM, asB, asInt, popS, la, dl, fm, truD, wpS, extTM, i1, lz]
        refine wpS_mono w2 ?_ (fun _ _ h => h.elim) (fun _ h => h.elim) (fun _ h => h.elim) (fun _ _ h => h.elim)
        rintro _ rfl
        exact ⟨ini ++ ms, _, hw2, by omega, hlf, hall, rfl⟩
  obtain ⟨r, F', e, h1, h2⟩ := wpF_ok g
  rw [e, h1, h2]
end K01

set_option linter.all false
set_option maxRecDepth 100000
set_option maxHeartbeats 4000000
namespace K01
open PySem L2 Og Gr
theorem lis_maker_ev : ∀ (n : Nat) (d : D) (F : Fd), d.lf 390 → d.dp < 2 * n → d.dp ≤ 60 → d.wt ≤ 40000 → f_l_is_maker n [d] F = .ok (.bl (mkP d)) F
  | 0, d, F, _, h, _, _ => by omega
  | n + 1, d, F, h, hn, hd, hw => by
    have ht := isi_tup (lf_fd h)
    show fnM 2 (m_l_is_maker (f_l_is_maker n)) [d] F = _
    unfold m_l_is_maker
    cases d with
    | tup ds =>
      have q := eq_int (ds.length : Int) 2 true
      simp only [if_true] at q
      have q2 : decide ((ds.length : Int) = 2) = decide (ds.length = 2) := by
        rw [decide_eq_decide]
        omega
      rw [q2] at q
      by_cases l : ds.length = 2
      · match ds, l with
        | [a, b], _ =>
          clear q q2
          simp only [D.lf, D.lfs] at h
          simp only [D.dp, D.dps] at hd hn
          simp only [D.wt, D.wts] at hw
          have q0 : eqO true (.int 2) (.int 2) = some (.bl false) := by rw [eq_int 2 2 true]; rfl
          have i0 : ixO (.tup [a, b]) (.int 0) = some a := rfl
          have i1 : ixO (.tup [a, b]) (.int 1) = some b := rfl
          have tb := isi_tup (lf_fd h.2.1)
          cases b with
          | tup ms =>
            simp only [D.lf] at h
            simp only [D.dp] at hd hn
            simp only [D.wt] at hw
            have l2 : ms.length ≤ sizeLine := Nat.le_trans (len_wts ms) (Nat.le_trans (show _ ≤ 40000 by omega) (by decide))
            have t := is_title_ev h.1 (by decide) F
            have u := lis_number_ev (lf_fd h.1) F
            have nn := none_ev (TT := bindM (bindM (callM 1 (f_l_is_maker n) (mCons (mVar 1) (retM []))) fun d => optM (truD d)) fun v => retM (!v)) (P := mkP) (it := .tup [a, .tup ms]) (rest := []) (F := F) (m := bindM (m2 ixO (mPk 0) (retM (.int 1))) asT) (S0 := ⟨[.val (.tup [a, .tup ms]), .un], F⟩) (ds := ms) (T := 390) false rfl (fun d hx => by
              have e := lis_maker_ev n d F (lfs_iff.mp h.2.1 d hx) (by
                have := dps_le.mp (Nat.le_refl (D.dps ms)) d hx
                omega) (by
                have := dps_le.mp (Nat.le_refl (D.dps ms)) d hx
                omega) (by
                have := wt_mem hx
                omega)
              generalize f_l_is_maker n = fp at *
              simp [bindM, bindS, retM, optM, m1, m2, m3, mA, mCons, mVar, mPk, mIf, seqS, ifS, asgV, callM, Sto.at, Sto.put, sto0, fnM, asB, asInt, e, truD]) h.2.1 (by omega) l2
            generalize (m2 (eqO false) (lcM [1] (tgN 1) (bindM (bindM (callM 1 (f_l_is_maker n) (mCons (mVar 1) (retM []))) fun d => optM (truD d)) fun v => retM (!v)) (mVar 1) (bindM (m2 ixO (mPk 0) (retM (.int 1))) asT)) (bindM (retM []) fun ds => optM (lstO ds))) = test at *
            have mp : mkP (.tup [a, .tup ms]) = ((ttl a || numP a) && ms.all mkP) := by simp [mkP, mk2, mkT, mks_all]
            rw [mp]
            cases c : ttl a
            · rw [c] at t
              cases c2 : numP a
              · rw [c2] at u
                simp [bindM, bindS, retM, optM, m1, m2, m3, mA, mCons, mVar, mPk, mIf, seqS, ifS, asgV, callM, Sto.at, Sto.put, sto0, fnM, asB, asInt, ht, tb, isTp, lenO, q0, i0, i1, truD, t, u]
              · rw [c2] at u
                simp [bindM, bindS, retM, optM, m1, m2, m3, mA, mCons, mVar, mPk, mIf, seqS, ifS, asgV, callM, Sto.at, Sto.put, sto0, fnM, asB, asInt, ht, tb, isTp, lenO, q0, i0, i1, truD, t, u, nn]
            · rw [c] at t
              simp [bindM, bindS, retM, optM, m1, m2, m3, mA, mCons, mVar, mPk, mIf, seqS, ifS, asgV, callM, Sto.at, Sto.put, sto0, fnM, asB, asInt, ht, tb, isTp, lenO, q0, i0, i1, truD, t, nn]
          | fd => exact absurd rfl (lf_fd h.2.1)
          | _ =>
            generalize f_l_is_maker n = fp at *
            simp [bindM, bindS, retM, optM, m1, m2, m3, mA, mCons, mVar, mPk, mIf, seqS, ifS, asgV, callM, Sto.at, Sto.put, sto0, fnM, asB, asInt, ht, tb, isTp, lenO, q0, i0, i1, truD, mkP, mk2, mkT]
      · have e := mkF_no (mkF_tup l)
        rw [decide_eq_false l] at q
        generalize f_l_is_maker n = fp at *
        simp [bindM, bindS, retM, optM, m1, m2, m3, mA, mCons, mVar, mPk, mIf, seqS, ifS, asgV, callM, Sto.at, Sto.put, sto0, fnM, asB, asInt, ht, isTp, lenO, q, e, truD]
    | fd => exact absurd rfl (lf_fd h)
    | _ =>
      generalize f_l_is_maker n = fp at *
      simp [bindM, bindS, retM, optM, m1, m2, m3, mA, mCons, mVar, mPk, mIf, seqS, ifS, asgV, callM, Sto.at, Sto.put, sto0, fnM, asB, asInt, ht, isTp, mkP, truD]
end K01

set_option linter.all false
set_option maxRecDepth 100000
set_option maxHeartbeats 4000000
namespace K01
open PySem L2 Og Gr
def isW (x : Str) : D → Bool
  | .str z => z == x
  | _ => false
theorem eq_any {d : D} {T : Nat} {x : Str} (h : d.lf T) (hd : d.dp ≤ 60) (hx : sOk x) (neg : Bool) : eqO neg d (.str x) = some (.bl (if neg then !isW x d else isW x d)) := by
  obtain ⟨p, hp⟩ := shaped_ok h (by omega)
  cases d with
  | str z =>
    simp only [D.lf] at h
    exact eq_str (a7_sOk h.2) hx neg
  | fd => exact absurd rfl (lf_fd h)
  | _ =>
    have e := (shapedD_some hp).1
    unfold eqO
    rw [hp, shaped_str hx]
    simp only [D.toP, Option.some.injEq, Option.map_eq_some_iff] at e
    first
    | (obtain ⟨ps, _, rfl⟩ := e; simp [PyData.eqv, isW])
    | (subst e; simp [PyData.eqv, isW])
def dis (xs : List Str) : Bool := decide ((dedS xs).length = xs.length)
noncomputable def esP : D → Bool
  | .tup es => es.all isE && !es.isEmpty && dis (es.map nmO)
  | _ => false
mutual
noncomputable def tmP : D → Bool
  | .str z => ttl (.str z)
  | .tup ds => tm3 ds
  | _ => false
noncomputable def tm3 : List D → Bool
  | [w, a, b] => (isW "call" w && (tmP a && tmT b)) || (isW "fun" w && (esP a && tmP b))
  | _ => false
noncomputable def tmT : D → Bool
  | .tup ds => !ds.isEmpty && tmsP ds
  | _ => false
noncomputable def tmsP : List D → Bool
  | [] => true
  | d :: ds => tmP d && tmsP ds
end
theorem tms_all : ∀ ds : List D, tmsP ds = ds.all tmP
  | [] => by simp [tmsP]
  | d :: ds => by simp [tmsP, tms_all ds]
def callF : D → Bool
  | .tup [w, _, .tup ts] => isW "call" w && !ts.isEmpty
  | _ => false
noncomputable def funF : D → Bool
  | .tup [w, a, _] => isW "fun" w && esP a
  | _ => false
theorem call_ok : sOk "call" := by unfold sOk; decide +kernel
theorem fun_ok : sOk "fun" := by unfold sOk; decide +kernel
theorem gt_nat (n : Nat) : gtO (.int (n : Int)) (.int 0) = some (.bl (decide (0 < n))) := by
  have e : decide ((0 : Int) < (n : Int)) = decide (0 < n) := by
    rw [decide_eq_decide]
    omega
  rw [← e]
  rfl
theorem ne_pos {α : Type} (xs : List α) : decide (0 < xs.length) = !xs.isEmpty := by cases xs <;> simp
theorem call_form_ev {d : D} {T : Nat} (h : d.lf T) (hd : d.dp ≤ 60) (F : Fd) : f_p_has_call_form [d] F = .ok (.bl (callF d)) F := by
  have hr : f_p_is_row [d, .int 3] F = _ := is_row_ev (lf_fd h) 3 F
  unfold f_p_has_call_form m_p_has_call_form
  cases d with
  | tup ds =>
    by_cases l : ds.length = 3
    · match ds, l with
      | [w, a, b], _ =>
        simp only [D.lf, D.lfs] at h
        simp only [D.dp, D.dps] at hd
        have q := eq_any h.1 (by omega) call_ok false
        simp only [Bool.false_eq_true, if_false] at q
        have t := isi_tup (lf_fd h.2.2.1)
        have i0 : ixO (.tup [w, a, b]) (.int 0) = some w := rfl
        have i2 : ixO (.tup [w, a, b]) (.int 2) = some b := rfl
        cases c : isW "call" w
        · rw [c] at q
          have e : callF (.tup [w, a, b]) = false := by
            unfold callF
            split
            · rename_i e
              cases e
              simp [c]
            · rfl
          simp [bindM, bindS, retM, optM, m1, m2, m3, mA, mCons, mVar, mPk, mIf, seqS, ifS, asgV, callM, Sto.at, Sto.put, sto0, fnM, asB, asInt, hr, rowP, q, i0, e]
        · rw [c] at q
          cases b with
          | tup ts =>
            have g := gt_nat ts.length
            rw [ne_pos] at g
            simp [bindM, bindS, retM, optM, m1, m2, m3, mA, mCons, mVar, mPk, mIf, seqS, ifS, asgV, callM, Sto.at, Sto.put, sto0, fnM, asB, asInt, hr, rowP, q, t, isTp, lenO, g, i0, i2, callF, c]
          | fd => exact absurd rfl (lf_fd h.2.2.1)
          | _ => simp [bindM, bindS, retM, optM, m1, m2, m3, mA, mCons, mVar, mPk, mIf, seqS, ifS, asgV, callM, Sto.at, Sto.put, sto0, fnM, asB, asInt, hr, rowP, q, t, isTp, i0, i2, callF]
    · have e : callF (.tup ds) = false := by
        unfold callF
        split
        · rename_i e
          cases e
          simp at l
        · rfl
      simp [bindM, bindS, retM, optM, m1, m2, m3, mA, mCons, mVar, mPk, mIf, seqS, ifS, asgV, callM, Sto.at, Sto.put, sto0, fnM, asB, asInt, hr, rowP, l, e]
  | fd => exact absurd rfl (lf_fd h)
  | _ => simp [bindM, bindS, retM, optM, m1, m2, m3, mA, mCons, mVar, mPk, mIf, seqS, ifS, asgV, callM, Sto.at, Sto.put, sto0, fnM, asB, asInt, hr, rowP, callF]
theorem lenU_strs {xs : List Str} (l : xs.length < 4000) : lenUO (.lst (xs.map D.str)) = some (.int ((dedS xs).length : Nat)) := by
  have st : strsOf (xs.map D.str) = some xs := by
    clear l
    induction xs with
    | nil => rfl
    | cons x xs ih => simp [strsOf, ih]
  unfold lenUO
  have : textsO (.lst (xs.map D.str)) = some xs := st
  rw [this]
  simp [l]
theorem dis_eq (xs : List Str) : eqO false (.int ((dedS xs).length : Nat)) (.int (xs.length : Nat)) = some (.bl (dis xs)) := by
  rw [eq_int]
  have : decide (((dedS xs).length : Int) = (xs.length : Int)) = dis xs := by
    unfold dis
    rw [decide_eq_decide]
    omega
  rw [this]
  rfl
theorem fun_form_ev {d : D} {T : Nat} (h : d.lf T) (hT : T ≤ 50000) (hd : d.dp ≤ 60) (hw : d.wt < 4000) (F : Fd) : f_p_has_fun_form [d] F = .ok (.bl (funF d)) F := by
  have hr : f_p_is_row [d, .int 3] F = _ := is_row_ev (lf_fd h) 3 F
  unfold f_p_has_fun_form m_p_has_fun_form
  cases d with
  | tup ds =>
    by_cases l : ds.length = 3
    · match ds, l with
      | [w, a, b], _ =>
        simp only [D.lf, D.lfs] at h
        simp only [D.dp, D.dps] at hd
        simp only [D.wt, D.wts] at hw
        have q := eq_any h.1 (by omega) fun_ok true
        simp only [if_true] at q
        have i0 : ixO (.tup [w, a, b]) (.int 0) = some w := rfl
        have i1 : ixO (.tup [w, a, b]) (.int 1) = some a := rfl
        have sl : ∀ ds, a = .tup ds → ds.length < 4000 := fun ds e => by
          have := len_wts ds
          rw [e] at hw
          simp only [D.wt] at hw
          omega
        have en := are_entries_ev h.2.1 hT (fun ds e => Nat.le_trans (Nat.le_of_lt (sl ds e)) (by decide)) F
        cases c : isW "fun" w
        · rw [c] at q
          simp [bindM, bindS, retM, optM, m1, m2, m3, mA, mCons, mVar, mPk, mIf, seqS, ifS, asgV, callM, Sto.at, Sto.put, sto0, fnM, asB, asInt, hr, rowP, truD, q, i0, funF, c]
        · rw [c] at q
          cases k : allE a with
          | false =>
            rw [k] at en
            have ep : esP a = false := by
              cases a with
              | tup es =>
                have k : es.all isE = false := k
                simp only [esP, k, Bool.false_and]
              | _ => rfl
            simp [bindM, bindS, retM, optM, m1, m2, m3, mA, mCons, mVar, mPk, mIf, seqS, ifS, asgV, callM, Sto.at, Sto.put, sto0, fnM, asB, asInt, hr, rowP, truD, q, en, i0, i1, funF, ep]
          | true =>
            rw [k] at en
            cases a with
            | tup es =>
              have k : es.all isE = true := k
              have l1 := sl es rfl
              have nm := names_of_ev (List.all_eq_true.mp k) (Nat.le_trans (Nat.le_of_lt l1) (by decide)) F
              have g := gt_nat es.length
              rw [ne_pos] at g
              have lu := lenU_strs (xs := es.map nmO) (by rw [List.length_map]; exact l1)
              have de := dis_eq (es.map nmO)
              have ln : lenO [.lst ((es.map nmO).map D.str)] = some (.int (es.length : Nat)) := by
                show some (D.int _) = _
                rw [List.length_map, List.length_map]
              rw [List.length_map] at de
              obtain ⟨N, hN⟩ : ∃ N : Int, N = (es.length : Nat) := ⟨_, rfl⟩
              obtain ⟨U, hU⟩ : ∃ U : Int, U = ((dedS (es.map nmO)).length : Nat) := ⟨_, rfl⟩
              rw [← hN] at g ln de
              rw [← hU] at lu de
              generalize (es.map nmO).map D.str = zs at *
              cases em : es.isEmpty
              · rw [em] at g
                simp [bindM, bindS, retM, optM, m1, m2, m3, mA, mCons, mVar, mPk, mIf, seqS, ifS, asgV, callM, Sto.at, Sto.put, sto0, fnM, asB, asInt, hr, rowP, truD, q, en, i0, i1, nm, ln, g, lu, de, funF, c, esP, k, em]
              · rw [em] at g
                simp [bindM, bindS, retM, optM, m1, m2, m3, mA, mCons, mVar, mPk, mIf, seqS, ifS, asgV, callM, Sto.at, Sto.put, sto0, fnM, asB, asInt, hr, rowP, truD, q, en, i0, i1, nm, ln, g, lu, de, funF, c, esP, k, em]
            | _ => simp [allE] at k
    · have e : funF (.tup ds) = false := by
        unfold funF
        split
        · rename_i e
          cases e
          simp at l
        · rfl
      simp [bindM, bindS, retM, optM, m1, m2, m3, mA, mCons, mVar, mPk, mIf, seqS, ifS, asgV, callM, Sto.at, Sto.put, sto0, fnM, asB, asInt, hr, rowP, l, e, truD]
  | fd => exact absurd rfl (lf_fd h)
  | _ => simp [bindM, bindS, retM, optM, m1, m2, m3, mA, mCons, mVar, mPk, mIf, seqS, ifS, asgV, callM, Sto.at, Sto.put, sto0, fnM, asB, asInt, hr, rowP, funF, truD]
end K01

set_option linter.all false
set_option maxRecDepth 100000
set_option maxHeartbeats 4000000
namespace K01
open PySem L2 Og Gr
theorem isW_cf {d : D} (h : isW "fun" d = true) : isW "call" d = false := by
  cases d with
  | str z =>
    simp only [isW, beq_iff_eq] at h
    rw [h]
    decide +kernel
  | _ => rfl
theorem isW_fc {d : D} (h : isW "call" d = true) : isW "fun" d = false := by
  cases c : isW "fun" d
  · rfl
  · rw [isW_cf c] at h
    cases h
theorem callF_some {d : D} (h : callF d = true) : ∃ w a ts, d = .tup [w, a, .tup ts] ∧ tmP d = (tmP a && ts.all tmP) ∧ isW "call" w = true ∧ ts.isEmpty = false := by
  unfold callF at h
  split at h
  · rename_i w a ts
    rw [Bool.and_eq_true] at h
    have f := isW_fc h.1
    have e : ts.isEmpty = false := by simpa using h.2
    exact ⟨w, a, ts, rfl, by simp [tmP, tm3, tmT, tms_all, h.1, f, e], h.1, e⟩
  · cases h
theorem funF_some {d : D} (h : funF d = true) : ∃ w a b, d = .tup [w, a, b] ∧ tmP d = tmP b ∧ isW "fun" w = true ∧ esP a = true := by
  unfold funF at h
  split at h
  · rename_i w a b
    rw [Bool.and_eq_true] at h
    have f := isW_cf h.1
    exact ⟨w, a, b, rfl, by simp [tmP, tm3, h.1, h.2, f], h.1, h.2⟩
  · cases h
theorem form_no {d : D} (h1 : callF d = false) (h2 : funF d = false) : tmP d = ttl d := by
  cases d with
  | tup ds =>
    match ds with
    | [w, a, b] =>
      simp only [funF] at h2
      have e : (isW "call" w && (tmP a && tmT b)) = false := by
        cases b with
        | tup ts =>
          simp only [callF] at h1
          cases c : isW "call" w
          · rfl
          · rw [c] at h1
            have : (!ts.isEmpty) = false := by simpa using h1
            simp only [tmT, this, Bool.false_and, Bool.and_false]
        | _ => simp [tmT]
      have e2 : (isW "fun" w && (esP a && tmP b)) = false := by
        rw [← Bool.and_assoc, h2]
        rfl
      simp [tmP, tm3, e, e2, ttl]
    | [] => simp [tmP, tm3, ttl]
    | [a] => simp [tmP, tm3, ttl]
    | [a, b] => simp [tmP, tm3, ttl]
    | a :: b :: c :: e :: r => simp [tmP, tm3, ttl]
  | str z => rw [tmP]
  | _ => simp [tmP, ttl]
noncomputable def inn (d : D) : List D := if callF d = true then (match d with | .tup [_, a, .tup ts] => a :: ts | _ => []) else if funF d = true then (match d with | .tup [_, _, b] => [b] | _ => []) else []
noncomputable def frm (d : D) : Bool := ttl d || (callF d || funF d)
theorem inner_ev {d : D} {T : Nat} (h : d.lf T) (hT : T ≤ 50000) (hd : d.dp ≤ 60) (hw : d.wt < 4000) (F : Fd) : f_p_inner_terms [d] F = .ok (.lst (inn d)) F := by
  have cf := call_form_ev h hd F
  have ff := fun_form_ev h hT hd hw F
  unfold f_p_inner_terms m_p_inner_terms
  cases c : callF d with
  | true =>
    rw [c] at cf
    obtain ⟨v, a, ts, rfl, _, _, _⟩ := callF_some c
    have i1 : ixO (.tup [v, a, .tup ts]) (.int 1) = some a := rfl
    have i2 : ixO (.tup [v, a, .tup ts]) (.int 2) = some (.tup ts) := rfl
    have wt2 : (D.tup [v, a, .tup ts]).wt = v.wt + 1 + (a.wt + 1 + (D.wts ts + 1)) := by simp [D.wt, D.wts]
    have l2 := len_wts ts
    have al : addL (.lst [a]) (.lst ts) = some (.lst (a :: ts)) := by
      show (if _ then _ else _) = _
      rw [if_pos (by rw [List.length_singleton]; exact Nat.le_trans (show _ ≤ 4001 by omega) (by decide))]
      rfl
    have lo : listO [.tup ts] = some (.lst ts) := rfl
    have e : inn (.tup [v, a, .tup ts]) = a :: ts := by
      unfold inn
      rw [if_pos c]
    rw [e]
    generalize D.tup [v, a, .tup ts] = w at *
    simp [bindM, bindS, retM, optM, m1, m2, m3, mA, mCons, mVar, mPk, mIf, seqS, ifS, asgV, callM, Sto.at, Sto.put, sto0, fnM, asB, asInt, cf, truD, i1, i2, lstO, one_line, lo, al]
  | false =>
    rw [c] at cf
    cases c2 : funF d with
    | true =>
      rw [c2] at ff
      obtain ⟨v, a, b, rfl, _, _, _⟩ := funF_some c2
      have i2 : ixO (.tup [v, a, b]) (.int 2) = some b := rfl
      have e : inn (.tup [v, a, b]) = [b] := by
        unfold inn
        rw [if_neg (by rw [c]; simp), if_pos c2]
      rw [e]
      generalize D.tup [v, a, b] = w at *
      simp [bindM, bindS, retM, optM, m1, m2, m3, mA, mCons, mVar, mPk, mIf, seqS, ifS, asgV, callM, Sto.at, Sto.put, sto0, fnM, asB, asInt, cf, ff, truD, i2, lstO, one_line]
    | false =>
      rw [c2] at ff
      have e : inn d = [] := by
        unfold inn
        rw [if_neg (by rw [c]; simp), if_neg (by rw [c2]; simp)]
      rw [e]
      simp [bindM, bindS, retM, optM, m1, m2, m3, mA, mCons, mVar, mPk, mIf, seqS, ifS, asgV, callM, Sto.at, Sto.put, sto0, fnM, asB, asInt, cf, ff, truD, lstO]
theorem form_ev {d : D} {T : Nat} (h : d.lf T) (hT : T ≤ 50000) (hd : d.dp ≤ 60) (hw : d.wt < 4000) (F : Fd) : f_p_has_term_form [d] F = .ok (.bl (frm d)) F := by
  have cf := call_form_ev h hd F
  have ff := fun_form_ev h hT hd hw F
  have nm := is_name_ev h (Nat.le_trans hT (by decide)) F
  unfold f_p_has_term_form m_p_has_term_form frm
  generalize ttl d = t at *
  generalize callF d = k at *
  generalize funF d = u at *
  cases t <;> cases k <;> simp [bindM, bindS, retM, optM, m1, m2, m3, mA, mCons, mVar, mPk, mIf, seqS, ifS, asgV, callM, Sto.at, Sto.put, sto0, fnM, asB, asInt, cf, ff, nm]
theorem ttl_form {d : D} (h : ttl d = true) : callF d = false ∧ funF d = false := by
  cases d with
  | str z => exact ⟨rfl, by simp [funF]⟩
  | _ => simp [ttl] at h
theorem inn_ok {w : D} {T : Nat} (hwl : w.lf T) (hwd : w.dp ≤ 60) (hf : frm w = true) : D.wts (inn w) ≤ w.wt ∧ (∀ x ∈ inn w, x.lf T ∧ x.dp ≤ 60) ∧ (inn w).all tmP = tmP w := by
  unfold inn
  cases c : callF w with
  | true =>
    obtain ⟨v, a, ts, rfl, hm, _, _⟩ := callF_some c
    rw [if_pos rfl]
    simp only [D.lf, D.lfs] at hwl
    simp only [D.dp, D.dps] at hwd
    refine ⟨by simp only [D.wts, D.wt]; omega, fun x hx => ?_, by rw [hm]; simp⟩
    rcases List.mem_cons.mp hx with rfl | hx
    · exact ⟨hwl.2.1, by omega⟩
    · exact ⟨lfs_iff.mp hwl.2.2.1 x hx, Nat.le_trans (dps_le.mp (Nat.le_refl _) x hx) (by omega)⟩
  | false =>
    rw [if_neg (by simp)]
    cases c2 : funF w with
    | true =>
      obtain ⟨v, a, b, rfl, hm, _, _⟩ := funF_some c2
      rw [if_pos rfl]
      simp only [D.lf, D.lfs] at hwl
      simp only [D.dp, D.dps] at hwd
      refine ⟨by simp only [D.wts, D.wt]; omega, fun x hx => ?_, by rw [hm]; simp⟩
      simp at hx
      subst hx
      exact ⟨hwl.2.2.1, by omega⟩
    | false =>
      rw [if_neg (by simp)]
      unfold frm at hf
      rw [c, c2] at hf
      refine ⟨Nat.zero_le _, (fun _ h => nomatch h), ?_⟩
      rw [form_no c c2]
      simpa using hf.symm
theorem frm_no {w : D} (hf : frm w = false) : tmP w = false := by
  unfold frm at hf
  simp only [Bool.or_eq_false_iff] at hf
  rw [form_no hf.2.1 hf.2.2]
  exact hf.1
theorem is_term_ev {d : D} {T : Nat} (h : d.lf T) (hT : T ≤ 50000) (hd : d.dp ≤ 60) (hw : d.wt ≤ 3900) (F : Fd) : f_p_is_term [d] F = .ok (.bl (tmP d)) F := by
  have g : wpF (f_p_is_term [d] F) (fun r F' => r = .bl (tmP d) ∧ F' = F) (fun _ _ => False) := by
    refine wpF_fn ?_
    unfold m_p_is_term
    refine wpS_seq ?_
    have w1 : wpS (asgL 1 (bindM (mCons (mVar 0) (retM [])) fun ds => optM (lstO ds))) (sto0 3 [d] F) { nx := fun s => s = ⟨[.val d, .own [d], .un], F⟩ } := by
      simp [bindM, bindS, retM, optM, m1, m2, m3, mA, mCons, mVar, mPk, mIf, seqS, ifS, asgV, callM, Sto.at, Sto.put, sto0, fnM, asB, asInt, asgL, lstO, wpS, one_line]
    refine wpS_mono w1 ?_ (fun _ _ h => h.elim) (fun _ h => h.elim) (fun _ h => h.elim) (fun _ _ h => h.elim)
    rintro _ rfl
    refine wpS_seq ?_
    refine wpS_while (J := fun n s => ∃ (ws : List D) (x2 : SV), D.wts ws ≤ n ∧ n ≤ 3901 ∧ (∀ w ∈ ws, w.lf T ∧ w.dp ≤ 60) ∧ ws.all tmP = tmP d ∧ s = ⟨[.val d, .own ws, x2], F⟩) ?_ (d.wt + 1) 100000 _ (by omega) ⟨[d], .un, by simp [D.wts], by omega, by simpa using ⟨h, hd⟩, by simp, rfl⟩
    rintro n s ⟨ws, x2, hn, hn2, hl, ha, rfl⟩
    by_cases e : ws = []
    · subst e
      have ha : tmP d = true := by rw [← ha]; rfl
      have t : truD (.lst []) = some false := rfl
      simp [bindM, bindS, retM, optM, m1, m2, m3, mA, mCons, mVar, mPk, mIf, seqS, ifS, asgV, callM, Sto.at, Sto.put, sto0, fnM, asB, asInt, wp, wpS, t, ha]
    · have t : truD (.lst ws) = some true := by
        cases ws with
        | nil => exact absurd rfl e
        | cons => rfl
      obtain ⟨ini, w, rfl⟩ : ∃ ini w, ws = ini ++ [w] := ⟨ws.dropLast, ws.getLast e, (List.dropLast_concat_getLast e).symm⟩
      obtain ⟨hwl, hwd⟩ := hl w (by simp)
      have wts : D.wts (ini ++ [w]) = D.wts ini + (w.wt + 1) := by rw [wts_app]; simp [D.wts]
      have la : (ini ++ [w]).getLast? = some w := by simp
      have dl : (ini ++ [w]).dropLast = ini := by simp
      rw [List.all_append] at ha
      simp only [List.all_cons, List.all_nil, Bool.and_true] at ha
      rw [wts] at hn
      have fe := form_ev hwl hT hwd (by omega) F
      have ie := inner_ev hwl hT hwd (by omega) F
      have w0 : wp (bindM (mPk 1) fun d => optM (truD d)) ⟨[.val d, .own (ini ++ [w]), x2], F⟩ (fun k s => k = true ∧ s = ⟨[.val d, .own (ini ++ [w]), x2], F⟩) (fun _ _ => False) := by
        simp [bindM, bindS, retM, optM, m1, m2, m3, mA, mCons, mVar, mPk, mIf, seqS, ifS, asgV, callM, Sto.at, Sto.put, sto0, fnM, asB, asInt, wp, t]
      refine wp_mono w0 ?_
      rintro k s1 ⟨rfl, rfl⟩
      rw [if_pos rfl]
      refine ⟨n - 1, by omega, ?_⟩
      have l1 := len_wts ini
      cases c : frm w with
      | true =>
        rw [c] at fe
        obtain ⟨k1, k2, k3⟩ := inn_ok hwl hwd c
        have l3 := len_wts (inn w)
        have J : ∃ (ws : List D) (y : SV), D.wts ws ≤ n - 1 ∧ n - 1 ≤ 3901 ∧ (∀ w ∈ ws, w.lf T ∧ w.dp ≤ 60) ∧ ws.all tmP = tmP d ∧ (⟨[.val d, .own (ini ++ inn w), .val w], F⟩ : Sto) = ⟨[.val d, .own ws, y], F⟩ :=
          ⟨ini ++ inn w, .val w, by rw [wts_app]; omega, by omega, fun x hx => by
            rcases List.mem_append.mp hx with hx | hx
            · exact hl x (by simp [hx])
            · exact k2 x hx, by rw [List.all_append, k3, ha], rfl⟩
        have lz : ini.length + (inn w).length ≤ sizeLine := Nat.le_trans (show _ ≤ 8000 by omega) (by decide)
        generalize inn w = nw at *
        have w2 : wpS (seqS (popS 2 1) (seqS (ifS (bindM (bindM (callM 1 f_p_has_term_form (mCons (mVar 2) (retM []))) fun d => optM (truD d)) fun v => retM (!v)) (seqS (bindS (retM (.bl false)) fun d s => .rt d s) (fun s => .nx s)) (fun s => .nx s)) (seqS (extS 1 (callM 1 f_p_inner_terms (mCons (mVar 2) (retM [])))) (fun s => .nx s)))) ⟨[.val d, .own (ini ++ [w]), x2], F⟩ { nx := fun s => s = ⟨[.val d, .own (ini ++ nw), .val w], F⟩ } := by
          simp [bindM, bindS, retM, optM, m1, m2, m3, mA, mCons, mVar, mPk, mIf, seqS, ifS, asgV, callM, Sto.at, Sto.put, sto0, fnM, asB, asInt, popS, la, dl, fe, ie, truD, wpS, extS, lz]
        refine wpS_mono w2 ?_ (fun _ _ h => h.elim) (fun _ h => h.elim) (fun _ h => h.elim) (fun _ _ h => h.elim)
        rintro _ rfl
        exact J
      | false =>
        rw [c] at fe
        rw [frm_no c, Bool.and_false] at ha
        have ha2 := ha.symm
        clear ha
        simp [bindM, bindS, retM, optM, m1, m2, m3, mA, mCons, mVar, mPk, mIf, seqS, ifS, asgV, callM, Sto.at, Sto.put, sto0, fnM, asB, asInt, popS, la, dl, fe, truD, wpS, ha2]
  obtain ⟨r, F', e, h1, h2⟩ := wpF_ok g
  rw [e, h1, h2]
end K01

set_option linter.all false
set_option maxRecDepth 100000
set_option maxHeartbeats 8000000
namespace K01
open PySem L2 Og Gr
theorem ttl_tm {d : D} (h : ttl d = true) : tmP d = true := by
  cases d with
  | str z => rw [tmP]; exact h
  | _ => simp [ttl] at h
theorem tm3_len {ds : List D} (h : ds.length ≠ 3) : tm3 ds = false := by
  match ds, h with
  | [], _ => simp [tm3]
  | [a], _ => simp [tm3]
  | [a, b], _ => simp [tm3]
  | a :: b :: c :: e :: r, _ => simp [tm3]
theorem isW_no {x : Str} {d : D} (h : isS d = false) : isW x d = false := by
  cases d <;> first | rfl | (simp [isS] at h)
theorem lis_term_ev : ∀ (n : Nat) (d : D) (F : Fd), d.lf 390 → d.dp < n → d.dp ≤ 60 → d.wt ≤ 3900 → f_l_is_term n [d] F = .ok (.bl (tmP d)) F
  | 0, d, F, _, h, _, _ => by omega
  | n + 1, d, F, h, hn, hd, hw => by
    have ht := isi_tup (lf_fd h)
    have ti := is_title_ev h (by decide) F
    show fnM 3 (m_l_is_term (f_l_is_term n)) [d] F = _
    unfold m_l_is_term
    cases ct : ttl d with
    | true =>
      rw [ct] at ti
      have e := ttl_tm ct
      generalize f_l_is_term n = r at *
      simp [bindM, bindS, retM, optM, m1, m2, m3, mA, mCons, mVar, mPk, mIf, seqS, ifS, asgV, callM, Sto.at, Sto.put, sto0, fnM, asB, asInt, ti, truD, e]
    | false =>
    rw [ct] at ti
    cases d with
    | tup ds =>
      have q := eq_int (ds.length : Int) 3 true
      simp only [if_true] at q
      have q2 : decide ((ds.length : Int) = 3) = decide (ds.length = 3) := by
        rw [decide_eq_decide]
        omega
      rw [q2] at q
      by_cases l : ds.length = 3
      · match ds, l with
        | [w, a, b], _ =>
          clear q q2 ct
          simp only [D.lf, D.lfs] at h
          simp only [D.dp, D.dps] at hd hn
          simp only [D.wt, D.wts] at hw
          have q0 : eqO true (.int 3) (.int 3) = some (.bl false) := by rw [eq_int 3 3 true]; rfl
          have i0 : ixO (.tup [w, a, b]) (.int 0) = some w := rfl
          have i1 : ixO (.tup [w, a, b]) (.int 1) = some a := rfl
          have i2 : ixO (.tup [w, a, b]) (.int 2) = some b := rfl
          have sw := isi_str (lf_fd h.1)
          have ta := isi_tup (lf_fd h.2.1)
          have tb := isi_tup (lf_fd h.2.2.1)
          have ra := lis_term_ev n a F h.2.1 (by omega) (by omega) (by omega)
          have rb := lis_term_ev n b F h.2.2.1 (by omega) (by omega) (by omega)
          have qc := eq_any h.1 (by omega) call_ok false
          have qf := eq_any h.1 (by omega) fun_ok true
          simp only [Bool.false_eq_true, if_false] at qc
          simp only [if_true] at qf
          cases cs : isS w with
          | false =>
            rw [cs] at sw
            have e1 := isW_no (x := "call") cs
            have e2 := isW_no (x := "fun") cs
            have e : tmP (.tup [w, a, b]) = false := by simp [tmP, tm3, e1, e2]
            generalize f_l_is_term n = r at *
            simp [bindM, bindS, retM, optM, m1, m2, m3, mA, mCons, mVar, mPk, mIf, seqS, ifS, asgV, callM, Sto.at, Sto.put, sto0, fnM, asB, asInt, ti, truD, ht, isTp, lenO, q0, i0, sw, e]
          | true =>
          rw [cs] at sw
          cases cc : isW "call" w with
          | true =>
            rw [cc] at qc
            have cf := isW_fc cc
            cases b with
            | tup ts =>
              simp only [D.lf] at h
              simp only [D.dp] at hd hn
              simp only [D.wt] at hw
              have en := eq_nilT (T := 390) (ds := ts) (by simp only [D.lf]; exact h.2.2.1) (by simp only [D.dp]; omega) false
              simp only [Bool.false_eq_true, if_false] at en
              have l2 : ts.length ≤ sizeLine := Nat.le_trans (len_wts ts) (Nat.le_trans (show _ ≤ 3900 by omega) (by decide))
              have nn := none_ev (TT := bindM (bindM (callM 1 (f_l_is_term n) (mCons (mVar 1) (retM []))) fun d => optM (truD d)) fun v => retM (!v)) (P := tmP) (it := .tup [w, a, .tup ts]) (rest := [.un]) (F := F) (m := bindM (m2 ixO (mPk 0) (retM (.int 2))) asT) (S0 := ⟨[.val (.tup [w, a, .tup ts]), .un, .un], F⟩) (ds := ts) (T := 390) false rfl (fun d hx => by
                have dd := dps_le.mp (Nat.le_refl (D.dps ts)) d hx
                have ww := wt_mem hx
                have e := lis_term_ev n d F (lfs_iff.mp h.2.2.1 d hx) (by omega) (by omega) (by omega)
                generalize f_l_is_term n = fp at *
                simp [bindM, bindS, retM, optM, m1, m2, m3, mA, mCons, mVar, mPk, mIf, seqS, ifS, asgV, callM, Sto.at, Sto.put, sto0, fnM, asB, asInt, e, truD]) h.2.2.1 (by omega) l2
              generalize (m2 (eqO false) (lcM [1] (tgN 1) (bindM (bindM (callM 1 (f_l_is_term n) (mCons (mVar 1) (retM []))) fun d => optM (truD d)) fun v => retM (!v)) (mVar 1) (bindM (m2 ixO (mPk 0) (retM (.int 2))) asT)) (bindM (retM []) fun ds => optM (lstO ds))) = test at *
              have mp : tmP (.tup [w, a, .tup ts]) = (tmP a && (!ts.isEmpty && ts.all tmP)) := by simp [tmP, tm3, tmT, tms_all, cc, cf]
              have tn : tupO [] = some (.tup []) := rfl
              rw [mp]
              generalize f_l_is_term n = r at *
              cases em : ts.isEmpty with
              | true =>
                rw [em] at en
                simp [bindM, bindS, retM, optM, m1, m2, m3, mA, mCons, mVar, mPk, mIf, seqS, ifS, asgV, callM, Sto.at, Sto.put, sto0, fnM, asB, asInt, ti, truD, ht, isTp, lenO, q0, i0, i1, i2, sw, qc, tb, tn, en]
              | false =>
                rw [em] at en
                cases ca : tmP a with
                | false =>
                  rw [ca] at ra
                  simp [bindM, bindS, retM, optM, m1, m2, m3, mA, mCons, mVar, mPk, mIf, seqS, ifS, asgV, callM, Sto.at, Sto.put, sto0, fnM, asB, asInt, ti, truD, ht, isTp, lenO, q0, i0, i1, i2, sw, qc, tb, tn, en, ra]
                | true =>
                  rw [ca] at ra
                  simp [bindM, bindS, retM, optM, m1, m2, m3, mA, mCons, mVar, mPk, mIf, seqS, ifS, asgV, callM, Sto.at, Sto.put, sto0, fnM, asB, asInt, ti, truD, ht, isTp, lenO, q0, i0, i1, i2, sw, qc, tb, tn, en, ra, nn]
            | fd => exact absurd rfl (lf_fd h.2.2.1)
            | _ =>
              generalize f_l_is_term n = r at *
              simp [bindM, bindS, retM, optM, m1, m2, m3, mA, mCons, mVar, mPk, mIf, seqS, ifS, asgV, callM, Sto.at, Sto.put, sto0, fnM, asB, asInt, ti, truD, ht, isTp, lenO, q0, i0, i1, i2, sw, qc, tb, tmP, tm3, tmT, cf]
          | false =>
            rw [cc] at qc
            have mp : tmP (.tup [w, a, b]) = (isW "fun" w && (esP a && tmP b)) := by simp [tmP, tm3, cc]
            rw [mp]
            cases cf : isW "fun" w with
            | false =>
              rw [cf] at qf
              generalize f_l_is_term n = r at *
              simp [bindM, bindS, retM, optM, m1, m2, m3, mA, mCons, mVar, mPk, mIf, seqS, ifS, asgV, callM, Sto.at, Sto.put, sto0, fnM, asB, asInt, ti, truD, ht, isTp, lenO, q0, i0, i1, i2, sw, qc, qf]
            | true =>
              rw [cf] at qf
              cases a with
              | tup es =>
                simp only [D.lf] at h
                simp only [D.dp] at hd hn
                simp only [D.wt] at hw
                have en := eq_nilT (T := 390) (ds := es) (by simp only [D.lf]; exact h.2.1) (by simp only [D.dp]; omega) false
                simp only [Bool.false_eq_true, if_false] at en
                have l1 : es.length < 4000 := Nat.lt_of_le_of_lt (len_wts es) (by omega)
                have l2 : es.length ≤ sizeLine := Nat.le_trans (Nat.le_of_lt l1) (by decide)
                have nn := none_ev (TT := bindM (bindM (callM 1 f_l_is_entry (mCons (mVar 1) (retM []))) fun d => optM (truD d)) fun v => retM (!v)) (P := isE) (it := .tup [w, .tup es, b]) (rest := [.un]) (F := F) (m := bindM (m2 ixO (mPk 0) (retM (.int 1))) asT) (S0 := ⟨[.val (.tup [w, .tup es, b]), .un, .un], F⟩) (ds := es) (T := 390) true rfl (fun d hx => by
                  have e := lis_entry_ev (lfs_iff.mp h.2.1 d hx) F
                  simp [bindM, bindS, retM, optM, m1, m2, m3, mA, mCons, mVar, mPk, mIf, seqS, ifS, asgV, callM, Sto.at, Sto.put, sto0, fnM, asB, asInt, e, truD]) h.2.1 (by omega) l2
                generalize (m2 (eqO true) (lcM [1] (tgN 1) (bindM (bindM (callM 1 f_l_is_entry (mCons (mVar 1) (retM []))) fun d => optM (truD d)) fun v => retM (!v)) (mVar 1) (bindM (m2 ixO (mPk 0) (retM (.int 1))) asT)) (bindM (retM []) fun ds => optM (lstO ds))) = test at *
                have tn : tupO [] = some (.tup []) := rfl
                generalize f_l_is_term n = r at *
                cases em : es.isEmpty with
                | true =>
                  rw [em] at en
                  simp [bindM, bindS, retM, optM, m1, m2, m3, mA, mCons, mVar, mPk, mIf, seqS, ifS, asgV, callM, Sto.at, Sto.put, sto0, fnM, asB, asInt, ti, truD, ht, isTp, lenO, q0, i0, i1, i2, sw, qc, qf, ta, tn, en, esP, em]
                | false =>
                  rw [em] at en
                  cases ca : es.all isE with
                  | false =>
                    rw [ca] at nn
                    simp [bindM, bindS, retM, optM, m1, m2, m3, mA, mCons, mVar, mPk, mIf, seqS, ifS, asgV, callM, Sto.at, Sto.put, sto0, fnM, asB, asInt, ti, truD, ht, isTp, lenO, q0, i0, i1, i2, sw, qc, qf, ta, tn, en, nn, esP, ca]
                  | true =>
                    rw [ca] at nn
                    have g := lc_nm (vs := []) (F := F) ⟨[.val (.tup [w, .tup es, b]), .un, .un], F⟩ (fun _ => rfl) (fun _ => rfl) es (List.all_eq_true.mp ca) l2
                    have wi : (⟨[.val (.tup [w, .tup es, b]), .un, .un], F⟩ : Sto).wipe [1] = ⟨[.val (.tup [w, .tup es, b]), .un, .un], F⟩ := rfl
                    have lu := lenU_strs (xs := es.map nmO) (by rw [List.length_map]; exact l1)
                    have de := dis_eq (es.map nmO)
                    have ln : lenO [.lst ((es.map nmO).map D.str)] = some (.int (es.length : Nat)) := by
                      show some (D.int _) = _
                      rw [List.length_map, List.length_map]
                    have g2 : (es.map fun d => D.str (nmO d)) = (es.map nmO).map D.str := by rw [List.map_map]; rfl
                    rw [g2] at g
                    rw [List.length_map] at de
                    obtain ⟨N, hN⟩ : ∃ N : Int, N = (es.length : Nat) := ⟨_, rfl⟩
                    obtain ⟨U, hU⟩ : ∃ U : Int, U = ((dedS (es.map nmO)).length : Nat) := ⟨_, rfl⟩
                    rw [← hN] at ln de
                    rw [← hU] at lu de
                    generalize (es.map nmO).map D.str = zs at *
                    have l3 : lenO [.tup [w, .tup es, b]] = some (.int 3) := rfl
                    have ep : esP (.tup es) = dis (es.map nmO) := by simp [esP, ca, em]
                    rw [ep]
                    generalize m2 ixO (mPk 1) (retM (.int 0)) = te at *
                    cases cd : dis (es.map nmO) with
                    | false =>
                      rw [cd] at de
                      simp [bindM, bindS, retM, optM, m1, m2, m3, mA, mCons, mVar, mPk, mIf, seqS, ifS, asgV, callM, Sto.at, Sto.put, sto0, fnM, asB, asInt, ti, truD, ht, isTp, l3, ln, q0, i0, i1, i2, sw, qc, qf, ta, tn, en, nn, asgL, lcM, asT, wi, g, lu, de]
                    | true =>
                      rw [cd] at de
                      simp [bindM, bindS, retM, optM, m1, m2, m3, mA, mCons, mVar, mPk, mIf, seqS, ifS, asgV, callM, Sto.at, Sto.put, sto0, fnM, asB, asInt, ti, truD, ht, isTp, l3, ln, q0, i0, i1, i2, sw, qc, qf, ta, tn, en, nn, asgL, lcM, asT, wi, g, lu, de, rb]
              | fd => exact absurd rfl (lf_fd h.2.1)
              | _ =>
                generalize f_l_is_term n = r at *
                simp [bindM, bindS, retM, optM, m1, m2, m3, mA, mCons, mVar, mPk, mIf, seqS, ifS, asgV, callM, Sto.at, Sto.put, sto0, fnM, asB, asInt, ti, truD, ht, isTp, lenO, q0, i0, i1, i2, sw, qc, qf, ta, esP]
      · have e : tmP (.tup ds) = false := by rw [tmP]; exact tm3_len l
        rw [decide_eq_false l] at q
        generalize f_l_is_term n = r at *
        simp [bindM, bindS, retM, optM, m1, m2, m3, mA, mCons, mVar, mPk, mIf, seqS, ifS, asgV, callM, Sto.at, Sto.put, sto0, fnM, asB, asInt, ti, truD, ht, isTp, lenO, q, e]
    | str z =>
      have e : tmP (.str z) = false := by rw [tmP]; exact ct
      generalize f_l_is_term n = r at *
      simp [bindM, bindS, retM, optM, m1, m2, m3, mA, mCons, mVar, mPk, mIf, seqS, ifS, asgV, callM, Sto.at, Sto.put, sto0, fnM, asB, asInt, ti, truD, ht, isTp, e]
    | fd => exact absurd rfl (lf_fd h)
    | _ =>
      generalize f_l_is_term n = r at *
      simp [bindM, bindS, retM, optM, m1, m2, m3, mA, mCons, mVar, mPk, mIf, seqS, ifS, asgV, callM, Sto.at, Sto.put, sto0, fnM, asB, asInt, ti, truD, ht, isTp, tmP]
end K01

set_option linter.all false
set_option maxRecDepth 100000
set_option maxHeartbeats 8000000
namespace K01
open PySem L2 Og Gr
/-- values that the law asks about: bounds -/
structure Ok (d : D) : Prop where
  lf : d.lf 390
  wt : d.wt ≤ 3900
  dp : d.dp ≤ 23
noncomputable def kd9 (d : D) : List D := [.bl (isI d), .bl (numP d), .bl (ttl d), .bl (knd d), .bl (isE d), .bl (bookP d), .bl (mkP d), .bl (tmP d), .bl (stP d)]
theorem Ok.len {d : D} (h : Ok d) : ∀ ds, d = .tup ds → ds.length < 4000 := fun ds e => by
  have w := h.wt
  rw [e] at w
  simp only [D.wt] at w
  have := len_wts ds
  omega
theorem Ok.len2 {d : D} (h : Ok d) : ∀ a b ds, d = .tup [a, b] → a = .tup ds → ds.length < 4000 := fun a b ds e e2 => by
  have w := h.wt
  rw [e, e2] at w
  simp only [D.wt, D.wts] at w
  have := len_wts ds
  omega
theorem line4 {n : Nat} (h : n < 4000) : n ≤ sizeLine := Nat.le_trans (Nat.le_of_lt h) (by decide)
theorem small9 {n : Nat} (h : n ≤ 9) : (n ≤ sizeLine) = True := eq_true (Nat.le_trans h (by decide))
theorem told_ev {d : D} (h : Ok d) (F : Fd) : f_l_told [d] F = .ok (.lst (kd9 d)) F := by
  have hf := lf_fd h.lf
  have hd := h.dp
  have e1 := is_integer_ev hf F
  have e2 := is_number_ev hf F
  have e3 := is_name_ev h.lf (by decide) F
  have e4 := is_kind_ev h.lf (by decide) F
  have e5 := is_entry_ev h.lf (by decide) F
  have e6 := is_book_ev h.lf (by decide) (fun ds e => line4 (h.len ds e)) F
  have e7 := is_maker_ev h.lf (by decide) (Nat.le_trans h.wt (by decide)) F
  have e8 := is_term_ev h.lf (by decide) (by omega) h.wt F
  have e9 := is_stand_ev h.lf (by decide) (fun a b ds e f => line4 (h.len2 a b ds e f)) F
  unfold f_l_told m_l_told
  simp [bindM, bindS, retM, optM, m1, m2, m3, mA, mCons, mVar, mPk, mIf, seqS, ifS, asgV, callM, Sto.at, Sto.put, sto0, fnM, asB, asInt, asgL, addL, lstO, small9, e1, e2, e3, e4, e5, e6, e7, e8, e9, kd9]
theorem due_ev {d : D} (h : Ok d) (F : Fd) : f_l_due [d] F = .ok (.lst (kd9 d)) F := by
  have hf := lf_fd h.lf
  have hd := h.dp
  have t1 := isi_int hf
  have t2 := isi_bool hf
  have e2 := lis_number_ev hf F
  have e3 := is_title_ev h.lf (by decide) F
  obtain ⟨r, e4, hr⟩ := parsed_d h.lf F
  have e5 := lis_entry_ev h.lf F
  have e6 := lis_book_ev h.lf (by omega) h.len F
  have e7 := lis_maker_ev 14 d F h.lf (by omega) (by omega) (Nat.le_trans h.wt (by decide))
  have e8 := lis_term_ev 24 d F h.lf (by omega) (by omega) h.wt
  have e9 := lis_stand_ev h.lf (by omega) h.len2 F
  have nn : isNO true r .non = some (.bl (knd d)) := by
    show some (D.bl _) = _
    rw [hr]
    simp
  have w : ((isI d || isB d) && !isB d) = isI d := by cases d <;> rfl
  unfold f_l_due m_l_due
  generalize f_l_parsed 200 = fp at *
  generalize f_l_is_maker 14 = fm at *
  generalize f_l_is_term 24 = ft at *
  cases c : (isI d || isB d) with
  | false =>
    rw [c] at t1 w
    have w : isI d = false := by rw [← w]; rfl
    simp [bindM, bindS, retM, optM, m1, m2, m3, mA, mCons, mVar, mPk, mIf, seqS, ifS, asgV, callM, Sto.at, Sto.put, sto0, fnM, asB, asInt, asgL, addL, lstO, small9, t1, t2, e2, e3, e4, e5, e6, e7, e8, e9, nn, kd9, w]
  | true =>
    rw [c] at t1 w
    rw [Bool.true_and] at w
    simp [bindM, bindS, retM, optM, m1, m2, m3, mA, mCons, mVar, mPk, mIf, seqS, ifS, asgV, callM, Sto.at, Sto.put, sto0, fnM, asB, asInt, asgL, addL, lstO, small9, t1, t2, e2, e3, e4, e5, e6, e7, e8, e9, nn, kd9, ← w, notO, truD]
end K01

set_option linter.all false
set_option maxRecDepth 100000
set_option maxHeartbeats 8000000
namespace K01
open PySem L2 Og Gr
/-! ### what the generators give -/
mutual
def lfb (T : Nat) : D → Bool
  | .str z => decide (z.length ≤ T) && z.cps.toList.all fun c => decide (c < 128)
  | .int i => decide (i.natAbs < 10 ^ 60)
  | .tup ds => lfsb T ds
  | .lst ds => lfsb T ds
  | .fd => false
  | .non => true
  | .bl _ => true
def lfsb (T : Nat) : List D → Bool
  | [] => true
  | d :: ds => lfb T d && lfsb T ds
end
mutual
theorem lfb_lf {T : Nat} : ∀ d : D, lfb T d = true → d.lf T
  | .str z, h => by
    simp only [lfb, Bool.and_eq_true, decide_eq_true_eq] at h
    simp only [D.lf]
    exact ⟨h.1, a7_lit' h.2⟩
  | .int i, h => by
    simp only [lfb, decide_eq_true_eq] at h
    simpa only [D.lf] using h
  | .tup ds, h => by
    simp only [lfb] at h
    simp only [D.lf]
    exact lfsb_lf ds h
  | .lst ds, h => by
    simp only [lfb] at h
    simp only [D.lf]
    exact lfsb_lf ds h
  | .fd, h => by simp [lfb] at h
  | .non, _ => by simp [D.lf]
  | .bl _, _ => by simp [D.lf]
theorem lfsb_lf {T : Nat} : ∀ ds : List D, lfsb T ds = true → D.lfs T ds
  | [], _ => by simp [D.lfs]
  | d :: ds, h => by
    simp only [lfsb, Bool.and_eq_true] at h
    simp only [D.lfs]
    exact ⟨lfb_lf d h.1, lfsb_lf ds h.2⟩
theorem a7_lit' {z : Str} (h : (z.cps.toList.all fun c => decide (c < 128)) = true) : A7 z := fun c hc => by
  simpa using List.all_eq_true.mp h c hc
end
/-- bounds: texts, weight, depth -/
structure Bd (T n k : Nat) (d : D) : Prop where
  lf : d.lf T
  wt : d.wt ≤ n
  dp : d.dp ≤ k
def bdb (T n k : Nat) (d : D) : Bool := lfb T d && decide (d.wt ≤ n) && decide (d.dp ≤ k)
theorem bdb_bd {T n k : Nat} {d : D} (h : bdb T n k d = true) : Bd T n k d := by
  unfold bdb at h
  simp only [Bool.and_eq_true, decide_eq_true_eq] at h
  exact ⟨lfb_lf d h.1.1, h.1.2, h.2⟩
theorem Bd.mono {T n k T' n' k' : Nat} {d : D} (h : Bd T n k d) (h1 : T ≤ T') (h2 : n ≤ n') (h3 : k ≤ k') : Bd T' n' k' d := ⟨lf_mono h1 h.lf, Nat.le_trans h.wt h2, Nat.le_trans h.dp h3⟩
theorem le_line {n : Nat} (h : n ≤ 1000) : (n ≤ sizeLine) = True := eq_true (Nat.le_trans h (by decide))
theorem lt_line {n : Nat} (h : n ≤ 1000) : (n < sizeLine) = True := eq_true (Nat.lt_of_le_of_lt h (by decide))
theorem pow59 : powI (.int 10) (.int 59) = some (.int 100000000000000000000000000000000000000000000000000000000000) := by
  have : (10 : Int) ^ 59 = 100000000000000000000000000000000000000000000000000000000000 := by decide
  simp [powI, iiO, this]
theorem gv_mono {P Q : D → Prop} {o : OutF} (h : Gv P o) (f : ∀ d, P d → Q d) : Gv Q o := by
  obtain ⟨d, F', e, p, n⟩ := h
  exact ⟨d, F', e, f d p, n⟩
def pkD (F : Fd) (ds : List D) : D := ds.getD (drawM F ds.length).1.toNat .non
def pkF (F : Fd) (n : Nat) : Fd := (drawM F n).2
theorem pkD_mem {F : Fd} {ds : List D} (h0 : ds ≠ []) (hn : 0 ≤ F.next) : pkD F ds ∈ ds := by
  have lp := List.length_pos_iff.mpr h0
  have d := draw_in F ds.length (by omega) hn
  unfold pkD
  have l : (drawM F ds.length).1.toNat < ds.length := by omega
  rw [List.getD_eq_getElem?_getD, List.getElem?_eq_getElem l]
  exact List.getElem_mem l
theorem pkF_next {F : Fd} {n : Nat} (h : 0 < n) (hn : 0 ≤ F.next) : 0 ≤ (pkF F n).next := (draw_in F n (by omega) hn).2.2
theorem pick_any {F : Fd} {s : D} {ds : List D} (hlen : lenO [s] = some (.int ds.length)) (hix : ∀ i : Int, ixO s (.int i) = L2.atI ds i) (h0 : ds ≠ []) (hl : ds.length < 1073741824) (hn : 0 ≤ F.next) : f_l_pick [.fd, s] F = .ok (pkD F ds) (pkF F ds.length) := by
  have lp := List.length_pos_iff.mpr h0
  have d := draw_in F ds.length (by omega) hn
  have e := draw_ev F ds.length (by omega) (by omega) hn
  have l : (drawM F ds.length).1.toNat < ds.length := by omega
  have ix : ixO s (.int (drawM F ds.length).1) = some (pkD F ds) := by
    rw [hix]
    refine atI_in (by omega) ?_
    unfold pkD
    rw [List.getD_eq_getElem?_getD, List.getElem?_eq_getElem l]
    rfl
  unfold f_l_pick m_l_pick pkF
  generalize drawM F ds.length = r at *
  simp [bindM, bindS, retM, optM, m1, m2, m3, mA, mCons, mVar, mPk, mIf, seqS, ifS, asgV, callM, Sto.at, Sto.put, sto0, fnM, asB, asInt, hlen, e, ix]
theorem pick_lst {F : Fd} {ds : List D} (h0 : ds ≠ []) (hl : ds.length < 1073741824) (hn : 0 ≤ F.next) : f_l_pick [.fd, .lst ds] F = .ok (pkD F ds) (pkF F ds.length) := pick_any rfl (fun _ => rfl) h0 hl hn
theorem pick_tup {F : Fd} {ds : List D} (h0 : ds ≠ []) (hl : ds.length < 1073741824) (hn : 0 ≤ F.next) : f_l_pick [.fd, .tup ds] F = .ok (pkD F ds) (pkF F ds.length) := pick_any rfl (fun _ => rfl) h0 hl hn
theorem all_in {F : Fd} {ds : List D} {T n k : Nat} (h0 : ds ≠ []) (hn : 0 ≤ F.next) (h : ds.all (bdb T n k) = true) : Bd T n k (pkD F ds) := bdb_bd (List.all_eq_true.mp h _ (pkD_mem h0 hn))
theorem strange_gv (F : Fd) (hn : 0 ≤ F.next) : Gv (Bd 20 100 4) (f_l_strange [.fd] F) := by
  unfold f_l_strange m_l_strange
  have n1 : negO (.int 1) = some (.int (-1)) := rfl
  simp [bindM, bindS, retM, optM, m1, m2, m3, mA, mCons, mVar, mPk, mIf, seqS, ifS, asgV, callM, Sto.at, Sto.put, sto0, fnM, asB, asInt, asgL, extS, appS, lstO, tupO, le_line, lt_line, pow59, n1, pick_lst, hn]
  refine ⟨_, _, rfl, all_in (by simp) hn ?_, pkF_next (by decide) hn⟩
  decide +kernel
end K01
namespace K01
open PySem L2 Og Gr
/-- a comprehension with draws -/
theorem lcGo_J {vs : List Nat} {f : D → Sto → Option Sto} {te : M D} (J : Sto → Prop) (Q : D → Prop) : ∀ (ds acc : List D) (s : Sto), (∀ d ∈ ds, ∀ s, J s → ∃ s1 y s3, f d s = some s1 ∧ te s1 = .ok y s3 ∧ Q y ∧ J (s3.wipe vs)) → (∀ a ∈ acc, Q a) → J s → acc.length + ds.length ≤ sizeLine → ∃ ys s', lcGo vs f (retM true) te ds acc s = .ok ys s' ∧ J s' ∧ (∀ y ∈ ys, Q y) ∧ ys.length = acc.length + ds.length
  | [], acc, s, _, hq, hj, _ => ⟨acc, s, rfl, hj, hq, rfl⟩
  | d :: ds, acc, s, h, hq, hj, l => by
    obtain ⟨s1, y, s3, h1, h2, h3, h4⟩ := h d List.mem_cons_self s hj
    rw [List.length_cons] at l
    have l1 : acc.length < sizeLine := by omega
    obtain ⟨ys, s', e, j, q, n⟩ := lcGo_J J Q ds (acc ++ [y]) (s3.wipe vs) (fun x hx => h x (List.mem_cons_of_mem _ hx)) (fun a ha => by
      rcases List.mem_append.mp ha with ha | ha
      · exact hq a ha
      · simp at ha
        subst ha
        exact h3) h4 (by simp; omega)
    refine ⟨ys, s', ?_, j, q, by simp at n; simp; omega⟩
    show (match f d s with | none => _ | some s1 => _) = _
    rw [h1]
    show (match te s1 with | .ok y s3 => _ | _ => _) = _
    rw [h2]
    dsimp only
    rw [if_pos l1, e]
theorem drw {F : Fd} {n : Nat} (h1 : 0 < n) (h2 : n < 1073741824) (hn : 0 ≤ F.next) : ∃ (r : Nat) (F' : Fd), f_l_draw [.fd, .int (n : Int)] F = .ok (.int (r : Int)) F' ∧ r < n ∧ 0 ≤ F'.next := by
  obtain ⟨d, F', e, ⟨r, rfl, r0, r1⟩, q⟩ := draw_gv F n (by omega) (by omega) hn
  refine ⟨r.toNat, F', ?_, by omega, q⟩
  rw [e, Int.toNat_of_nonneg r0]
theorem drwI (many : Int) {F : Fd} (h1 : 0 < many) (h2 : many < 1073741824) (hn : 0 ≤ F.next) : ∃ (r : Int) (F' : Fd), f_l_draw [.fd, .int many] F = .ok (.int r) F' ∧ 0 ≤ r ∧ r < many ∧ 0 ≤ F'.next := by
  obtain ⟨d, F', e, ⟨r, rfl, r0, r1⟩, q⟩ := draw_gv F many (by omega) (by omega) hn
  exact ⟨r, F', e, r0, r1, q⟩
theorem pickS {F : Fd} {z : Str} (h0 : 0 < z.length) (hl : z.length ≤ 1000) (hn : 0 ≤ F.next) : ∃ c F', f_l_pick [.fd, .str z] F = .ok (.str ⟨#[c]⟩) F' ∧ c ∈ sg z ∧ 0 ≤ F'.next := by
  have hz2 : z.length ≤ sizeLine := Nat.le_trans hl (by decide)
  have lz := len_sg z
  obtain ⟨r, F', e, hr, q⟩ := drw (n := z.length) h0 (by omega) hn
  have ix := ix_str hz2 (show r < (sg z).length by omega)
  refine ⟨_, F', ?_, List.getElem_mem (by omega : r < (sg z).length), q⟩
  generalize (sg z)[r]'(by omega) = c at *
  unfold f_l_pick m_l_pick
  simp [bindM, bindS, retM, optM, m1, m2, m3, mA, mCons, mVar, mPk, mIf, seqS, ifS, asgV, callM, Sto.at, Sto.put, sto0, fnM, asB, asInt, lenO, hz2, e, ix]
def Tx (T : Nat) (d : D) : Prop := ∃ z, d = .str z ∧ z.length ≤ T ∧ A7 z
theorem join_len (ys : List Str) (T : Nat) (s : Str) (hs : s.length ≤ 4) (h : ∀ y ∈ ys, y.length ≤ T) : (ys.map (·.length)).sum + ys.length * s.length ≤ ys.length * (T + 4) := by
  have h1 : (ys.map (·.length)).sum ≤ ys.length * T := by
    induction ys with
    | nil => simp
    | cons y ys ih =>
      have := ih fun x hx => h x (List.mem_cons_of_mem _ hx)
      have hy := h y List.mem_cons_self
      simp only [List.map_cons, List.sum_cons, List.length_cons, Nat.add_mul]
      omega
  have h2 : ys.length * s.length ≤ ys.length * 4 := Nat.mul_le_mul_left _ hs
  rw [Nat.mul_add]
  omega
theorem strs_of : ∀ {ds : List D} {T : Nat}, (∀ d ∈ ds, Tx T d) → ∃ ys : List Str, strsOf ds = some ys ∧ ys.length = ds.length ∧ ∀ y ∈ ys, y.length ≤ T ∧ A7 y
  | [], _, _ => ⟨[], rfl, rfl, fun _ h => nomatch h⟩
  | d :: ds, T, h => by
    obtain ⟨ys, e, l, q⟩ := strs_of fun x hx => h x (List.mem_cons_of_mem _ hx)
    obtain ⟨z, rfl, z1, z2⟩ := h d List.mem_cons_self
    refine ⟨z :: ys, ?_, by simp [l], fun y hy => ?_⟩
    · show (strsOf ds).map _ = _
      rw [e]
      rfl
    · rcases List.mem_cons.mp hy with rfl | hy
      · exact ⟨z1, z2⟩
      · exact q y hy
theorem join7' {s : Str} (hs : A7 s) {ts : List Str} (h : ∀ t ∈ ts, A7 t) : A7 (Txt.join s ts) := by
  have e : Txt.join s ts = Str.join s ts := TL.join_eq s ts
  rw [e]
  exact join7 hs h
theorem join_le (s : Str) (ts : List Str) (T : Nat) (hs : s.length ≤ 4) (h : ∀ y ∈ ts, y.length ≤ T) : (Txt.join s ts).length ≤ ts.length * (T + 4) := by
  have e : Txt.join s ts = Str.join s ts := TL.join_eq s ts
  rw [e]
  have := join_len ts T s hs h
  have l := StrLaws.join_length_le s ts
  omega
theorem title_gv (F : Fd) (hn : 0 ≤ F.next) : Gv (Tx 40) (f_l_title [.fd] F) := by
  obtain ⟨r, F1, e1, hr0, hr, n1⟩ := drwI 2 (by decide) (by decide) hn
  have q := eq_int r 0 false
  simp only [Bool.false_eq_true, if_false] at q
  unfold f_l_title m_l_title
  by_cases r0 : r = 0
  · rw [decide_eq_true r0] at q
    simp [bindM, bindS, retM, optM, m1, m2, m3, mA, mCons, mVar, mPk, mIf, seqS, ifS, asgV, callM, Sto.at, Sto.put, sto0, fnM, asB, asInt, e1, q, lstO, le_line, pick_lst, n1]
    refine ⟨_, _, rfl, ?_, pkF_next (by decide) n1⟩
    have hm := pkD_mem (F := F1) (ds := [D.str "a", D.str "b", D.str "f", D.str "g", D.str "fa", D.str "faa", D.str "z", D.str "zzzzzzzz", D.str "abcdefgh", D.str "p", D.str "call", D.str "fun"]) (by simp) n1
    have hb := all_in (F := F1) (ds := [D.str "a", D.str "b", D.str "f", D.str "g", D.str "fa", D.str "faa", D.str "z", D.str "zzzzzzzz", D.str "abcdefgh", D.str "p", D.str "call", D.str "fun"]) (T := 40) (n := 8) (k := 0) (by simp) n1 (by decide +kernel)
    generalize pkD F1 _ = d at *
    simp at hm
    rcases hm with h | h | h | h | h | h | h | h | h | h | h | h <;> (subst h; have := hb.lf; simp only [D.lf] at this; exact ⟨_, rfl, this⟩)
  · rw [decide_eq_false r0] at q
    obtain ⟨r2, F2, e2, hr20, hr2, n2⟩ := drwI 4 (by decide) (by decide) n1
    obtain ⟨m, hm1, hm2, hix⟩ : ∃ m : Nat, 0 < m ∧ m ≤ 8 ∧ ixO (.lst [.int 1, .int 2, .int 3, .int 8]) (.int r2) = some (.int (m : Int)) := by
      have : r2 = 0 ∨ r2 = 1 ∨ r2 = 2 ∨ r2 = 3 := by omega
      rcases this with rfl | rfl | rfl | rfl
      · exact ⟨1, by decide, by decide, rfl⟩
      · exact ⟨2, by decide, by decide, rfl⟩
      · exact ⟨3, by decide, by decide, rfl⟩
      · exact ⟨8, by decide, by decide, rfl⟩
    obtain ⟨r3, F3, e3, hr3, n3⟩ := drw (F := F2) (n := m) hm1 (by omega) n2
    have a1 : addO (.int 1) (.int (r3 : Int)) = some (.int ((1 + r3 : Nat) : Int)) := by
      rw [add_int]
      congr 2
    have rr := asR_nat (1 + r3) (by omega)
    generalize ((1 + r3 : Nat) : Int) = R at a1 rr
    have lr : (rngD (1 + r3)).length = 1 + r3 := by simp [rngD]
    obtain ⟨ys, s', g1, ⟨F4, gs, n4⟩, g3, g4⟩ := lcGo_J (vs := [1]) (f := tgN 1) (te := callM 2 f_l_pick (mCons (mVar 0) (mCons (retM (.str "abfgz")) (retM [])))) (fun s => ∃ F, s = ⟨[.val .fd, .un], F⟩ ∧ 0 ≤ F.next) (Tx 1) (rngD (1 + r3)) [] ⟨[.val .fd, .un], F3⟩ (by
      rintro d hd s ⟨F, rfl, hn⟩
      obtain ⟨c, F', e, hc, n'⟩ := pickS (F := F) (z := "abfgz") (by decide +kernel) (by decide +kernel) hn
      refine ⟨⟨[.val .fd, .val d], F⟩, .str ⟨#[c]⟩, ⟨[.val .fd, .val d], F'⟩, rfl, ?_, ⟨_, rfl, by simp [Str.length], ?_⟩, ⟨F', rfl, n'⟩⟩
      · simp [bindM, bindS, retM, optM, m1, m2, m3, mA, mCons, mVar, mPk, mIf, seqS, ifS, asgV, callM, Sto.at, Sto.put, sto0, fnM, asB, asInt, e]
      · intro x hx
        simp at hx
        subst hx
        exact a7_lit (s := "abfgz") (by decide +kernel) _ hc) (fun _ h => nomatch h) ⟨F3, rfl, n3⟩ (by rw [lr]; exact Nat.le_trans (by simp; omega : _ ≤ 100) (by decide))
    subst gs
    rw [lr] at g4
    obtain ⟨zs, h1, h2, h3⟩ := strs_of g3
    have jl := join_len zs 1 "" (by decide +kernel) fun y hy => (h3 y hy).1
    have jr := join_le "" zs 1 (by decide +kernel) fun y hy => (h3 y hy).1
    have j7 := join7' (s := "") (a7_lit (by decide +kernel)) fun y hy => (h3 y hy).2
    have jj : joinO (.str "") [.lst ys] = some (.str (Txt.join "" zs)) := by
      show (strsOf ys).bind _ = _
      rw [h1]
      show (if _ then _ else _) = _
      rw [if_pos]
      simp at g4
      omega
    have e3' := e3
    generalize ((m : Nat) : Int) = M at hix e3'
    simp only [mCons, callM] at g1
    simp [bindM, bindS, retM, optM, m1, m2, m3, mA, mCons, mVar, mPk, mIf, seqS, ifS, asgV, callM, Sto.at, Sto.put, sto0, fnM, asB, asInt, e1, q, lstO, le_line, e2, hix, e3', a1, rr, lcM, Sto.wipe, g1, mMt, jj]
    refine ⟨_, _, rfl, ⟨_, rfl, ?_, j7⟩, n4⟩
    simp at g4
    omega
end K01

set_option linter.all false
set_option maxRecDepth 100000
set_option maxHeartbeats 4000000
namespace K01
open PySem L2 Og Gr
theorem wpF_eq {o : OutF} {Q : D → Fd → Prop} {Y : Xc → Fd → Prop} (h : wpF o Q Y) : (∃ d F', o = .ok d F' ∧ Q d F') ∨ ∃ x F', o = .exc x F' ∧ Y x F' := by
  unfold wpF at h
  cases o with
  | ok d F' => exact .inl ⟨d, F', rfl, h⟩
  | exc x F' => exact .inr ⟨x, F', rfl, h⟩
  | bad => exact h.elim
mutual
inductive Tr : Nat → D → Prop
  | mk {n : Nat} {ps : List D} {e : Str} (h : Trs n ps) (h1 : e.length ≤ 8) (h2 : A7 e) : Tr (n + 1) (.tup [.tup ps, .str e])
inductive Trs : Nat → List D → Prop
  | nil : Trs 0 []
  | cons {a b : Nat} {p : D} {ps : List D} (h : Tr a p) (t : Trs b ps) : Trs (a + b) (p :: ps)
end
theorem Tr.pos {n : Nat} {d : D} (h : Tr n d) : 1 ≤ n := by
  cases h
  omega
theorem Trs.len : ∀ {ps : List D} {n : Nat}, Trs n ps → ps.length ≤ n
  | [], _, _ => Nat.zero_le _
  | p :: ps, _, .cons h t => by
    have := Tr.pos h
    have := Trs.len t
    simp
    omega
theorem Trs.snoc {b : Nat} {p : D} (h : Tr b p) : ∀ {ps : List D} {a : Nat}, Trs a ps → Trs (a + b) (ps ++ [p])
  | [], _, .nil => by
    have := Trs.cons h .nil
    simpa using this
  | q :: qs, _, .cons (a := x) (b := y) hq t => by
    have := Trs.cons hq (Trs.snoc h t)
    rw [Nat.add_assoc]
    exact this
mutual
theorem Tr.bd : ∀ {d : D} {n : Nat}, Tr n d → d.lf 8 ∧ d.dp ≤ 2 * n
  | _, _, .mk h h1 h2 => by
    have := Trs.bd h
    refine ⟨?_, ?_⟩
    · simp only [D.lf, D.lfs]
      exact ⟨this.1, ⟨h1, h2⟩, trivial⟩
    · simp only [D.dp, D.dps]
      omega
theorem Trs.bd : ∀ {ps : List D} {n : Nat}, Trs n ps → D.lfs 8 ps ∧ D.dps ps ≤ 2 * n
  | _, _, .nil => ⟨by simp [D.lfs], by simp [D.dps]⟩
  | _, _, .cons h t => by
    have h1 := Tr.bd h
    have h2 := Trs.bd t
    refine ⟨?_, ?_⟩
    · simp only [D.lfs]
      exact ⟨h1.1, h2.1⟩
    · simp only [D.dps]
      omega
end
def TJ (k : Nat) (rest : List D) (s : Sto) : Prop := ∃ (parts : List D) (left a : Nat) (x4 x5 : SV) (F : Fd), s = ⟨[.val .fd, .val (.int (k : Nat)), .own parts, .val (.int (left : Nat)), x4, x5], F⟩ ∧ 0 ≤ F.next ∧ Trs a parts ∧ a + left + 1 ≤ k
theorem atoms_all : [D.str "p", D.str "q", D.str "p", D.str "q", D.str "r", D.str "s", D.str "pp", D.str "abcdefgh"].all (bdb 8 8 0) = true := by decide +kernel
theorem atom_tx {F : Fd} (hn : 0 ≤ F.next) : Tx 8 (pkD F [D.str "p", D.str "q", D.str "p", D.str "q", D.str "r", D.str "s", D.str "pp", D.str "abcdefgh"]) := by
  have hm := pkD_mem (F := F) (ds := [D.str "p", D.str "q", D.str "p", D.str "q", D.str "r", D.str "s", D.str "pp", D.str "abcdefgh"]) (by simp) hn
  have hb := (all_in (F := F) (T := 8) (n := 8) (k := 0) (ds := [D.str "p", D.str "q", D.str "p", D.str "q", D.str "r", D.str "s", D.str "pp", D.str "abcdefgh"]) (by simp) hn atoms_all).lf
  generalize pkD F [D.str "p", D.str "q", D.str "p", D.str "q", D.str "r", D.str "s", D.str "pp", D.str "abcdefgh"] = d at *
  simp at hm
  rcases hm with h | h | h | h | h | h | h | h <;> (subst h; simp only [D.lf] at hb; exact ⟨_, rfl, hb⟩)
theorem asR_var {i : Nat} {s : Sto} {n : Nat} (h : s.at i = .val (.int (n : Nat))) (hn : n ≤ 1000000) : (bindM (mPk i) asR) s = .ok (rngD n) s := by
  have e : mPk i s = .ok (.int (n : Nat)) s := by
    unfold mPk
    rw [h]
  unfold bindM
  rw [e]
  exact asR_nat n hn s
theorem gv_fn {n : Nat} {m : MS} {ds : List D} {F : Fd} {P : D → Prop} (h : ∀ s0, s0 = sto0 n ds F → wpS m s0 { rt := fun d s => P d ∧ 0 ≤ s.F.next }) : Gv P (fnM n m ds F) := by
  have g : wpF (fnM n m ds F) (fun d F' => P d ∧ 0 ≤ F'.next) (fun _ _ => False) := wpF_fn (wpS_mono (h _ rfl) (fun _ h => h.elim) (fun _ _ h => h) (fun _ h => h.elim) (fun _ h => h.elim) (fun _ _ h => h.elim))
  rcases wpF_eq g with ⟨d, F', e, h⟩ | ⟨x, F', e, h⟩
  · exact ⟨d, F', e, h.1, h.2⟩
  · exact h.elim
theorem tree_step (ft : Fn) (m : Nat) (ih : ∀ (k : Nat) (F : Fd), 0 < k → k ≤ m → k ≤ 500 → 0 ≤ F.next → Gv (fun d => ∃ j, j ≤ k ∧ Tr j d) (ft [.fd, .int (k : Nat)] F)) (k : Nat) (F : Fd) (h0 : 0 < k) (h1 : k ≤ m + 1) (h2 : k ≤ 500) (hn : 0 ≤ F.next) : Gv (fun d => ∃ j, j ≤ k ∧ Tr j d) (fnM 6 (m_l_tree ft) [.fd, .int (k : Nat)] F) := by
      refine gv_fn fun s0 hs0 => ?_
      unfold m_l_tree
      refine wpS_seq ?_
      have w1 : wpS (parLS 2 3 (mCons (bindM (retM []) fun ds => optM (lstO ds)) (mCons (m2 subI (mPk 1) (retM (.int 1))) (retM [])))) s0 { nx := fun s => s = ⟨[.val .fd, .val (.int (k : Nat)), .own [], .val (.int ((k - 1 : Nat) : Int)), .un, .un], F⟩ } := by
        subst hs0
        have e : ((k - 1 : Nat) : Int) = (k : Int) - 1 := by omega
        rw [e]
        simp [bindM, bindS, retM, optM, m1, m2, m3, mA, mCons, mVar, mPk, mIf, seqS, ifS, asgV, callM, Sto.at, Sto.put, sto0, fnM, asB, asInt, wpS, parLS, lstO, le_line, sub_int]
      refine wpS_mono w1 ?_ (fun _ _ h => h.elim) (fun _ h => h.elim) (fun _ h => h.elim) (fun _ _ h => h.elim)
      intro s1 hs1
      refine wpS_seq (wpS_bind (wp_eq (a := rngD k) (s1 := s1) (asR_var (by subst hs1; rfl) (by omega)) ?_))
      subst hs1
      refine wpS_for (J := TJ k) ?_ ?_ _ _ ⟨[], k - 1, 0, .un, .un, F, rfl, hn, .nil, by omega⟩
      · rintro s ⟨parts, left, a, x4, x5, F, rfl, hn, ht, hl⟩
        obtain ⟨e, he, e1, e2⟩ := atom_tx hn
        have pl := pick_lst (F := F) (ds := [D.str "p", D.str "q", D.str "p", D.str "q", D.str "r", D.str "s", D.str "pp", D.str "abcdefgh"]) (by simp) (by simp) hn
        rw [he] at pl
        have pn := pkF_next (n := 8) (by decide) hn
        have pl2 : ([D.str "p", D.str "q", D.str "p", D.str "q", D.str "r", D.str "s", D.str "pp", D.str "abcdefgh"] : List D).length = 8 := rfl
        rw [pl2] at pl
        simp [bindM, bindS, retM, optM, m1, m2, m3, mA, mCons, mVar, mPk, mIf, seqS, ifS, asgV, callM, Sto.at, Sto.put, sto0, fnM, asB, asInt, wpS, tupleO, lstO, tupO, le_line, pl, pn]
        exact ⟨a + 1, by omega, .mk ht e1 e2⟩
      · rintro d ds s ⟨parts, left, a, x4, x5, F, rfl, hn, ht, hl⟩
        refine ⟨_, rfl, ?_⟩
        obtain ⟨L, hL⟩ : ∃ L : Int, L = ((left : Nat) : Int) := ⟨_, rfl⟩
        rw [← hL]
        have g0 := gt_int L 0
        by_cases l0 : 0 < left
        · rw [decide_eq_true (by omega)] at g0
          obtain ⟨r, F1, e1, hr, n1⟩ := drw (F := F) (n := left) l0 (by omega) hn
          rw [← hL] at e1
          have a1 := add_int 1 (r : Int)
          obtain ⟨M, hM⟩ : ∃ M : Int, M = ((1 + r : Nat) : Int) := ⟨_, rfl⟩
          have hM2 : (1 : Int) + (r : Int) = M := by omega
          rw [hM2] at a1
          obtain ⟨t, F2, e2, ⟨j, hj, tj⟩, n2⟩ := ih (1 + r) F1 (by omega) (by omega) (by omega) n1
          rw [← hM] at e2
          have s1 : subI (.int L) (.int M) = some (.int ((left - (1 + r) : Nat) : Int)) := by
            rw [sub_int]
            congr 2
            omega
          have pl : parts.length < sizeLine := by
            have := ht.len
            exact Nat.lt_of_le_of_lt (by omega : parts.length ≤ 1000) (by decide)
          generalize hL2 : ((left - (1 + r) : Nat) : Int) = L2 at s1
          generalize ((r : Nat) : Int) = R at e1 a1
          simp [bindM, bindS, retM, optM, m1, m2, m3, mA, mCons, mVar, mPk, mIf, seqS, ifS, asgV, callM, Sto.at, Sto.put, sto0, fnM, asB, asInt, wpS, g0, e1, a1, appS, e2, pl, s1]
          refine ⟨parts ++ [t], left - (1 + r), a + j, _, _, F2, by rw [hL2], n2, ht.snoc tj, by omega⟩
        · rw [decide_eq_false (by omega)] at g0
          simp [bindM, bindS, retM, optM, m1, m2, m3, mA, mCons, mVar, mPk, mIf, seqS, ifS, asgV, callM, Sto.at, Sto.put, sto0, fnM, asB, asInt, wpS, g0]
          exact ⟨parts, left, a, _, _, F, by rw [hL], hn, ht, hl⟩
theorem tree_gv : ∀ (m k : Nat) (F : Fd), 0 < k → k ≤ m → k ≤ 500 → 0 ≤ F.next → Gv (fun d => ∃ j, j ≤ k ∧ Tr j d) (f_l_tree m [.fd, .int (k : Nat)] F)
  | 0, k, F, h0, h1, _, _ => absurd h1 (by omega)
  | m + 1, k, F, h0, h1, h2, hn => tree_step (f_l_tree m) m (tree_gv m) k F h0 h1 h2 hn
end K01

set_option linter.all false
set_option maxRecDepth 100000
set_option maxHeartbeats 4000000
namespace K01
open PySem L2 Og Gr
theorem add_str {x y : Str} (h : x.length + y.length ≤ 1000) : addO (.str x) (.str y) = some (.str (x ++ y)) := by
  have : x.length + y.length ≤ sizeLine := Nat.le_trans h (by decide)
  simp [addO, or2, addI, iiO, addS, ssO, this]
theorem strs_map : ∀ zs : List Str, strsOf (zs.map D.str) = some zs
  | [] => rfl
  | z :: zs => by
    show (strsOf (zs.map D.str)).map _ = _
    rw [strs_map zs]
    rfl
theorem str_len (x y : Str) : (x ++ y).length = x.length + y.length := by
  rw [len_sg, len_sg x, len_sg y]
  have : sg (x ++ y) = sg x ++ sg y := PyProof.Rows.cps_toList_append x y
  rw [this, List.length_append]
def SJ (d : D) (n : Nat) (F : Fd) (rest : List D) (s : Sto) : Prop := ∃ (zs : List Str) (a b : Nat) (x2 : SV), s = ⟨[.val d, .own (zs.map D.str), x2], F⟩ ∧ Trs b rest ∧ a + b = n ∧ zs.length ≤ a ∧ (zs.map (·.length)).sum + 4 * zs.length ≤ 18 * a ∧ ∀ z ∈ zs, A7 z
theorem spelled_step (ft : Fn) (m : Nat) (ih : ∀ (j : Nat) (d : D) (F : Fd), Tr j d → j ≤ m → j ≤ 10 → ∃ z, ft [d] F = .ok (.str z) F ∧ z.length + 6 ≤ 18 * j ∧ A7 z) (j : Nat) (d : D) (F : Fd) (hd : Tr j d) (h1 : j ≤ m + 1) (h2 : j ≤ 10) : ∃ z, fnM 3 (m_l_spelled ft) [d] F = .ok (.str z) F ∧ z.length + 6 ≤ 18 * j ∧ A7 z := by
  have g : wpF (fnM 3 (m_l_spelled ft) [d] F) (fun r F' => (∃ z, r = .str z ∧ z.length + 6 ≤ 18 * j ∧ A7 z) ∧ F' = F) (fun _ _ => False) := by
    refine wpF_fn ?_
    unfold m_l_spelled
    cases hd with
    | @mk n ps e ht e1 e2 =>
    have i0 : ixO (.tup [.tup ps, .str e]) (.int 0) = some (.tup ps) := rfl
    have i1 : ixO (.tup [.tup ps, .str e]) (.int 1) = some (.str e) := rfl
    generalize hd : D.tup [.tup ps, .str e] = d at *
    refine wpS_seq ?_
    have w1 : wpS (asgL 1 (bindM (retM []) fun ds => optM (lstO ds))) (sto0 3 [d] F) { nx := fun s => s = ⟨[.val d, .own [], .un], F⟩ } := by
      simp [bindM, bindS, retM, optM, m1, m2, m3, mA, mCons, mVar, mPk, mIf, seqS, ifS, asgV, callM, Sto.at, Sto.put, sto0, fnM, asB, asInt, wpS, asgL, lstO, le_line]
    refine wpS_mono w1 ?_ (fun _ _ h => h.elim) (fun _ h => h.elim) (fun _ h => h.elim) (fun _ _ h => h.elim)
    intro s1 hs1
    refine wpS_seq (wpS_bind (wp_eq (a := ps) (s1 := s1) (by subst hs1; simp [bindM, bindS, retM, optM, m1, m2, m3, mA, mCons, mVar, mPk, mIf, seqS, ifS, asgV, callM, Sto.at, Sto.put, sto0, fnM, asB, asInt, i0, asT]) ?_))
    subst hs1
    refine wpS_for (J := SJ d n F) ?_ ?_ _ _ ⟨[], 0, n, .un, rfl, ht, by omega, by simp, by simp, fun _ h => nomatch h⟩
    · rintro s ⟨zs, a, b, x2, rfl, hb, hab, hl, hw, h7⟩
      have b0 : b = 0 := by cases hb; rfl
      have jl := StrLaws.join_length_le " -> " (zs ++ [e])
      have je : Txt.join " -> " (zs ++ [e]) = Str.join " -> " (zs ++ [e]) := TL.join_eq _ _
      have al : (" -> " : Str).length = 4 := arrow_len
      rw [al] at jl
      simp only [List.map_append, List.sum_append, List.length_append, List.map_singleton, List.sum_singleton, List.length_singleton] at jl
      have j7 : A7 (Txt.join " -> " (zs ++ [e])) := join7' (a7_lit (by decide +kernel)) fun t ht => by
        rcases List.mem_append.mp ht with ht | ht
        · exact h7 t ht
        · simp at ht
          subst ht
          exact e2
      have jj : joinO (.str " -> ") [.lst (zs.map D.str ++ [.str e])] = some (.str (Txt.join " -> " (zs ++ [e]))) := by
        have : zs.map D.str ++ [D.str e] = (zs ++ [e]).map D.str := by simp
        rw [this]
        show (strsOf ((zs ++ [e]).map D.str)).bind _ = _
        rw [strs_map]
        show (if _ then _ else _) = _
        rw [if_pos]
        rw [al]
        simp
        omega
      have ll : (zs.map D.str).length + 1 ≤ sizeLine := by
        rw [List.length_map]
        exact Nat.le_trans (by omega : zs.length + 1 ≤ 100) (by decide)
      generalize Txt.join " -> " (zs ++ [e]) = J at *
      rw [← je] at jl
      generalize zs.map D.str = ys at *
      simp [bindM, bindS, retM, optM, m1, m2, m3, mA, mCons, mVar, mPk, mIf, seqS, ifS, asgV, callM, Sto.at, Sto.put, sto0, fnM, asB, asInt, wpS, addL, lstO, le_line, i1, ll, mMt, jj]
      exact ⟨by omega, j7⟩
    · rintro x ds s ⟨zs, a, b, x2, rfl, hb, hab, hl, hw, h7⟩
      refine ⟨_, rfl, ?_⟩
      cases hb with
      | @cons a1 b1 _ _ hx hr =>
      have hx' := hx
      cases hx' with
      | @mk n2 qs e3 hq e4 e5 =>
      have bdx := Tr.bd hx
      have pos := Tr.pos hx
      have j0 : ixO (.tup [.tup qs, .str e3]) (.int 0) = some (.tup qs) := rfl
      have j1 : ixO (.tup [.tup qs, .str e3]) (.int 1) = some (.str e3) := rfl
      have eq := eq_nilT (T := 8) (ds := qs) (by
        have := bdx.1
        simp only [D.lf, D.lfs] at this ⊢
        exact this.1) (by
        have := bdx.2
        simp only [D.dp, D.dps] at this ⊢
        omega) true
      simp only [if_true] at eq
      have l1 : (zs.map D.str).length < sizeLine := by
        rw [List.length_map]
        exact Nat.lt_of_le_of_lt (by omega : zs.length ≤ 100) (by decide)
      obtain ⟨z, hz, hz1, hz2⟩ := ih (n2 + 1) _ F hx (by omega) (by omega)
      have nx : ∀ w : Str, w.length + 4 ≤ 18 * (n2 + 1) → A7 w → SJ d n F ds ⟨[.val d, .own (zs.map D.str ++ [.str w]), .val (.tup [.tup qs, .str e3])], F⟩ := by
        intro w hw1 hw7
        refine ⟨zs ++ [w], a + (n2 + 1), b1, .val (.tup [.tup qs, .str e3]), by simp, hr, by omega, by simp; omega, ?_, fun t ht => ?_⟩
        · simp
          omega
        · rcases List.mem_append.mp ht with ht | ht
          · exact h7 t ht
          · simp at ht
            subst ht
            exact hw7
      generalize hone : D.tup [.tup qs, .str e3] = one at *
      cases hq0 : qs.isEmpty with
      | true =>
        rw [hq0] at eq
        have n1 := nx e3 (by omega) e5
        generalize zs.map D.str = ys at *
        simp at eq
        simp [bindM, bindS, retM, optM, m1, m2, m3, mA, mCons, mVar, mPk, mIf, seqS, ifS, asgV, callM, Sto.at, Sto.put, sto0, fnM, asB, asInt, wpS, appS, l1, j0, tupO, le_line, eq, j1, n1]
      | false =>
        rw [hq0] at eq
        have lo : ("(" : Str).length = 1 := by decide +kernel
        have lc : (")" : Str).length = 1 := by decide +kernel
        have a1 := add_str (x := "(") (y := z) (by rw [lo]; omega)
        have l2 := str_len "(" z
        have a2 := add_str (x := "(" ++ z) (y := ")") (by rw [lc, l2, lo]; omega)
        have l3 := str_len ("(" ++ z) ")"
        have n1 := nx ("(" ++ z ++ ")") (by rw [l3, l2, lo, lc]; omega) (a7_app (a7_app (a7_lit (by decide +kernel)) hz2) (a7_lit (by decide +kernel)))
        generalize zs.map D.str = ys at *
        simp at eq
        simp [bindM, bindS, retM, optM, m1, m2, m3, mA, mCons, mVar, mPk, mIf, seqS, ifS, asgV, callM, Sto.at, Sto.put, sto0, fnM, asB, asInt, wpS, appS, l1, j0, tupO, le_line, eq, hz, a1, a2, n1]
  rcases wpF_eq g with ⟨r, F', e, ⟨z, rfl, h3⟩, rfl⟩ | ⟨x, F', e, h⟩
  · exact ⟨z, e, h3⟩
  · exact h.elim
theorem spelled_gv : ∀ (m j : Nat) (d : D) (F : Fd), Tr j d → j ≤ m → j ≤ 10 → ∃ z, f_l_spelled m [d] F = .ok (.str z) F ∧ z.length + 6 ≤ 18 * j ∧ A7 z
  | 0, j, d, F, h, h1, _ => by
    have := h.pos
    omega
  | m + 1, j, d, F, h, h1, h2 => spelled_step (f_l_spelled m) m (spelled_gv m) j d F h h1 h2
end K01

set_option linter.all false
set_option maxRecDepth 100000
set_option maxHeartbeats 4000000
namespace K01
open PySem L2 Og Gr
theorem cutD_to (ds : List D) (i : Nat) : cutD ds none (some (i : Int)) = ds.take i := by
  unfold cutD
  rw [HT.sIx_none, HT.sIx_nat]
  simp [List.take_eq_take_iff]
theorem cutD_mid (ds : List D) (i : Nat) : cutD ds (some (i : Int)) (some ((i + 1 : Nat) : Int)) = (ds.drop i).take 1 := by
  unfold cutD
  rw [HT.sIx_nat, HT.sIx_nat]
  rcases Nat.lt_or_ge i ds.length with h | h
  · rw [Nat.min_eq_left (by omega), Nat.min_eq_left (by omega)]
    congr 1
    omega
  · rw [Nat.min_eq_right (by omega), Nat.min_eq_right (by omega), List.drop_of_length_le (Nat.le_refl _), List.drop_of_length_le h]
    simp
theorem bd_tup {T n k : Nat} {es : List D} (h : ∀ e ∈ es, e.lf T ∧ e.dp ≤ k) (hw : D.wts es ≤ n) : Bd T n (k + 1) (.tup es) := by
  refine ⟨?_, ?_, ?_⟩
  · simp only [D.lf]
    exact lfs_iff.mpr fun e he => (h e he).1
  · simpa only [D.wt] using hw
  · simp only [D.dp]
    have := dps_le.mpr fun e he => (h e he).2
    omega
theorem bd_lst {T n k : Nat} {es : List D} (h : ∀ e ∈ es, e.lf T ∧ e.dp ≤ k) (hw : D.wts es ≤ n) : Bd T n (k + 1) (.lst es) := by
  refine ⟨?_, ?_, ?_⟩
  · simp only [D.lf]
    exact lfs_iff.mpr fun e he => (h e he).1
  · simpa only [D.wt] using hw
  · simp only [D.dp]
    have := dps_le.mpr fun e he => (h e he).2
    omega
theorem Bd.els {T n k : Nat} {ds : List D} (h : Bd T n k (.tup ds)) : (∀ e ∈ ds, e.lf T ∧ e.dp + 1 ≤ k) ∧ D.wts ds ≤ n ∧ 1 ≤ k := by
  have h1 := h.lf
  have h2 := h.wt
  have h3 := h.dp
  simp only [D.lf, D.wt, D.dp] at h1 h2 h3
  refine ⟨fun e he => ⟨lfs_iff.mp h1 e he, ?_⟩, h2, by omega⟩
  have := dps_le.mp (Nat.le_refl (D.dps ds)) e he
  omega
theorem wts_cut (ds : List D) (i : Nat) : D.wts (ds.take i) + D.wts (ds.drop i) = D.wts ds := by
  rw [← wts_app, List.take_append_drop]
theorem wts_at {ds : List D} {i : Nat} (h : i < ds.length) : D.wts (ds.take i) + ((ds[i]).wt + 1) + D.wts (ds.drop (i + 1)) = D.wts ds := by
  have e : ds.drop i = ds[i] :: ds.drop (i + 1) := List.drop_eq_getElem_cons h
  have := wts_cut ds i
  rw [e] at this
  simp only [D.wts] at this
  omega
theorem drwL (n : Nat) {F : Fd} (h2 : n < 100000000) (hn : 0 ≤ F.next) : ∃ (i : Nat) (F' : Fd), f_l_draw [.fd, .int ((n : Int) + 1)] F = .ok (.int (i : Int)) F' ∧ i ≤ n ∧ 0 ≤ F'.next := by
  obtain ⟨r, F', e, h0, h1, q⟩ := drwI ((n : Int) + 1) (by omega) (by omega) hn
  refine ⟨r.toNat, F', ?_, by omega, q⟩
  rw [e, Int.toNat_of_nonneg h0]
theorem addT_ok {a b : List D} (h : a.length + b.length ≤ 1000000) : addO (.tup a) (.tup b) = some (.tup (a ++ b)) := by
  have : a.length + b.length ≤ sizeLine := Nat.le_trans h (by decide)
  simp [addO, or2, addI, iiO, addS, ssO, addT, this]
theorem slT (ds : List D) (lo hi : Option Int) : slO (.tup ds) lo hi = some (.tup (cutD ds lo hi)) := rfl
def SX (d : D) (s : Sto) : Prop := ∃ F1 : Fd, s = ⟨[.val .fd, .val d, .un, .un, .un], F1⟩ ∧ 0 ≤ F1.next
theorem add_len {a b : List D} {n : Nat} (h : D.wts (a ++ b) ≤ n) (hn : n ≤ 200000) : a.length + b.length ≤ 1000000 := by
  have := len_wts (a ++ b)
  rw [List.length_append] at this
  omega
theorem spoilt_1 (ft : Fn) (m : Nat) (ih : ∀ (d : D) (T n k : Nat) (F : Fd), Bd T n k d → d.dp < m → 20 ≤ T → T ≤ 500 → n ≤ 50000 → k ≤ 50 → 0 ≤ F.next → Gv (Bd (T + 5) (2 * n + 220) (k + 5)) (ft [.fd, d] F)) (d : D) (T n k : Nat) (F : Fd) (hd : Bd T n k d) (hm : d.dp < m + 1) (hT0 : 20 ≤ T) (hT : T ≤ 500) (hN : n ≤ 50000) (hk : k ≤ 50) (hn : 0 ≤ F.next) : wpS (ifS (mIf (bindM (m1 (isiO "tuple") (mPk 1)) fun d => optM (truD d)) (mIf (bindM (m2 (eqO true) (mPk 1) (bindM (retM []) fun ds => optM (tupO ds))) asB) (bindM (m2 gtO (callM 2 f_l_draw (mCons (mVar 0) (mCons (retM (.int 6)) (retM [])))) (retM (.int 0))) asB) (retM false)) (retM false)) (seqS (asgV 2 (callM 2 f_l_draw (mCons (mVar 0) (mCons (mA lenO (mCons (mPk 1) (retM []))) (retM []))))) (seqS (bindS (m2 addO (m2 addO (m3 slO (mPk 1) (retM none) (bindM (mPk 2) asInt)) (bindM (mCons (callM 2 ft (mCons (mVar 0) (mCons (m2 ixO (mPk 1) (mPk 2)) (retM [])))) (retM [])) fun ds => optM (tupO ds))) (m3 slO (mPk 1) (bindM (m2 addO (mPk 2) (retM (.int 1))) asInt) (retM none))) fun d s => .rt d s) (fun s => .nx s))) (fun s => .nx s)) (sto0 5 [.fd, d] F) { nx := SX d, rt := fun d s => Bd (T + 5) (2 * n + 220) (k + 5) d ∧ 0 ≤ s.F.next } := by
  have hit := isi_tup (lf_fd hd.lf)
  have keep : ∀ F1 : Fd, 0 ≤ F1.next → SX d ⟨[.val .fd, .val d, .un, .un, .un], F1⟩ := fun F1 h => ⟨F1, rfl, h⟩
  cases d with
  | tup ds =>
    have hdp := hd.dp
    have hne := eq_nilT hd.lf (by omega) true
    simp only [if_true] at hne
    by_cases emp : ds = []
    · subst emp
      simp at hne
      simp [bindM, bindS, retM, optM, m1, m2, m3, mA, mCons, mVar, mPk, mIf, seqS, ifS, asgV, callM, Sto.at, Sto.put, sto0, fnM, asB, asInt, wpS, hit, isTp, truD, tupO, le_line, hne, keep _ hn]
    · have em : ds.isEmpty = false := by simpa using emp
      rw [em] at hne
      simp at hne
      obtain ⟨r, F1, e1, r0, r1, n1⟩ := drwI 6 (by decide) (by decide) hn
      have g0 := gt_int r 0
      by_cases rp : 0 < r
      · rw [decide_eq_true rp] at g0
        have lp := List.length_pos_iff.mpr emp
        obtain ⟨hel, hw, hk1⟩ := hd.els
        have ll := len_wts ds
        obtain ⟨i, F2, e2, hi, n2⟩ := drw (F := F1) (n := ds.length) lp (by omega) n1
        obtain ⟨I, hI⟩ : ∃ I : Int, I = ((i : Nat) : Int) := ⟨_, rfl⟩
        obtain ⟨I1, hI1⟩ : ∃ I1 : Int, I1 = ((i + 1 : Nat) : Int) := ⟨_, rfl⟩
        have a1 : addO (.int I) (.int 1) = some (.int I1) := by
          rw [add_int]
          congr 2
          omega
        have s1 : slO (.tup ds) none (some I) = some (.tup (ds.take i)) := by rw [slT, hI, cutD_to]
        have s2 : slO (.tup ds) (some I1) none = some (.tup (ds.drop (i + 1))) := by rw [slT, hI1, cutD_from]
        have ix : ixO (.tup ds) (.int I) = some ds[i] := by
          show L2.atI ds I = _
          exact atI_in (by omega) (by rw [hI, Int.toNat_natCast]; exact List.getElem?_eq_getElem hi)
        have hx := hel ds[i] (List.getElem_mem hi)
        have wa := wts_at hi
        have hdp2 : ds[i].dp + 1 ≤ D.dp (.tup ds) := by
          simp only [D.dp]
          have := dps_le.mp (Nat.le_refl (D.dps ds)) ds[i] (List.getElem_mem hi)
          omega
        obtain ⟨x, F3, e3, bx, n3⟩ := ih ds[i] T ds[i].wt (k - 1) F2 ⟨hx.1, Nat.le_refl _, by omega⟩ (by omega) hT0 hT (by omega) (by omega) n2
        rw [← hI] at e2
        have bxw := bx.wt
        have b1 : Bd (T + 5) (2 * n + 220) (k + 5) (.tup (ds.take i ++ [x] ++ ds.drop (i + 1))) := by
          refine bd_tup (k := k + 4) (fun e he => ?_) ?_
          · simp only [List.mem_append, List.mem_singleton] at he
            rcases he with (he | rfl) | he
            · have := hel e (List.mem_of_mem_take he)
              exact ⟨lf_mono (by omega) this.1, by omega⟩
            · exact ⟨bx.lf, by have := bx.dp; omega⟩
            · have := hel e (List.mem_of_mem_drop he)
              exact ⟨lf_mono (by omega) this.1, by omega⟩
          · rw [wts_app, wts_app]
            simp only [D.wts]
            omega
        have bw := b1.els.2.1
        have t1 : addO (.tup (ds.take i)) (.tup [x]) = some (.tup (ds.take i ++ [x])) := addT_ok (by simp; omega)
        have t2 : addO (.tup (ds.take i ++ [x])) (.tup (ds.drop (i + 1))) = some (.tup (ds.take i ++ [x] ++ ds.drop (i + 1))) := addT_ok (add_len bw (by omega))
        generalize ds[i] = y at *
        generalize ds.take i = A at *
        generalize ds.drop (i + 1) = B at *
        have ln : lenO [.tup ds] = some (.int (ds.length : Nat)) := rfl
        generalize ((ds.length : Nat) : Int) = LN at *
        generalize hC : A ++ [x] ++ B = C at *
        generalize A ++ [x] = A1 at *
        simp [bindM, bindS, retM, optM, m1, m2, m3, mA, mCons, mVar, mPk, mIf, seqS, ifS, asgV, callM, Sto.at, Sto.put, sto0, fnM, asB, asInt, wpS, hit, isTp, truD, tupO, le_line, hne, e1, g0, ln, e2, s1, s2, a1, ix, e3, t1, t2]
        exact ⟨b1, n3⟩
      · rw [decide_eq_false rp] at g0
        simp [bindM, bindS, retM, optM, m1, m2, m3, mA, mCons, mVar, mPk, mIf, seqS, ifS, asgV, callM, Sto.at, Sto.put, sto0, fnM, asB, asInt, wpS, hit, isTp, truD, tupO, le_line, hne, e1, g0, keep _ n1]
  | fd => exact absurd rfl (lf_fd hd.lf)
  | _ => simp [bindM, bindS, retM, optM, m1, m2, m3, mA, mCons, mVar, mPk, mIf, seqS, ifS, asgV, callM, Sto.at, Sto.put, sto0, fnM, asB, asInt, wpS, hit, isTp, truD, keep _ hn]
end K01

set_option linter.all false
set_option maxRecDepth 100000
set_option maxHeartbeats 8000000
namespace K01
open PySem L2 Og Gr
theorem spoilSigns : [D.str "a", D.str "z", D.str "(", D.str ")", D.str " ", D.str "-", D.str ">", D.str " -> ", D.str "", D.str "A", D.str ":", D.str "\n", D.str "p -> "].all (bdb 5 5 0) = true := by decide +kernel
theorem sign_tx {F : Fd} (hn : 0 ≤ F.next) : Tx 5 (pkD F [D.str "a", D.str "z", D.str "(", D.str ")", D.str " ", D.str "-", D.str ">", D.str " -> ", D.str "", D.str "A", D.str ":", D.str "\n", D.str "p -> "]) := by
  have hm := pkD_mem (F := F) (ds := [D.str "a", D.str "z", D.str "(", D.str ")", D.str " ", D.str "-", D.str ">", D.str " -> ", D.str "", D.str "A", D.str ":", D.str "\n", D.str "p -> "]) (by simp) hn
  have hb := (all_in (F := F) (T := 5) (n := 5) (k := 0) (ds := [D.str "a", D.str "z", D.str "(", D.str ")", D.str " ", D.str "-", D.str ">", D.str " -> ", D.str "", D.str "A", D.str ":", D.str "\n", D.str "p -> "]) (by simp) hn spoilSigns).lf
  generalize pkD F [D.str "a", D.str "z", D.str "(", D.str ")", D.str " ", D.str "-", D.str ">", D.str " -> ", D.str "", D.str "A", D.str ":", D.str "\n", D.str "p -> "] = d at *
  simp at hm
  rcases hm with h | h | h | h | h | h | h | h | h | h | h | h | h <;> (subst h; simp only [D.lf] at hb; exact ⟨_, rfl, hb⟩)
theorem cut_to (z : Str) (i : Nat) : sg (cutS z none (some (i : Int))) = (sg z).take i := by
  have e : cutS z none (some (i : Int)) = cutS z (some ((0 : Nat) : Int)) (some (i : Int)) := by
    unfold cutS
    rw [HT.sIx_none, HT.sIx_nat, HT.sIx_nat]
    simp
  rw [e, cut_nat]
  simp
theorem spoilt_step (ft : Fn) (m : Nat) (ih : ∀ (d : D) (T n k : Nat) (F : Fd), Bd T n k d → d.dp < m → 20 ≤ T → T ≤ 500 → n ≤ 50000 → k ≤ 50 → 0 ≤ F.next → Gv (Bd (T + 5) (2 * n + 220) (k + 5)) (ft [.fd, d] F)) (d : D) (T n k : Nat) (F : Fd) (hd : Bd T n k d) (hm : d.dp < m + 1) (hT0 : 20 ≤ T) (hT : T ≤ 500) (hN : n ≤ 50000) (hk : k ≤ 50) (hn : 0 ≤ F.next) : Gv (Bd (T + 5) (2 * n + 220) (k + 5)) (fnM 5 (m_l_spoilt ft) [.fd, d] F) := by
  have hit := isi_tup (lf_fd hd.lf)
  have his := isi_str (lf_fd hd.lf)
  refine gv_fn fun s0 hs0 => ?_
  unfold m_l_spoilt
  refine wpS_seq ?_
  have sp1 := spoilt_1 ft m ih d T n k F hd hm hT0 hT hN hk hn
  rw [← hs0] at sp1
  refine wpS_mono sp1 ?_ (fun _ _ h => h) (fun _ h => h.elim) (fun _ h => h.elim) (fun _ _ h => h.elim)
  rintro s ⟨F1, rfl, n1⟩
  clear hs0 hn
  obtain ⟨w, F2, e2, w0, w8, n2⟩ := drwI 8 (by decide) (by decide) n1
  obtain ⟨s, F3, e3, bs, n3⟩ := strange_gv F2 n2
  have bS := bs.mono (T' := T + 5) (n' := 2 * n + 220) (k' := k + 5) (by omega) (by omega) (by omega)
  have l6 := lt_int w 6
  by_cases c6 : w < 6
  · rw [decide_eq_true c6] at l6
    cases d with
    | tup ds =>
      obtain ⟨hel, hw, hk1⟩ := hd.els
      have ll := len_wts ds
      obtain ⟨i, F4, e4, hi, n4⟩ := drwL ds.length (F := F2) (by omega) n2
      obtain ⟨s5, F5, e5, bs5, n5⟩ := strange_gv F4 n4
      obtain ⟨I, hI⟩ : ∃ I : Int, I = ((i : Nat) : Int) := ⟨_, rfl⟩
      obtain ⟨I1, hI1⟩ : ∃ I1 : Int, I1 = ((i + 1 : Nat) : Int) := ⟨_, rfl⟩
      have a1 : addO (.int I) (.int 1) = some (.int I1) := by
        rw [add_int]
        congr 2
        omega
      have s1 : slO (.tup ds) none (some I) = some (.tup (ds.take i)) := by rw [slT, hI, cutD_to]
      have s2 : slO (.tup ds) (some I1) none = some (.tup (ds.drop (i + 1))) := by rw [slT, hI1, cutD_from]
      have s3 : slO (.tup ds) (some I) (some I1) = some (.tup ((ds.drop i).take 1)) := by rw [slT, hI, hI1, cutD_mid]
      have s4 : slO (.tup ds) (some I) none = some (.tup (ds.drop i)) := by rw [slT, hI, cutD_from]
      rw [← hI] at e4
      have wc := wts_cut ds i
      have wc1 := wts_cut ds (i + 1)
      have wm := wts_cut (ds.drop i) 1
      rw [List.drop_drop] at wm
      have lb : ∀ (es : List D), (∀ e ∈ es, e ∈ ds ∨ e = s5) → D.wts es ≤ 2 * n + 220 → Bd (T + 5) (2 * n + 220) (k + 5) (.tup es) := fun es h1 h2 => bd_tup (k := k + 4) (fun e he => by
        rcases h1 e he with h | rfl
        · have := hel e h
          exact ⟨lf_mono (by omega) this.1, by omega⟩
        · exact ⟨lf_mono (by omega) bs5.lf, by have := bs5.dp; omega⟩) h2
      have b0 : Bd (T + 5) (2 * n + 220) (k + 5) (.lst ds) := bd_lst (k := k + 4) (fun e he => by
        have := hel e he
        exact ⟨lf_mono (by omega) this.1, by omega⟩) (by omega)
      have b1 := lb (ds.take i ++ ds.drop (i + 1)) (fun e he => .inl (by
        rcases List.mem_append.mp he with h | h
        · exact List.mem_of_mem_take h
        · exact List.mem_of_mem_drop h)) (by rw [wts_app]; have := wts_cut (ds.drop i) 1; rw [List.drop_drop] at this; omega)
      have b2 := lb (ds.take i ++ (ds.drop i).take 1 ++ ds.drop i) (fun e he => .inl (by
        rcases List.mem_append.mp he with h | h
        · rcases List.mem_append.mp h with h | h
          · exact List.mem_of_mem_take h
          · exact List.mem_of_mem_drop (List.mem_of_mem_take h)
        · exact List.mem_of_mem_drop h)) (by rw [wts_app, wts_app]; omega)
      have b3 := lb (ds.drop i ++ ds.take i) (fun e he => .inl (by
        rcases List.mem_append.mp he with h | h
        · exact List.mem_of_mem_drop h
        · exact List.mem_of_mem_take h)) (by rw [wts_app]; omega)
      have b4 := lb (ds ++ [s5]) (fun e he => by
        rcases List.mem_append.mp he with h | h
        · exact .inl h
        · exact .inr (by simpa using h)) (by rw [wts_app]; simp only [D.wts]; have := bs5.wt; omega)
      have t1 := addT_ok (add_len b1.els.2.1 (by omega))
      have t2 := addT_ok (add_len b2.els.2.1 (by omega))
      have t2a : addO (.tup (ds.take i)) (.tup ((ds.drop i).take 1)) = some (.tup (ds.take i ++ (ds.drop i).take 1)) := addT_ok (by simp; omega)
      have t3 := addT_ok (add_len b3.els.2.1 (by omega))
      have t4 := addT_ok (add_len b4.els.2.1 (by omega))
      have ln : lenO [.tup ds] = some (.int (ds.length : Nat)) := rfl
      have la := add_int ((ds.length : Nat) : Int) 1
      generalize ((ds.length : Nat) : Int) + 1 = L1 at *
      generalize ((ds.length : Nat) : Int) = LN at *
      generalize ds.take i ++ (ds.drop i).take 1 ++ ds.drop i = C2 at *
      generalize ds.take i ++ (ds.drop i).take 1 = C2a at *
      generalize ds.take i ++ ds.drop (i + 1) = C1 at *
      generalize ds.drop i ++ ds.take i = C3 at *
      generalize ds ++ [s5] = C4 at *
      generalize (ds.drop i).take 1 = B1 at *
      generalize ds.take i = A at *
      generalize ds.drop i = B at *
      generalize ds.drop (i + 1) = B2 at *
      have q0 := eq_int w 0 false
      have q1 := eq_int w 1 false
      have q2 := eq_int w 2 false
      have q3 := eq_int w 3 false
      simp only [Bool.false_eq_true, if_false] at q0 q1 q2 q3
      have lst : listO [.tup ds] = some (.lst ds) := rfl
      by_cases z0 : w = 0
      · rw [decide_eq_true z0] at q0
        simp [bindM, bindS, retM, optM, m1, m2, m3, mA, mCons, mVar, mPk, mIf, seqS, ifS, asgV, callM, Sto.at, Sto.put, sto0, fnM, asB, asInt, wpS, e2, hit, isTp, truD, l6, ln, la, e4, q0, lst, b0, n4]
      · rw [decide_eq_false z0] at q0
        by_cases z1 : w = 1
        · rw [decide_eq_true z1] at q1
          simp [bindM, bindS, retM, optM, m1, m2, m3, mA, mCons, mVar, mPk, mIf, seqS, ifS, asgV, callM, Sto.at, Sto.put, sto0, fnM, asB, asInt, wpS, e2, hit, isTp, truD, l6, ln, la, e4, q0, q1, s1, a1, s2, t1, b1, n4]
        · rw [decide_eq_false z1] at q1
          by_cases z2 : w = 2
          · rw [decide_eq_true z2] at q2
            simp [bindM, bindS, retM, optM, m1, m2, m3, mA, mCons, mVar, mPk, mIf, seqS, ifS, asgV, callM, Sto.at, Sto.put, sto0, fnM, asB, asInt, wpS, e2, hit, isTp, truD, l6, ln, la, e4, q0, q1, q2, s1, a1, s3, s4, t2a, t2, b2, n4]
          · rw [decide_eq_false z2] at q2
            by_cases z3 : w = 3
            · rw [decide_eq_true z3] at q3
              simp [bindM, bindS, retM, optM, m1, m2, m3, mA, mCons, mVar, mPk, mIf, seqS, ifS, asgV, callM, Sto.at, Sto.put, sto0, fnM, asB, asInt, wpS, e2, hit, isTp, truD, l6, ln, la, e4, q0, q1, q2, q3, s4, s1, t3, b3, n4]
            · rw [decide_eq_false z3] at q3
              simp [bindM, bindS, retM, optM, m1, m2, m3, mA, mCons, mVar, mPk, mIf, seqS, ifS, asgV, callM, Sto.at, Sto.put, sto0, fnM, asB, asInt, wpS, e2, hit, isTp, truD, l6, ln, la, e4, q0, q1, q2, q3, e5, tupO, le_line, t4, b4, n5]
    | str z =>
      have hz := hd.lf
      have hzw := hd.wt
      simp only [D.lf, D.wt] at hz hzw
      have hz2 : z.length ≤ sizeLine := Nat.le_trans hz.1 (Nat.le_trans hT (by decide))
      obtain ⟨i, F4, e4, hi, n4⟩ := drwL z.length (F := F2) (by omega) n2
      obtain ⟨y, hy, y1, y2⟩ := sign_tx n4
      have pl := pick_lst (F := F4) (ds := [D.str "a", D.str "z", D.str "(", D.str ")", D.str " ", D.str "-", D.str ">", D.str " -> ", D.str "", D.str "A", D.str ":", D.str "\n", D.str "p -> "]) (by simp) (by simp) n4
      rw [hy] at pl
      have n5 := pkF_next (F := F4) (n := ([D.str "a", D.str "z", D.str "(", D.str ")", D.str " ", D.str "-", D.str ">", D.str " -> ", D.str "", D.str "A", D.str ":", D.str "\n", D.str "p -> "] : List D).length) (by simp) n4
      obtain ⟨v, hv⟩ : ∃ v : Nat, ((v : Nat) : Int) = w / 3 := ⟨(w / 3).toNat, by omega⟩
      obtain ⟨I, hI⟩ : ∃ I : Int, I = ((i : Nat) : Int) := ⟨_, rfl⟩
      obtain ⟨I1, hI1⟩ : ∃ I1 : Int, I1 = ((i + v : Nat) : Int) := ⟨_, rfl⟩
      have dv : divI (.int w) (.int 3) = some (.int (w / 3)) := by
        simp [divI, iiO]
      have a1 : addO (.int I) (.int (w / 3)) = some (.int I1) := by
        rw [add_int]
        congr 2
        omega
      have c1 := cut_to z i
      have c2 := cut_none z (i + v)
      have s1 : slO (.str z) none (some I) = some (.str (cutS z none (some I))) := by
        show (if _ then _ else _) = _
        rw [if_pos hz2]
      have s2 : slO (.str z) (some I1) none = some (.str (cutS z (some I1) none)) := by
        show (if _ then _ else _) = _
        rw [if_pos hz2]
      rw [← hI] at c1 e4
      rw [← hI1] at c2
      generalize cutS z none (some I) = A at *
      generalize cutS z (some I1) none = B at *
      have c1 : sg A = (sg z).take i := c1
      have c2 : sg B = (sg z).drop (i + v) := c2
      have lz := len_sg z
      have lA : A.length ≤ i := by rw [len_sg, c1]; exact List.length_take_le _ _
      have lB : B.length ≤ z.length - i := by rw [len_sg, c2, List.length_drop]; omega
      have t1 := add_str (x := A) (y := y) (by omega)
      have l1 := str_len A y
      have t2 := add_str (x := A ++ y) (y := B) (by omega)
      have l2 := str_len (A ++ y) B
      have a7A : A7 A := fun c hc => by
        have : c ∈ (sg z).take i := by rw [← c1]; exact hc
        exact hz.2 c (List.mem_of_mem_take this)
      have a7B : A7 B := fun c hc => by
        have : c ∈ (sg z).drop (i + v) := by rw [← c2]; exact hc
        exact hz.2 c (List.mem_of_mem_drop this)
      have a7 : A7 (A ++ y ++ B) := a7_app (a7_app a7A y2) a7B
      have b1 : Bd (T + 5) (2 * n + 220) (k + 5) (.str (A ++ y ++ B)) := by
        refine ⟨?_, ?_, Nat.zero_le _⟩
        · simp only [D.lf]
          exact ⟨by omega, a7⟩
        · simp only [D.wt]
          omega
      have ln : lenO [.str z] = some (.int (z.length : Nat)) := by
        show (if _ then _ else _) = _
        rw [if_pos hz2]
      have la := add_int ((z.length : Nat) : Int) 1
      generalize ((z.length : Nat) : Int) + 1 = L1 at *
      generalize ((z.length : Nat) : Int) = LN at *
      generalize A ++ y ++ B = C at *
      generalize A ++ y = C1 at *
      generalize w / 3 = W3 at *
      generalize pkF F4 _ = F5 at *
      simp [bindM, bindS, retM, optM, m1, m2, m3, mA, mCons, mVar, mPk, mIf, seqS, ifS, asgV, callM, Sto.at, Sto.put, sto0, fnM, asB, asInt, wpS, e2, hit, his, isTp, isS, truD, l6, ln, la, e4, lstO, le_line, pl, s1, dv, a1, s2, t1, t2, b1, n5]
    | fd => exact absurd rfl (lf_fd hd.lf)
    | _ => simp [bindM, bindS, retM, optM, m1, m2, m3, mA, mCons, mVar, mPk, mIf, seqS, ifS, asgV, callM, Sto.at, Sto.put, sto0, fnM, asB, asInt, wpS, e2, hit, his, isTp, isS, truD, e3, bS, n3]
  · rw [decide_eq_false c6] at l6
    cases d with
    | fd => exact absurd rfl (lf_fd hd.lf)
    | _ => simp [bindM, bindS, retM, optM, m1, m2, m3, mA, mCons, mVar, mPk, mIf, seqS, ifS, asgV, callM, Sto.at, Sto.put, sto0, fnM, asB, asInt, wpS, e2, hit, his, isTp, isS, truD, l6, e3, bS, n3]
theorem spoilt_gv : ∀ (m : Nat) (d : D) (T n k : Nat) (F : Fd), Bd T n k d → d.dp < m → 20 ≤ T → T ≤ 500 → n ≤ 50000 → k ≤ 50 → 0 ≤ F.next → Gv (Bd (T + 5) (2 * n + 220) (k + 5)) (f_l_spoilt m [.fd, d] F)
  | 0, d, T, n, k, F, _, h, _, _, _, _, _ => absurd h (Nat.not_lt_zero _)
  | m + 1, d, T, n, k, F, h1, h2, h3, h4, h5, h6, h7 => spoilt_step (f_l_spoilt m) m (spoilt_gv m) d T n k F h1 h2 h3 h4 h5 h6 h7
end K01

set_option linter.all false
set_option maxRecDepth 100000
set_option maxHeartbeats 8000000
namespace K01
open PySem L2 Og Gr
def Mk (k : Nat) (d : D) : Prop := d.lf 40 ∧ d.wt + 1 ≤ 50 * k ∧ d.dp ≤ 2 * k
def MJ (k : Nat) (rest : List D) (s : Sto) : Prop := ∃ (parts : List D) (left a : Nat) (x4 x5 : SV) (F : Fd), s = ⟨[.val .fd, .val (.int (k : Nat)), .own parts, .val (.int (left : Nat)), x4, x5], F⟩ ∧ 0 ≤ F.next ∧ (D.lfs 40 parts ∧ D.wts parts ≤ 50 * a ∧ D.dps parts ≤ 2 * a) ∧ a + left + 1 ≤ k
theorem maker_step (ft : Fn) (m : Nat) (ih : ∀ (k : Nat) (F : Fd), 0 < k → k ≤ m → k ≤ 500 → 0 ≤ F.next → Gv (Mk k) (ft [.fd, .int (k : Nat)] F)) (k : Nat) (F : Fd) (h0 : 0 < k) (h1 : k ≤ m + 1) (h2 : k ≤ 500) (hn : 0 ≤ F.next) : Gv (Mk k) (fnM 6 (m_l_maker ft) [.fd, .int (k : Nat)] F) := by
      refine gv_fn fun s0 hs0 => ?_
      unfold m_l_maker
      refine wpS_seq ?_
      have w1 : wpS (parLS 2 3 (mCons (bindM (retM []) fun ds => optM (lstO ds)) (mCons (m2 subI (mPk 1) (retM (.int 1))) (retM [])))) s0 { nx := fun s => s = ⟨[.val .fd, .val (.int (k : Nat)), .own [], .val (.int ((k - 1 : Nat) : Int)), .un, .un], F⟩ } := by
        subst hs0
        have e : ((k - 1 : Nat) : Int) = (k : Int) - 1 := by omega
        rw [e]
        simp [bindM, bindS, retM, optM, m1, m2, m3, mA, mCons, mVar, mPk, mIf, seqS, ifS, asgV, callM, Sto.at, Sto.put, sto0, fnM, asB, asInt, wpS, parLS, lstO, le_line, sub_int]
      refine wpS_mono w1 ?_ (fun _ _ h => h.elim) (fun _ h => h.elim) (fun _ h => h.elim) (fun _ _ h => h.elim)
      intro s1 hs1
      refine wpS_seq (wpS_bind (wp_eq (a := rngD k) (s1 := s1) (asR_var (by subst hs1; rfl) (by omega)) ?_))
      subst hs1
      refine wpS_for (J := MJ k) ?_ ?_ _ _ ⟨[], k - 1, 0, .un, .un, F, rfl, hn, ⟨by simp [D.lfs], by simp [D.wts], by simp [D.dps]⟩, by omega⟩
      · rintro s ⟨parts, left, a, x4, x5, F, rfl, hn, ht, hl⟩
        have fin : ∀ h : D, h.lf 40 → h.wt ≤ 40 → h.dp = 0 → Mk k (.tup [h, .tup parts]) := fun h a1 a2 a3 => by
          refine ⟨?_, ?_, ?_⟩
          · simp only [D.lf, D.lfs]
            exact ⟨a1, ht.1, trivial⟩
          · simp only [D.wt, D.wts]
            have := ht.2.1
            omega
          · simp only [D.dp, D.dps]
            have := ht.2.2
            omega
        obtain ⟨r, F1, e1, hr0, hr, n1⟩ := drwI 2 (by decide) (by decide) hn
        have q := eq_int r 0 false
        simp only [Bool.false_eq_true, if_false] at q
        by_cases r0 : r = 0
        · rw [decide_eq_true r0] at q
          obtain ⟨r2, F2, e2, hr20, hr2, n2⟩ := drwI 5 (by decide) (by decide) n1
          have f := fin (.int r2) (by simp only [D.lf]; omega) (by simp only [D.wt]; omega) rfl
          simp [bindM, bindS, retM, optM, m1, m2, m3, mA, mCons, mVar, mPk, mIf, seqS, ifS, asgV, callM, Sto.at, Sto.put, sto0, fnM, asB, asInt, wpS, tupleO, tupO, le_line, e1, q, e2, n2, f]
        · rw [decide_eq_false r0] at q
          obtain ⟨t, F2, e2, ⟨z, rfl, z1, z2⟩, n2⟩ := title_gv F1 n1
          have f := fin (.str z) (by simp only [D.lf]; exact ⟨z1, z2⟩) (by simp only [D.wt]; exact z1) rfl
          simp [bindM, bindS, retM, optM, m1, m2, m3, mA, mCons, mVar, mPk, mIf, seqS, ifS, asgV, callM, Sto.at, Sto.put, sto0, fnM, asB, asInt, wpS, tupleO, tupO, le_line, e1, q, e2, n2, f]
      · rintro d ds s ⟨parts, left, a, x4, x5, F, rfl, hn, ht, hl⟩
        refine ⟨_, rfl, ?_⟩
        obtain ⟨L, hL⟩ : ∃ L : Int, L = ((left : Nat) : Int) := ⟨_, rfl⟩
        rw [← hL]
        have g0 := gt_int L 0
        by_cases l0 : 0 < left
        · rw [decide_eq_true (by omega)] at g0
          obtain ⟨r, F1, e1, hr, n1⟩ := drw (F := F) (n := left) l0 (by omega) hn
          rw [← hL] at e1
          have a1 := add_int 1 (r : Int)
          obtain ⟨M, hM⟩ : ∃ M : Int, M = ((1 + r : Nat) : Int) := ⟨_, rfl⟩
          have hM2 : (1 : Int) + (r : Int) = M := by omega
          rw [hM2] at a1
          obtain ⟨t, F2, e2, ⟨tj1, tj2, tj3⟩, n2⟩ := ih (1 + r) F1 (by omega) (by omega) (by omega) n1
          rw [← hM] at e2
          have s1 : subI (.int L) (.int M) = some (.int ((left - (1 + r) : Nat) : Int)) := by
            rw [sub_int]
            congr 2
            omega
          have pl : parts.length < sizeLine := by
            have := len_wts parts
            have := ht.2.1
            exact Nat.lt_of_le_of_lt (by omega : parts.length ≤ 30000) (by decide)
          generalize hL2 : ((left - (1 + r) : Nat) : Int) = L2 at s1
          generalize ((r : Nat) : Int) = R at e1 a1
          simp [bindM, bindS, retM, optM, m1, m2, m3, mA, mCons, mVar, mPk, mIf, seqS, ifS, asgV, callM, Sto.at, Sto.put, sto0, fnM, asB, asInt, wpS, g0, e1, a1, appS, e2, pl, s1]
          refine ⟨parts ++ [t], left - (1 + r), a + (1 + r), _, _, F2, by rw [hL2], n2, ⟨lfs_iff.mpr fun x hx => ?_, ?_, dps_le.mpr fun x hx => ?_⟩, by omega⟩
          · rcases List.mem_append.mp hx with hx | hx
            · exact lfs_iff.mp ht.1 x hx
            · simp at hx
              subst hx
              exact tj1
          · have := ht.2.1
            rw [wts_app]
            simp only [D.wts]
            omega
          · rcases List.mem_append.mp hx with hx | hx
            · have := dps_le.mp ht.2.2 x hx
              omega
            · simp at hx
              subst hx
              omega
        · rw [decide_eq_false (by omega)] at g0
          simp [bindM, bindS, retM, optM, m1, m2, m3, mA, mCons, mVar, mPk, mIf, seqS, ifS, asgV, callM, Sto.at, Sto.put, sto0, fnM, asB, asInt, wpS, g0]
          exact ⟨parts, left, a, _, _, F, by rw [hL], hn, ht, hl⟩
theorem maker_gv : ∀ (m k : Nat) (F : Fd), 0 < k → k ≤ m → k ≤ 500 → 0 ≤ F.next → Gv (Mk k) (f_l_maker m [.fd, .int (k : Nat)] F)
  | 0, k, F, h0, h1, _, _ => absurd h1 (by omega)
  | m + 1, k, F, h0, h1, h2, hn => maker_step (f_l_maker m) m (maker_gv m) k F h0 h1 h2 hn
end K01

set_option linter.all false
set_option maxRecDepth 100000
set_option maxHeartbeats 8000000
namespace K01
open PySem L2 Og Gr
def Wt (k : Nat) : Nat := if k ≤ 1 then 40 else if k = 2 then 140 else if k = 3 then 200 else if k = 4 then 440 else 500
def Tm (k : Nat) (d : D) : Prop := d.lf 40 ∧ d.wt ≤ Wt k ∧ d.dp ≤ 2 * k
theorem wt_call {k : Nat} (h1 : 2 ≤ k) (h2 : k ≤ 5) : 3 * Wt (k / 2) + 9 ≤ Wt k := by
  have : k = 2 ∨ k = 3 ∨ k = 4 ∨ k = 5 := by omega
  rcases this with rfl | rfl | rfl | rfl <;> decide
theorem wt_fun {k : Nat} (h1 : 2 ≤ k) (h2 : k ≤ 5) : Wt (k - 1) + 45 ≤ Wt k := by
  have : k = 2 ∨ k = 3 ∨ k = 4 ∨ k = 5 := by omega
  rcases this with rfl | rfl | rfl | rfl <;> decide
theorem wt_40 (k : Nat) : 40 ≤ Wt k := by
  unfold Wt
  split
  · omega
  · split
    · omega
    · split
      · omega
      · split <;> omega
theorem div_i (w : Int) : divI (.int w) (.int 2) = some (.int (w / 2)) := by
  simp [divI, iiO]
theorem div_2 (k : Nat) : divI (.int (k : Nat)) (.int 2) = some (.int ((k / 2 : Nat) : Int)) := by
  have e : (k : Int) / 2 = ((k / 2 : Nat) : Int) := by omega
  rw [div_i, e]
theorem wts_le {n : Nat} : ∀ {ds : List D}, (∀ d ∈ ds, d.wt ≤ n) → D.wts ds ≤ ds.length * (n + 1)
  | [], _ => by simp [D.wts]
  | d :: ds, h => by
    have h1 := h d List.mem_cons_self
    have h2 := wts_le fun x hx => h x (List.mem_cons_of_mem _ hx)
    simp only [D.wts, List.length_cons, Nat.add_mul]
    omega
theorem signs_ok (z : Str) (hz : z.length + 6 ≤ 36) (h7 : A7 z) (r : Nat) (hr : r < 2) : ∃ S, slL (.lst [.tup [.str "x", .str "p"], .tup [.str "y", .str z]]) none (some ((1 + r : Nat) : Int)) = some (.lst S) ∧ S.length ≤ 2 ∧ D.lfs 40 S ∧ D.wts S ≤ 39 ∧ D.dps S ≤ 1 := by
  have a7 : ∀ w : Str, (w.cps.toList.all fun c => decide (c < 128)) = true → A7 w := fun w h => a7_lit' h
  have l1 : (D.tup [.str "x", .str "p"]).lf 40 := by
    simp only [D.lf, D.lfs]
    exact ⟨⟨by decide +kernel, a7 _ (by decide +kernel)⟩, ⟨by decide +kernel, a7 _ (by decide +kernel)⟩, trivial⟩
  have l2 : (D.tup [.str "y", .str z]).lf 40 := by
    simp only [D.lf, D.lfs]
    exact ⟨⟨by decide +kernel, a7 _ (by decide +kernel)⟩, ⟨by omega, h7⟩, trivial⟩
  have w1 : (D.tup [.str "x", .str "p"]).wt = 4 := by decide +kernel
  have wy : (Str.ofString "y").length = 1 := by decide +kernel
  have w2 : (D.tup [.str "y", .str z]).wt ≤ 33 := by
    simp only [D.wt, D.wts]
    show (Str.ofString "y").length + 1 + _ ≤ 33
    omega
  have d1 : (D.tup [.str "x", .str "p"]).dp = 1 := by decide +kernel
  have d2 : (D.tup [.str "y", .str z]).dp = 1 := by simp [D.dp, D.dps]
  have e : slL (.lst [.tup [.str "x", .str "p"], .tup [.str "y", .str z]]) none (some ((1 + r : Nat) : Int)) = some (.lst (([.tup [.str "x", .str "p"], .tup [.str "y", .str z]] : List D).take (1 + r))) := by
    show some (D.lst (cutD _ _ _)) = _
    rw [cutD_to]
  have : r = 0 ∨ r = 1 := by omega
  rcases this with rfl | rfl
  · refine ⟨_, e, by simp, ?_, ?_, ?_⟩
    · show D.lfs 40 [_]
      simp only [D.lfs]
      exact ⟨l1, trivial⟩
    · show D.wts [_] ≤ 39
      simp only [D.wts, w1]
      omega
    · show D.dps [_] ≤ 1
      simp only [D.dps, d1]
      omega
  · refine ⟨_, e, by simp, ?_, ?_, ?_⟩
    · show D.lfs 40 [_, _]
      simp only [D.lfs]
      exact ⟨l1, l2, trivial⟩
    · show D.wts [_, _] ≤ 39
      simp only [D.wts, w1]
      omega
    · show D.dps [_, _] ≤ 1
      simp only [D.dps, d1, d2]
      omega
theorem term_step (ft : Fn) (m : Nat) (ih : ∀ (k : Nat) (F : Fd), 0 < k → k ≤ m → k ≤ 5 → 0 ≤ F.next → Gv (Tm k) (ft [.fd, .int (k : Nat)] F)) (k : Nat) (F : Fd) (h0 : 0 < k) (h1 : k ≤ m + 1) (h2 : k ≤ 5) (hn : 0 ≤ F.next) : Gv (Tm k) (fnM 6 (m_l_term ft) [.fd, .int (k : Nat)] F) := by
  obtain ⟨r, F1, e1, hr0, hr, n1⟩ := drwI 3 (by decide) (by decide) hn
  have q0 := eq_int r 0 false
  have q1 := eq_int r 1 false
  simp only [Bool.false_eq_true, if_false] at q0 q1
  obtain ⟨K, hK⟩ : ∃ K : Int, K = ((k : Nat) : Int) := ⟨_, rfl⟩
  have lt := lt_int K 2
  have ttl' : ∀ F : Fd, 0 ≤ F.next → ∃ z F', f_l_title [.fd] F = .ok (.str z) F' ∧ 0 ≤ F'.next ∧ Tm k (.str z) := fun F hn => by
    obtain ⟨t, F2, e2, ⟨z, rfl, z1, z2⟩, n2⟩ := title_gv F hn
    exact ⟨z, F2, e2, n2, by simp only [D.lf]; exact ⟨z1, z2⟩, by simp only [D.wt]; exact Nat.le_trans z1 (wt_40 k), by simp only [D.dp]; omega⟩
  refine gv_fn fun s0 hs0 => ?_
  unfold m_l_term
  refine wpS_seq ?_
  have w1 : wpS (asgV 2 (callM 2 f_l_draw (mCons (mVar 0) (mCons (retM (.int 3)) (retM []))))) s0 { nx := fun s => s = ⟨[.val .fd, .val (.int K), .val (.int r), .un, .un, .un], F1⟩ } := by
    subst hs0
    rw [← hK]
    simp [bindM, bindS, retM, optM, m1, m2, m3, mA, mCons, mVar, mPk, mIf, seqS, ifS, asgV, callM, Sto.at, Sto.put, sto0, fnM, asB, asInt, wpS, e1]
  refine wpS_mono w1 ?_ (fun _ _ h => h.elim) (fun _ h => h.elim) (fun _ h => h.elim) (fun _ _ h => h.elim)
  rintro _ rfl
  obtain ⟨z, F2, e2, n2, tz⟩ := ttl' F1 n1
  by_cases small : K < 2
  · rw [decide_eq_true small] at lt
    simp [bindM, bindS, retM, optM, m1, m2, m3, mA, mCons, mVar, mPk, mIf, seqS, ifS, asgV, callM, Sto.at, Sto.put, sto0, fnM, asB, asInt, wpS, lt, e2, n2, tz]
  · rw [decide_eq_false small] at lt
    by_cases r0 : r = 0
    · rw [decide_eq_true r0] at q0
      simp [bindM, bindS, retM, optM, m1, m2, m3, mA, mCons, mVar, mPk, mIf, seqS, ifS, asgV, callM, Sto.at, Sto.put, sto0, fnM, asB, asInt, wpS, lt, q0, e2, n2, tz]
    · rw [decide_eq_false r0] at q0
      have k2 : 2 ≤ k := by omega
      refine wpS_seq ?_
      have w2 : wpS (ifS (mIf (bindM (m2 ltO (mPk 1) (retM (.int 2))) asB) (retM true) (bindM (m2 (eqO false) (mPk 2) (retM (.int 0))) asB)) (seqS (bindS (callM 1 f_l_title (mCons (mVar 0) (retM []))) fun d s => .rt d s) (fun s => .nx s)) (fun s => .nx s)) ⟨[.val .fd, .val (.int K), .val (.int r), .un, .un, .un], F1⟩ { nx := fun s => s = ⟨[.val .fd, .val (.int K), .val (.int r), .un, .un, .un], F1⟩ } := by
        simp [bindM, bindS, retM, optM, m1, m2, m3, mA, mCons, mVar, mPk, mIf, seqS, ifS, asgV, callM, Sto.at, Sto.put, sto0, fnM, asB, asInt, wpS, lt, q0]
      refine wpS_mono w2 ?_ (fun _ _ h => h.elim) (fun _ h => h.elim) (fun _ h => h.elim) (fun _ _ h => h.elim)
      rintro _ rfl
      obtain ⟨r2, F3, e3, hr2, n3⟩ := drw (F := F1) (n := 2) (by decide) (by decide) n1
      have e3 : f_l_draw [.fd, .int 2] F1 = .ok (.int (r2 : Int)) F3 := e3
      by_cases r1 : r = 1
      · rw [decide_eq_true r1] at q1
        have a1 : addO (.int 1) (.int (r2 : Int)) = some (.int ((1 + r2 : Nat) : Int)) := by
          rw [add_int]
          congr 2
        have rr := asR_nat (1 + r2) (by omega)
        have lr : (rngD (1 + r2)).length = 1 + r2 := by simp [rngD]
        have dv := div_2 k
        rw [← hK] at dv
        obtain ⟨ys, s', g1, ⟨F4, gs, n4⟩, g3, g4⟩ := lcGo_J (vs := [4]) (f := tgN 4) (te := callM 2 ft (mCons (mVar 0) (mCons (m2 divI (mPk 1) (retM (.int 2))) (retM [])))) (fun s => ∃ F, s = ⟨[.val .fd, .val (.int K), .val (.int r), .un, .un, .un], F⟩ ∧ 0 ≤ F.next) (Tm (k / 2)) (rngD (1 + r2)) [] ⟨[.val .fd, .val (.int K), .val (.int r), .un, .un, .un], F3⟩ (by
          rintro d hd s ⟨F, rfl, hn⟩
          obtain ⟨y, F', e, hy, n'⟩ := ih (k / 2) F (by omega) (by omega) (by omega) hn
          refine ⟨⟨[.val .fd, .val (.int K), .val (.int r), .un, .val d, .un], F⟩, y, ⟨[.val .fd, .val (.int K), .val (.int r), .un, .val d, .un], F'⟩, rfl, ?_, hy, ⟨F', rfl, n'⟩⟩
          generalize ((k / 2 : Nat) : Int) = H at *
          simp [bindM, bindS, retM, optM, m1, m2, m3, mA, mCons, mVar, mPk, mIf, seqS, ifS, asgV, callM, Sto.at, Sto.put, sto0, fnM, asB, asInt, dv, e]) (fun _ h => nomatch h) ⟨F3, rfl, n3⟩ (by rw [lr]; exact Nat.le_trans (by simp; omega : _ ≤ 100) (by decide))
        subst gs
        rw [lr] at g4
        simp at g4
        obtain ⟨a, F5, e5, ha, n5⟩ := ih (k / 2) F4 (by omega) (by omega) (by omega) n4
        have wl := wts_le (n := Wt (k / 2)) fun d hd => (g3 d hd).2.1
        have wc := wt_call k2 h2
        have yl : ys.length ≤ 2 := by omega
        have wl2 : D.wts ys ≤ 2 * (Wt (k / 2) + 1) := Nat.le_trans wl (Nat.mul_le_mul_right _ yl)
        have c4 : (Str.ofString "call").length = 4 := by decide +kernel
        have fin : Tm k (.tup [.str "call", a, .tup ys]) := by
          refine ⟨?_, ?_, ?_⟩
          · simp only [D.lf, D.lfs]
            exact ⟨⟨by decide +kernel, a7_lit' (by decide +kernel)⟩, ha.1, lfs_iff.mpr fun d hd => (g3 d hd).1, trivial⟩
          · simp only [D.wt, D.wts]
            have := ha.2.1
            show (Str.ofString "call").length + 1 + _ ≤ _
            omega
          · have d1 : D.dps ys ≤ 2 * (k / 2) := dps_le.mpr fun d hd => (g3 d hd).2.2
            have := ha.2.2
            simp only [D.dp, D.dps]
            omega
        generalize ((k / 2 : Nat) : Int) = H at *
        generalize ((1 + r2 : Nat) : Int) = R at *
        generalize (r2 : Int) = R2 at *
        generalize rngD (1 + r2) = rs at *
        simp only [mCons, callM, m2, bindM, mVar, mPk, retM, optM] at g1
        simp [bindM, bindS, retM, optM, m1, m2, m3, mA, mCons, mVar, mPk, mIf, seqS, ifS, asgV, callM, Sto.at, Sto.put, sto0, fnM, asB, asInt, wpS, asgL, lcM, Sto.wipe, q1, e3, a1, rr, g1, dv, e5, tupleO, tupO, le_line, n5, fin]
      · rw [decide_eq_false r1] at q1
        obtain ⟨t, F4, e4, ⟨j, hj, tj⟩, n4⟩ := tree_gv 10 2 F1 (by decide) (by decide) (by decide) n1
        have e4 : f_l_tree 10 [.fd, .int 2] F1 = .ok t F4 := e4
        obtain ⟨z, e5, z1, z2⟩ := spelled_gv 10 j t F4 tj (by omega) (by omega)
        obtain ⟨r3, F5, e6, hr3, n5⟩ := drw (F := F4) (n := 2) (by decide) (by decide) n4
        have e6 : f_l_draw [.fd, .int 2] F4 = .ok (.int (r3 : Int)) F5 := e6
        have a1 : addO (.int 1) (.int (r3 : Int)) = some (.int ((1 + r3 : Nat) : Int)) := by
          rw [add_int]
          congr 2
        obtain ⟨S, s1, s2, s3, s4, s5⟩ := signs_ok z (by omega) z2 r3 hr3
        have sb : subI (.int K) (.int 1) = some (.int ((k - 1 : Nat) : Int)) := by
          rw [sub_int]
          congr 2
          omega
        obtain ⟨a, F6, e7, ha, n6⟩ := ih (k - 1) F5 (by omega) (by omega) (by omega) n5
        have wc := wt_fun k2 h2
        have c3 : (Str.ofString "fun").length = 3 := by decide +kernel
        have fin : Tm k (.tup [.str "fun", .tup S, a]) := by
          refine ⟨?_, ?_, ?_⟩
          · simp only [D.lf, D.lfs]
            exact ⟨⟨by decide +kernel, a7_lit' (by decide +kernel)⟩, s3, ha.1, trivial⟩
          · simp only [D.wt, D.wts]
            have := ha.2.1
            show (Str.ofString "fun").length + 1 + _ ≤ _
            omega
          · have := ha.2.2
            simp only [D.dp, D.dps]
            omega
        generalize ((k - 1 : Nat) : Int) = H at *
        generalize ((1 + r3 : Nat) : Int) = R at *
        generalize (r3 : Int) = R2 at *
        generalize f_l_tree 10 = fr at *
        generalize f_l_spelled 10 = fs at *
        simp [bindM, bindS, retM, optM, m1, m2, m3, mA, mCons, mVar, mPk, mIf, seqS, ifS, asgV, callM, Sto.at, Sto.put, sto0, fnM, asB, asInt, wpS, asgL, q1, e4, e5, e6, a1, s1, sb, e7, tupleO, tupO, lstO, le_line, n6, fin]
theorem term_gv : ∀ (m k : Nat) (F : Fd), 0 < k → k ≤ m → k ≤ 5 → 0 ≤ F.next → Gv (Tm k) (f_l_term m [.fd, .int (k : Nat)] F)
  | 0, k, F, h0, h1, _, _ => absurd h1 (by omega)
  | m + 1, k, F, h0, h1, h2, hn => term_step (f_l_term m) m (term_gv m) k F h0 h1 h2 hn
end K01

set_option linter.all false
set_option maxRecDepth 100000
set_option maxHeartbeats 8000000
namespace K01
open PySem L2 Og Gr
theorem bind_ok {α β : Type} {m : M α} {k : α → M β} {s s1 : Sto} {a : α} (e : m s = .ok a s1) : bindM m k s = k a s1 := by
  unfold bindM
  rw [e]
theorem asR_lit (i : Int) (n : Nat) (h : i = (n : Int)) (hn : n ≤ 1000000) (s : Sto) : (bindM (retM (.int i)) asR) s = .ok (rngD n) s := by
  subst h
  exact (bind_ok (m := retM (D.int (n : Int))) (a := D.int (n : Int)) (s1 := s) rfl).trans (asR_nat n hn s)
theorem rng_len (n : Nat) : (rngD n).length = n := by simp [rngD]
theorem rng_int {n : Nat} {d : D} (h : d ∈ rngD n) : ∃ i : Int, d = .int i := by
  simp [rngD] at h
  obtain ⟨i, _, rfl⟩ := h
  exact ⟨_, rfl⟩
theorem lcM_J {vs : List Nat} {f : D → Sto → Option Sto} {te : M D} {m : M (List D)} {s : Sto} {ds : List D} (hm : m s = .ok ds s) (J : Sto → Prop) (Q : D → Prop) (h : ∀ d ∈ ds, ∀ s, J s → ∃ s1 y s3, f d s = some s1 ∧ te s1 = .ok y s3 ∧ Q y ∧ J (s3.wipe vs)) (hj : J (s.wipe vs)) (hl : ds.length ≤ sizeLine) : ∃ ys s', lcM vs f (retM true) te m s = .ok (.lst ys) s' ∧ J s' ∧ (∀ y ∈ ys, Q y) ∧ ys.length = ds.length := by
  obtain ⟨ys, s', e, j, q, l⟩ := lcGo_J J Q ds [] (s.wipe vs) h (fun _ h => nomatch h) hj (by simpa using hl)
  refine ⟨ys, s', ?_, j, q, by simpa using l⟩
  unfold lcM bindM
  rw [hm]
  dsimp only
  rw [e]
theorem wpS_asgL {i : Nat} {m : M D} {s : Sto} {E : Fs} (h : wp m s (fun d s1 => ∃ ds, d = .lst ds ∧ E.nx (s1.put i (.own ds))) E.xc) : wpS (asgL i m) s E := wpS_bind (wp_mono h fun d s1 ⟨ds, e, h⟩ => by
  subst e
  exact h)
theorem ok_bd {T n k : Nat} {d : D} (h : Bd T n k d) (h1 : T ≤ 390) (h2 : n ≤ 3900) (h3 : k ≤ 23) : Ok d := ⟨lf_mono h1 h.lf, Nat.le_trans h.wt h2, Nat.le_trans h.dp h3⟩
theorem app_ok {L es : List D} (h : ∀ d ∈ L, Ok d) (h2 : ∀ d ∈ es, Ok d) : ∀ d ∈ L ++ es, Ok d := fun d hd => by
  rcases List.mem_append.mp hd with q | q
  · exact h d q
  · exact h2 d q
/-- the store of the law, its last eight slots R -/
def LD (c l : Nat) (s : Sto) : Prop := ∃ (L : List D) (x0 x4 : SV) (R : List SV) (z : Str) (F : Fd), s = ⟨x0 :: .val .fd :: .own L :: .val (.str z) :: x4 :: R, F⟩ ∧ R.length = 8 ∧ 0 ≤ F.next ∧ L.length ≤ c ∧ (∀ d ∈ L, Ok d) ∧ z.length ≤ l ∧ A7 z
def LD0 (s : Sto) : Prop := ∃ (x0 x2 x3 x4 : SV) (R : List SV) (F : Fd), s = ⟨x0 :: .val .fd :: x2 :: x3 :: x4 :: R, F⟩ ∧ R.length = 8 ∧ 0 ≤ F.next
theorem p_7 : A7 "p" := a7_lit' (by decide +kernel)
theorem law_a (s : Sto) (hs : LD0 (s.wipe [4])) (E : Fs) (hE : ∀ t, LD 16 1 t → E.nx t) : wpS (parLS 2 3 (mCons (lcM [4] (tgN 4) (retM true) (callM 1 f_l_strange (mCons (mVar 1) (retM []))) (bindM (retM (.int 16)) asR)) (mCons (retM (.str "p")) (retM [])))) s E := by
  obtain ⟨ys, s1, e1, ⟨x0, x2, x3, x4, R, F, rfl, hR, hn⟩, q, l⟩ := lcM_J (vs := [4]) (f := tgN 4) (te := callM 1 f_l_strange (mCons (mVar 1) (retM []))) (asR_lit 16 16 rfl (by decide) s) LD0 Ok (by
    rintro d hd s ⟨x0, x2, x3, x4, R, F, rfl, hR, hn⟩
    obtain ⟨y, F', e, b, n'⟩ := strange_gv F hn
    refine ⟨⟨x0 :: .val .fd :: x2 :: x3 :: .val d :: R, F⟩, y, ⟨x0 :: .val .fd :: x2 :: x3 :: .val d :: R, F'⟩, rfl, ?_, ok_bd b (by decide) (by decide) (by decide), ⟨x0, x2, x3, .un, R, F', rfl, hR, n'⟩⟩
    simp [bindM, bindS, retM, optM, m1, m2, m3, mA, mCons, mVar, mPk, mIf, seqS, ifS, asgV, callM, Sto.at, Sto.put, sto0, fnM, asB, asInt, e]) hs (by rw [rng_len]; decide)
  rw [rng_len] at l
  have pl : (Str.ofString "p").length = 1 := by decide +kernel
  have nx := hE ⟨x0 :: .val .fd :: .own ys :: .val (.str "p") :: x4 :: R, F⟩ ⟨ys, x0, x4, R, "p", F, rfl, hR, hn, by omega, q, by show (Str.ofString "p").length ≤ 1; omega, p_7⟩
  generalize (lcM [4] (tgN 4) (retM true) (callM 1 f_l_strange (mCons (mVar 1) (retM []))) (bindM (retM (.int 16)) asR)) = te at *
  simp [bindM, bindS, retM, optM, m1, m2, m3, mA, mCons, mVar, mPk, mIf, seqS, ifS, asgV, callM, Sto.at, Sto.put, sto0, fnM, asB, asInt, wpS, parLS, e1, nx]
def LB (c l : Nat) (rest : List D) (s : Sto) : Prop := LD c (l - 7 * rest.length) s ∧ 7 * rest.length ≤ l ∧ ∀ d ∈ rest, ∃ i : Int, d = .int i
theorem open_7 : A7 "(" := a7_lit' (by decide +kernel)
theorem close_7 : A7 ") -> q" := a7_lit' (by decide +kernel)
theorem pq_7 : A7 "p -> q" := a7_lit' (by decide +kernel)
theorem cl_7 : A7 ")" := a7_lit' (by decide +kernel)
theorem law_b1 (c l : Nat) (hl : l ≤ 300) (d : D) (ds : List D) (t : Sto) (hs : LB c l (d :: ds) t) : ∃ t1, tgN 4 d t = some t1 ∧ wpS (seqS (asgV 3 (mIf (bindM (m2 gtO (mPk 4) (retM (.int 0))) asB) (m2 addO (m2 addO (retM (.str "(")) (mPk 3)) (retM (.str ") -> q"))) (retM (.str "p -> q")))) (fun s => .nx s)) t1 { nx := LB c l ds } := by
  obtain ⟨⟨L, x0, x4, R, z, F, rfl, hR, hn, hc, hL, hz, h7⟩, h8, hi⟩ := hs
  obtain ⟨i, rfl⟩ := hi d (by simp)
  rw [List.length_cons] at hz h8
  refine ⟨_, rfl, ?_⟩
  have g := gt_int i 0
  have o1 : (Str.ofString "(").length = 1 := by decide +kernel
  have o2 : (Str.ofString ") -> q").length = 6 := by decide +kernel
  have o3 : (Str.ofString "p -> q").length = 6 := by decide +kernel
  have hi2 : ∀ d ∈ ds, ∃ i : Int, d = .int i := fun d hd => hi d (by simp [hd])
  by_cases p : 0 < i
  · rw [decide_eq_true p] at g
    have a1 : addO (.str "(") (.str z) = some (.str ("(" ++ z)) := add_str (by show (Str.ofString "(").length + _ ≤ _; omega)
    have l1 : (("(" : Str) ++ z).length = 1 + z.length := by rw [str_len]; show (Str.ofString "(").length + _ = _; omega
    have a2 : addO (.str ("(" ++ z)) (.str ") -> q") = some (.str ("(" ++ z ++ ") -> q")) := add_str (by show _ + (Str.ofString ") -> q").length ≤ _; omega)
    have l2 : (("(" : Str) ++ z ++ ") -> q").length = 7 + z.length := by rw [str_len, l1]; show _ + (Str.ofString ") -> q").length = _; omega
    have nx : LB c l ds ⟨x0 :: .val .fd :: .own L :: .val (.str ("(" ++ z ++ ") -> q")) :: .val (.int i) :: R, F⟩ := ⟨⟨L, x0, _, R, _, F, rfl, hR, hn, hc, hL, by omega, a7_app (a7_app open_7 h7) close_7⟩, by omega, hi2⟩
    simp [bindM, bindS, retM, optM, m1, m2, m3, mA, mCons, mVar, mPk, mIf, seqS, ifS, asgV, callM, Sto.at, Sto.put, sto0, fnM, asB, asInt, wpS, g, a1, a2, nx]
  · rw [decide_eq_false p] at g
    have nx : LB c l ds ⟨x0 :: .val .fd :: .own L :: .val (.str "p -> q") :: .val (.int i) :: R, F⟩ := ⟨⟨L, x0, _, R, _, F, rfl, hR, hn, hc, hL, by show (Str.ofString "p -> q").length ≤ _; omega, pq_7⟩, by omega, hi2⟩
    simp [bindM, bindS, retM, optM, m1, m2, m3, mA, mCons, mVar, mPk, mIf, seqS, ifS, asgV, callM, Sto.at, Sto.put, sto0, fnM, asB, asInt, wpS, g, nx]
end K01

set_option linter.all false
set_option maxRecDepth 100000
set_option maxHeartbeats 8000000
namespace K01
open PySem L2 Og Gr
theorem law_b (c : Nat) (s : Sto) (hs : LD c 1 s) (E : Fs) (hE : ∀ t, LD c 281 t → E.nx t) : wpS (mFor (tgN 4) (bindM (m2 addO (retM (.int 1)) (callM 2 f_l_draw (mCons (mVar 1) (mCons (retM (.int 40)) (retM []))))) asR) (seqS (asgV 3 (mIf (bindM (m2 gtO (mPk 4) (retM (.int 0))) asB) (m2 addO (m2 addO (retM (.str "(")) (mPk 3)) (retM (.str ") -> q"))) (retM (.str "p -> q")))) (fun s => .nx s))) s E := by
  obtain ⟨L, x0, x4, R, z, F, rfl, hR, hn, hc, hL, hz, h7⟩ := hs
  obtain ⟨r, F1, e1, hr, n1⟩ := drw (F := F) (n := 40) (by decide) (by decide) hn
  have e1 : f_l_draw [.fd, .int 40] F = .ok (.int (r : Int)) F1 := e1
  have a1 : addO (.int 1) (.int (r : Int)) = some (.int ((1 + r : Nat) : Int)) := by
    rw [add_int]
    congr 2
  have rr := asR_nat (1 + r) (by omega)
  have it : (bindM (m2 addO (retM (.int 1)) (callM 2 f_l_draw (mCons (mVar 1) (mCons (retM (.int 40)) (retM []))))) asR) (⟨x0 :: .val .fd :: .own L :: .val (.str z) :: x4 :: R, F⟩ : Sto) = .ok (rngD (1 + r)) ⟨x0 :: .val .fd :: .own L :: .val (.str z) :: x4 :: R, F1⟩ := by
    generalize ((1 + r : Nat) : Int) = M at *
    generalize (r : Int) = R2 at *
    generalize rngD (1 + r) = rs at *
    simp [bindM, bindS, retM, optM, m1, m2, m3, mA, mCons, mVar, mPk, mIf, seqS, ifS, asgV, callM, Sto.at, Sto.put, sto0, fnM, asB, asInt, e1, a1, rr]
  refine wpS_bind (wp_eq it ?_)
  have go := wpS_for (f := tgN 4) (E := { E with nx := LD c 281 }) (b := seqS (asgV 3 (mIf (bindM (m2 gtO (mPk 4) (retM (.int 0))) asB) (m2 addO (m2 addO (retM (.str "(")) (mPk 3)) (retM (.str ") -> q"))) (retM (.str "p -> q")))) (fun s => .nx s)) (LB c 281) (fun t h => by
    obtain ⟨h1, _, _⟩ := h
    simpa using h1) (fun d ds t h => by
    obtain ⟨t1, g1, g2⟩ := law_b1 c 281 (by omega) d ds t h
    exact ⟨t1, g1, wpS_mono g2 (fun _ h => h) (fun _ _ h => h.elim) (fun _ h => h.elim) (fun _ h => h.elim) (fun _ _ h => h.elim)⟩) (rngD (1 + r)) ⟨x0 :: .val .fd :: .own L :: .val (.str z) :: x4 :: R, F1⟩ ⟨⟨L, x0, x4, R, z, F1, rfl, hR, n1, hc, hL, by rw [rng_len]; omega, h7⟩, by rw [rng_len]; omega, fun d hd => rng_int hd⟩
  exact wpS_mono go hE (fun _ _ h => h) (fun _ h => h) (fun _ h => h) (fun _ _ h => h)
theorem ok_str {z : Str} (h : z.length ≤ 390) (h7 : A7 z) : Ok (.str z) := ⟨by simp only [D.lf]; exact ⟨h, h7⟩, by simp only [D.wt]; omega, by simp only [D.dp]; omega⟩
theorem cut_any (z : Str) (lo hi : Option Int) : ∃ a b, sg (cutS z lo hi) = ((sg z).drop a).take b := ⟨_, _, by
  unfold cutS
  simp [sg]
  rfl⟩
theorem cut_bd {z : Str} (h7 : A7 z) (lo hi : Option Int) : (cutS z lo hi).length ≤ z.length ∧ A7 (cutS z lo hi) := by
  obtain ⟨a, b, e⟩ := cut_any z lo hi
  refine ⟨?_, fun c hc => h7 c ?_⟩
  · rw [len_sg, len_sg, e]
    simp
    omega
  · have hc : c ∈ sg (cutS z lo hi) := hc
    rw [e] at hc
    exact List.mem_of_mem_drop (List.mem_of_mem_take hc)
theorem long_ok : Ok (.str "abcdefgh -> abcdefghi") := ok_str (by decide +kernel) (a7_lit' (by decide +kernel))
theorem four_ok : [D.tup [D.str "fun", D.tup [D.tup [D.str "x", D.str "p"], D.tup [D.str "x", D.str "q"]], D.str "x"], D.tup [D.str "call", D.str "a", D.tup []], D.tup [D.str "call", D.str "a", D.lst [D.str "a"]], D.tup [D.str "f", D.lst [D.tup [D.int 0, D.tup []]]]].all (bdb 390 3900 23) = true := by decide +kernel
theorem two_ok {z : Str} (h : z.length ≤ 300) (h7 : A7 z) : Ok (.lst [.str z]) ∧ Ok (.tup [.str "p", .str z]) := by
  have pl : (Str.ofString "p").length = 1 := by decide +kernel
  refine ⟨⟨?_, ?_, ?_⟩, ⟨?_, ?_, ?_⟩⟩
  · simp only [D.lf, D.lfs]
    exact ⟨⟨by omega, h7⟩, trivial⟩
  · simp only [D.wt, D.wts]
    omega
  · simp only [D.dp, D.dps]
    omega
  · simp only [D.lf, D.lfs]
    exact ⟨⟨by show (Str.ofString "p").length ≤ _; omega, p_7⟩, ⟨by omega, h7⟩, trivial⟩
  · simp only [D.wt, D.wts]
    show (Str.ofString "p").length + 1 + _ ≤ _
    omega
  · simp only [D.dp, D.dps]
    omega
theorem line_c {n : Nat} (h : n ≤ 900) : (n ≤ sizeLine) = True := eq_true (Nat.le_trans h (by decide))
theorem law_c (c : Nat) (hc0 : c ≤ 300) (s : Sto) (hs : LD c 281 s) (E : Fs) (hE : ∀ t, LD (c + 6) 281 t → E.nx t) : wpS (extS 2 (bindM (mCons (mVar 3) (mCons (m3 slO (mPk 3) (retM none) (bindM (m1 negO (retM (.int 1))) asInt)) (mCons (m2 addO (m2 addO (retM (.str "(")) (mPk 3)) (retM (.str ")"))) (mCons (bindM (mCons (mVar 3) (retM [])) fun ds => optM (lstO ds)) (mCons (bindM (mCons (retM (.str "p")) (mCons (mVar 3) (retM []))) fun ds => optM (tupO ds)) (mCons (retM (.str "abcdefgh -> abcdefghi")) (retM []))))))) fun ds => optM (lstO ds))) s E := by
  obtain ⟨L, x0, x4, R, z, F, rfl, hR, hn, hc, hL, hz, h7⟩ := hs
  have o1 : (Str.ofString "(").length = 1 := by decide +kernel
  have o2 : (Str.ofString ")").length = 1 := by decide +kernel
  have a1 : addO (.str "(") (.str z) = some (.str ("(" ++ z)) := add_str (by show (Str.ofString "(").length + _ ≤ _; omega)
  have l1 : (("(" : Str) ++ z).length = 1 + z.length := by rw [str_len]; show (Str.ofString "(").length + _ = _; omega
  have a2 : addO (.str ("(" ++ z)) (.str ")") = some (.str ("(" ++ z ++ ")")) := add_str (by show _ + (Str.ofString ")").length ≤ _; omega)
  have l2 : (("(" : Str) ++ z ++ ")").length = 2 + z.length := by rw [str_len, l1]; show _ + (Str.ofString ")").length = _; omega
  have ng : negO (.int 1) = some (.int (-1)) := rfl
  have hz2 : z.length ≤ sizeLine := Nat.le_trans (show _ ≤ 300 by omega) (by decide)
  have sl : slO (.str z) none (some (-1)) = some (.str (cutS z none (some (-1)))) := by
    show (if _ then _ else _) = _
    rw [if_pos hz2]
  obtain ⟨c1, c2⟩ := cut_bd h7 none (some (-1))
  obtain ⟨k1, k2⟩ := two_ok (by omega) h7
  have l7 : (L.length + 6 ≤ sizeLine) = True := line_c (by omega)
  have nx := hE ⟨x0 :: .val .fd :: .own (L ++ [.str z, .str (cutS z none (some (-1))), .str ("(" ++ z ++ ")"), .lst [.str z], .tup [.str "p", .str z], .str "abcdefgh -> abcdefghi"]) :: .val (.str z) :: x4 :: R, F⟩ ⟨_, x0, x4, R, z, F, rfl, hR, hn, by simp; omega, app_ok hL (fun d hd => by
    simp at hd
    rcases hd with rfl | rfl | rfl | rfl | rfl | rfl
    · exact ok_str (by omega) h7
    · exact ok_str (by omega) c2
    · exact ok_str (by omega) (a7_app (a7_app open_7 h7) cl_7)
    · exact k1
    · exact k2
    · exact long_ok), hz, h7⟩
  generalize cutS z none (some (-1)) = C at *
  simp [bindM, bindS, retM, optM, m1, m2, m3, mA, mCons, mVar, mPk, mIf, seqS, ifS, asgV, callM, Sto.at, Sto.put, sto0, fnM, asB, asInt, wpS, extS, lstO, tupO, le_line, a1, a2, ng, sl, l7, nx]
theorem law_d (c : Nat) (hc0 : c ≤ 300) (s : Sto) (hs : LD c 281 s) (E : Fs) (hE : ∀ t, LD (c + 4) 281 t → E.nx t) : wpS (extS 2 (bindM (mCons (bindM (mCons (retM (.str "fun")) (mCons (bindM (mCons (bindM (mCons (retM (.str "x")) (mCons (retM (.str "p")) (retM []))) fun ds => optM (tupO ds)) (mCons (bindM (mCons (retM (.str "x")) (mCons (retM (.str "q")) (retM []))) fun ds => optM (tupO ds)) (retM []))) fun ds => optM (tupO ds)) (mCons (retM (.str "x")) (retM [])))) fun ds => optM (tupO ds)) (mCons (bindM (mCons (retM (.str "call")) (mCons (retM (.str "a")) (mCons (bindM (retM []) fun ds => optM (tupO ds)) (retM [])))) fun ds => optM (tupO ds)) (mCons (bindM (mCons (retM (.str "call")) (mCons (retM (.str "a")) (mCons (bindM (mCons (retM (.str "a")) (retM [])) fun ds => optM (lstO ds)) (retM [])))) fun ds => optM (tupO ds)) (mCons (bindM (mCons (retM (.str "f")) (mCons (bindM (mCons (bindM (mCons (retM (.int 0)) (mCons (bindM (retM []) fun ds => optM (tupO ds)) (retM []))) fun ds => optM (tupO ds)) (retM [])) fun ds => optM (lstO ds)) (retM []))) fun ds => optM (tupO ds)) (retM []))))) fun ds => optM (lstO ds))) s E := by
  obtain ⟨L, x0, x4, R, z, F, rfl, hR, hn, hc, hL, hz, h7⟩ := hs
  have l7 : (L.length + 4 ≤ sizeLine) = True := line_c (by omega)
  have nx := hE ⟨x0 :: .val .fd :: .own (L ++ [D.tup [D.str "fun", D.tup [D.tup [D.str "x", D.str "p"], D.tup [D.str "x", D.str "q"]], D.str "x"], D.tup [D.str "call", D.str "a", D.tup []], D.tup [D.str "call", D.str "a", D.lst [D.str "a"]], D.tup [D.str "f", D.lst [D.tup [D.int 0, D.tup []]]]]) :: .val (.str z) :: x4 :: R, F⟩ ⟨_, x0, x4, R, z, F, rfl, hR, hn, by simp; omega, app_ok hL (fun d hd => by
    have := bdb_bd (List.all_eq_true.mp four_ok d hd)
    exact ok_bd this (by decide) (by decide) (by decide)), hz, h7⟩
  simp [bindM, bindS, retM, optM, m1, m2, m3, mA, mCons, mVar, mPk, mIf, seqS, ifS, asgV, callM, Sto.at, Sto.put, sto0, fnM, asB, asInt, wpS, extS, lstO, tupO, le_line, l7, nx]
end K01

set_option linter.all false
set_option maxRecDepth 100000
set_option maxHeartbeats 8000000
namespace K01
open PySem L2 Og Gr
theorem size_pk {F : Fd} (hn : 0 ≤ F.next) : ∃ k : Nat, 0 < k ∧ k ≤ 9 ∧ pkD F [.int 1, .int 2, .int 3, .int 5, .int 9] = .int (k : Nat) := by
  have hm := pkD_mem (F := F) (ds := [.int 1, .int 2, .int 3, .int 5, .int 9]) (by simp) hn
  generalize pkD F _ = d at *
  simp at hm
  rcases hm with h | h | h | h | h <;> subst h
  · exact ⟨1, by decide, by decide, rfl⟩
  · exact ⟨2, by decide, by decide, rfl⟩
  · exact ⟨3, by decide, by decide, rfl⟩
  · exact ⟨5, by decide, by decide, rfl⟩
  · exact ⟨9, by decide, by decide, rfl⟩
def T9 (d : D) : Prop := ∃ j, j ≤ 9 ∧ Tr j d
theorem law_e1 (ft : Fn) (ih : ∀ (k : Nat) (F : Fd), 0 < k → k ≤ 9 → 0 ≤ F.next → Gv T9 (ft [.fd, .int (k : Nat)] F)) (x0 x2 x3 x4 x5 x6 x7 x8 x9 x10 x12 : SV) (F : Fd) (hn : 0 ≤ F.next) (s : Sto) (hs : s.wipe [11] = ⟨[x0, .val .fd, x2, x3, x4, x5, x6, x7, x8, x9, x10, .un, x12], F⟩) : ∃ ts F', lcM [11] (tgN 11) (retM true) (callM 2 ft (mCons (mVar 1) (mCons (callM 2 f_l_pick (mCons (mVar 1) (mCons (bindM (mCons (retM (.int 1)) (mCons (retM (.int 2)) (mCons (retM (.int 3)) (mCons (retM (.int 5)) (mCons (retM (.int 9)) (retM [])))))) fun ds => optM (lstO ds)) (retM [])))) (retM [])))) (bindM (retM (.int 3)) asR) s = .ok (.lst ts) ⟨[x0, .val .fd, x2, x3, x4, x5, x6, x7, x8, x9, x10, .un, x12], F'⟩ ∧ 0 ≤ F'.next ∧ (∀ t ∈ ts, T9 t) ∧ ts.length = 3 := by
  obtain ⟨ys, s', e, ⟨F2, rfl, n2⟩, q, l⟩ := lcM_J (vs := [11]) (f := tgN 11) (te := callM 2 ft (mCons (mVar 1) (mCons (callM 2 f_l_pick (mCons (mVar 1) (mCons (bindM (mCons (retM (.int 1)) (mCons (retM (.int 2)) (mCons (retM (.int 3)) (mCons (retM (.int 5)) (mCons (retM (.int 9)) (retM [])))))) fun ds => optM (lstO ds)) (retM [])))) (retM [])))) (asR_lit 3 3 rfl (by decide) s) (fun s => ∃ F, s = ⟨[x0, .val .fd, x2, x3, x4, x5, x6, x7, x8, x9, x10, .un, x12], F⟩ ∧ 0 ≤ F.next) T9 (by
    rintro d hd s ⟨F, rfl, hn⟩
    have pl := pick_lst (F := F) (ds := [.int 1, .int 2, .int 3, .int 5, .int 9]) (by simp) (by simp) hn
    have pn := pkF_next (n := 5) (by decide) hn
    obtain ⟨k, k1, k2, hk⟩ := size_pk hn
    have pl2 : ([.int 1, .int 2, .int 3, .int 5, .int 9] : List D).length = 5 := rfl
    rw [pl2, hk] at pl
    obtain ⟨y, F', e, j2, n'⟩ := ih k (pkF F 5) k1 k2 pn
    refine ⟨⟨[x0, .val .fd, x2, x3, x4, x5, x6, x7, x8, x9, x10, .val d, x12], F⟩, y, ⟨[x0, .val .fd, x2, x3, x4, x5, x6, x7, x8, x9, x10, .val d, x12], F'⟩, rfl, ?_, j2, ⟨F', rfl, n'⟩⟩
    generalize ((k : Nat) : Int) = K at *
    simp [bindM, bindS, retM, optM, m1, m2, m3, mA, mCons, mVar, mPk, mIf, seqS, ifS, asgV, callM, Sto.at, Sto.put, sto0, fnM, asB, asInt, lstO, le_line, pl, e]) ⟨F, hs, hn⟩ (by rw [rng_len]; decide)
  rw [rng_len] at l
  exact ⟨ys, F2, e, n2, q, l⟩
def K9 (z : Str) : Prop := z.length ≤ 156 ∧ A7 z
theorem tree_t9 (k : Nat) (F : Fd) (h1 : 0 < k) (h2 : k ≤ 9) (hn : 0 ≤ F.next) : Gv T9 (f_l_tree 10 [.fd, .int (k : Nat)] F) := gv_mono (tree_gv 10 k F h1 (by omega) (by omega) hn) fun d ⟨j, j1, j2⟩ => ⟨j, by omega, j2⟩
theorem spelled_k9 (d : D) (F : Fd) (h : T9 d) : ∃ z, f_l_spelled 10 [d] F = .ok (.str z) F ∧ K9 z := by
  obtain ⟨j, j1, j2⟩ := h
  obtain ⟨z, e, z1, z2⟩ := spelled_gv 10 j d F j2 (by omega) (by omega)
  exact ⟨z, e, by omega, z2⟩
theorem ded_le : ∀ xs : List Str, (dedS xs).length ≤ xs.length
  | [] => by simp [dedS]
  | x :: xs => by
    have := ded_le xs
    unfold dedS
    split
    · simp
      omega
    · simp
      omega
theorem law_e2 (fs : Fn) (ih : ∀ (d : D) (F : Fd), T9 d → ∃ z, fs [d] F = .ok (.str z) F ∧ K9 z) (x0 x2 x3 x4 x6 x7 x8 x9 x10 x11 x12 : SV) (ts : List D) (F : Fd) (ht : ∀ t ∈ ts, T9 t) (hl : ts.length = 3) : ∃ ks : List Str, m1 uniqO (lcM [12] (tgN 12) (retM true) (callM 1 fs (mCons (mVar 12) (retM []))) (bindM (mVar 5) asL)) ⟨[x0, .val .fd, x2, x3, x4, .own ts, x6, x7, x8, x9, x10, x11, x12], F⟩ = .ok (.lst (ks.map D.str)) ⟨[x0, .val .fd, x2, x3, x4, .val (.lst ts), x6, x7, x8, x9, x10, x11, .un], F⟩ ∧ 1 ≤ ks.length ∧ ks.length ≤ 3 ∧ ∀ z ∈ ks, K9 z := by
  have hm : (bindM (mVar 5) asL) (⟨[x0, .val .fd, x2, x3, x4, .own ts, x6, x7, x8, x9, x10, x11, x12], F⟩ : Sto) = .ok ts ⟨[x0, .val .fd, x2, x3, x4, .val (.lst ts), x6, x7, x8, x9, x10, x11, x12], F⟩ := rfl
  obtain ⟨ys, s', e, j, q, l⟩ := lcGo_J (vs := [12]) (f := tgN 12) (te := callM 1 fs (mCons (mVar 12) (retM []))) (fun s => s = ⟨[x0, .val .fd, x2, x3, x4, .val (.lst ts), x6, x7, x8, x9, x10, x11, .un], F⟩) (Tx 156) ts [] ⟨[x0, .val .fd, x2, x3, x4, .val (.lst ts), x6, x7, x8, x9, x10, x11, .un], F⟩ (by
    rintro d hd s rfl
    obtain ⟨z, e, z1, z2⟩ := ih d F (ht d hd)
    refine ⟨⟨[x0, .val .fd, x2, x3, x4, .val (.lst ts), x6, x7, x8, x9, x10, x11, .val d], F⟩, .str z, ⟨[x0, .val .fd, x2, x3, x4, .val (.lst ts), x6, x7, x8, x9, x10, x11, .val d], F⟩, rfl, ?_, ⟨z, rfl, z1, z2⟩, rfl⟩
    simp [bindM, bindS, retM, optM, m1, m2, m3, mA, mCons, mVar, mPk, mIf, seqS, ifS, asgV, callM, Sto.at, Sto.put, sto0, fnM, asB, asInt, e]) (fun _ h => nomatch h) rfl (by rw [hl]; decide)
  subst j
  obtain ⟨zs, h1, h2, h3⟩ := strs_of q
  have lz : zs.length = 3 := by
    simp at l
    omega
  have ul := uniqS_len zs
  have dl := ded_le zs
  refine ⟨uniqS zs, ?_, ?_, by omega, fun z hz => h3 z (uniqS_mem.mp hz)⟩
  · have u : uniqO (.lst ys) = some (.lst ((uniqS zs).map D.str)) := by
      unfold uniqO
      have : textsO (.lst ys) = some zs := h1
      rw [this]
      simp [lz]
    have lc : lcM [12] (tgN 12) (retM true) (callM 1 fs (mCons (mVar 12) (retM []))) (bindM (mVar 5) asL) ⟨[x0, .val .fd, x2, x3, x4, .own ts, x6, x7, x8, x9, x10, x11, x12], F⟩ = .ok (.lst ys) ⟨[x0, .val .fd, x2, x3, x4, .val (.lst ts), x6, x7, x8, x9, x10, x11, .un], F⟩ := by
      unfold lcM
      rw [bind_ok hm]
      have w : (⟨[x0, .val .fd, x2, x3, x4, .val (.lst ts), x6, x7, x8, x9, x10, x11, x12], F⟩ : Sto).wipe [12] = ⟨[x0, .val .fd, x2, x3, x4, .val (.lst ts), x6, x7, x8, x9, x10, x11, .un], F⟩ := rfl
      rw [w, e]
    unfold m1
    rw [bind_ok lc, u]
    rfl
  · cases zs with
    | nil => simp at lz
    | cons z zs =>
      have : z ∈ uniqS (z :: zs) := uniqS_mem.mpr List.mem_cons_self
      exact List.length_pos_of_mem this
end K01

set_option linter.all false
set_option maxRecDepth 100000
set_option maxHeartbeats 8000000
namespace K01
open PySem L2 Og Gr
abbrev Sm (d : D) : Prop := Bd 160 800 13 d
abbrev Sm2 (d : D) : Prop := Bd 165 1820 18 d
theorem spoil1 (d : D) (F : Fd) (h : Sm d) (hn : 0 ≤ F.next) : Gv Sm2 (f_l_spoilt 40 [.fd, d] F) := gv_mono (spoilt_gv 40 d 160 800 13 F h (by have := h.dp; omega) (by omega) (by omega) (by omega) (by omega) hn) fun d b => b.mono (by omega) (by omega) (by omega)
theorem spoil2 (d : D) (F : Fd) (h : Sm2 d) (hn : 0 ≤ F.next) : Gv Ok (f_l_spoilt 40 [.fd, d] F) := gv_mono (spoilt_gv 40 d 165 1820 18 F h (by have := h.dp; omega) (by omega) (by omega) (by omega) (by omega) hn) fun d b => ok_bd b (by omega) (by omega) (by omega)
def LJ (c : Nat) (rest : List D) (s : Sto) : Prop := ∃ (L : List D) (x0 x3 x4 x5 x6 x7 x8 x9 x10 x11 x12 : SV) (F : Fd), s = ⟨[x0, .val .fd, .own L, x3, x4, x5, x6, x7, x8, x9, x10, x11, x12], F⟩ ∧ 0 ≤ F.next ∧ L.length + 3 * rest.length ≤ c ∧ (∀ d ∈ L, Ok d) ∧ ∀ d ∈ rest, Sm d
theorem ok_sm {d : D} (h : Sm d) : Ok d := ok_bd h (by omega) (by omega) (by omega)
theorem ok_sm2 {d : D} (h : Sm2 d) : Ok d := ok_bd h (by omega) (by omega) (by omega)
theorem one_ok {L : List D} {d : D} (h : ∀ d ∈ L, Ok d) (hd : Ok d) : ∀ x ∈ L ++ [d], Ok x := app_ok h fun x hx => by
  simp at hx
  rw [hx]
  exact hd
theorem lt_line3 {n : Nat} (h : n ≤ 300) : n < sizeLine := Nat.lt_of_le_of_lt h (by decide)
theorem law_i (fsp : Fn) (h1 : ∀ (d : D) (F : Fd), Sm d → 0 ≤ F.next → Gv Sm2 (fsp [.fd, d] F)) (h2 : ∀ (d : D) (F : Fd), Sm2 d → 0 ≤ F.next → Gv Ok (fsp [.fd, d] F)) (c : Nat) (hc : c ≤ 290) (d : D) (rest : List D) (s : Sto) (hs : LJ c (d :: rest) s) : ∃ t1, tgN 10 d s = some t1 ∧ wpS (seqS (appS 2 (mVar 10)) (seqS (appS 2 (callM 2 fsp (mCons (mVar 1) (mCons (mVar 10) (retM []))))) (seqS (appS 2 (callM 2 fsp (mCons (mVar 1) (mCons (callM 2 fsp (mCons (mVar 1) (mCons (mVar 10) (retM [])))) (retM []))))) (fun s => .nx s)))) t1 { nx := LJ c rest } := by
  obtain ⟨L, x0, x3, x4, x5, x6, x7, x8, x9, x10, x11, x12, F, rfl, hn, hl, hL, hr⟩ := hs
  refine ⟨_, rfl, ?_⟩
  rw [List.length_cons] at hl
  have sd := hr d (by simp)
  obtain ⟨a, F1, e1, ba, n1⟩ := h1 d F sd hn
  obtain ⟨b, F2, e2, bb, n2⟩ := h1 d F1 sd n1
  obtain ⟨q, F3, e3, bq, n3⟩ := h2 b F2 bb n2
  have l1 := lt_line3 (n := L.length) (by omega)
  have l2 := lt_line3 (n := L.length + 1) (by omega)
  have l3 := lt_line3 (n := L.length + 1 + 1) (by omega)
  have nx : LJ c rest ⟨[x0, .val .fd, .own (L ++ [d] ++ [a] ++ [q]), x3, x4, x5, x6, x7, x8, x9, .val d, x11, x12], F3⟩ := ⟨_, x0, x3, x4, x5, x6, x7, x8, x9, _, x11, x12, F3, rfl, n3, by simp; omega, one_ok (one_ok (one_ok hL (ok_sm sd)) (ok_sm2 ba)) bq, fun x hx => hr x (by simp [hx])⟩
  simp only [List.append_assoc, List.cons_append, List.nil_append] at nx
  simp [bindM, bindS, retM, optM, m1, m2, m3, mA, mCons, mVar, mPk, mIf, seqS, ifS, asgV, callM, Sto.at, Sto.put, sto0, fnM, asB, asInt, wpS, appS, e1, e2, e3, l1, l2, l3, nx]
end K01

set_option linter.all false
set_option maxRecDepth 100000
set_option maxHeartbeats 8000000
namespace K01
open PySem L2 Og Gr
theorem bd_str {z : Str} {T : Nat} (h : z.length ≤ T) (h7 : A7 z) : Bd T T 0 (.str z) := ⟨by simp only [D.lf]; exact ⟨h, h7⟩, by simp only [D.wt]; exact h, by simp only [D.dp]; omega⟩
theorem bd_pair {a b : D} {T n m k : Nat} (h1 : Bd T n k a) (h2 : Bd T m k b) : Bd T (n + m + 2) (k + 1) (.tup [a, b]) := by
  refine ⟨?_, ?_, ?_⟩
  · simp only [D.lf, D.lfs]
    exact ⟨h1.lf, h2.lf, trivial⟩
  · have := h1.wt
    have := h2.wt
    simp only [D.wt, D.wts]
    omega
  · have := h1.dp
    have := h2.dp
    simp only [D.dp, D.dps]
    omega
theorem kinds_bd {Z : List D} {ks : List Str} (hZ : Z = ks.map D.str) (hl : ks.length ≤ 3) (hk : ∀ z ∈ ks, K9 z) : Bd 156 471 1 (.tup Z) := by
  have h : ∀ d ∈ Z, Bd 156 156 0 d := fun d hd => by
    rw [hZ] at hd
    obtain ⟨z, hz, rfl⟩ := List.mem_map.mp hd
    exact bd_str (hk z hz).1 (hk z hz).2
  have w := wts_le (n := 156) fun d hd => (h d hd).wt
  have lz : Z.length ≤ 3 := by rw [hZ, List.length_map]; exact hl
  refine ⟨?_, ?_, ?_⟩
  · simp only [D.lf]
    exact lfs_iff.mpr fun d hd => (h d hd).lf
  · simp only [D.wt]
    exact Nat.le_trans w (Nat.le_trans (Nat.mul_le_mul_right _ lz) (by omega))
  · have : D.dps Z ≤ 0 := dps_le.mpr fun d hd => (h d hd).dp
    simp only [D.dp]
    omega
theorem ix_first {Z : List D} {ks : List Str} (hZ : Z = ks.map D.str) (h1 : 1 ≤ ks.length) (hk : ∀ z ∈ ks, K9 z) : ∃ k0, ixO (.lst Z) (.int 0) = some (.str k0) ∧ K9 k0 := by
  cases ks with
  | nil => simp at h1
  | cons k ks =>
    refine ⟨k, ?_, hk k (by simp)⟩
    rw [hZ]
    show L2.atI _ (0 : Int) = _
    exact atI_in (by omega) (by simp)
theorem ix_last {Z : List D} {ks : List Str} (hZ : Z = ks.map D.str) (h1 : 1 ≤ ks.length) (hk : ∀ z ∈ ks, K9 z) : ∃ k1, ixO (.lst Z) (.int (-1)) = some (.str k1) ∧ K9 k1 := by
  have ne : ks ≠ [] := by
    rintro rfl
    simp at h1
  refine ⟨ks.getLast ne, ?_, hk _ (List.getLast_mem ne)⟩
  have e : Z = (ks.dropLast.map D.str) ++ [D.str (ks.getLast ne)] := by
    rw [hZ]
    conv => lhs; rw [← List.dropLast_concat_getLast ne]
    simp
  rw [e]
  exact at_last _ _
theorem prs2 (a b c d : Str) : prsL [.tup [.str a, .str b], .tup [.str c, .str d]] = some [(a, b), (c, d)] := by
  simp [prsL]
theorem book_bd {t k0 k1 b : Str} (ht : t.length ≤ 40) (t7 : A7 t) (h0 : K9 k0) (h1 : K9 k1) (hb : b.length ≤ 40) (b7 : A7 b) : ∃ ps : List D, sortPO [.lst [.tup [.str t, .str k0], .tup [.str b, .str k1]]] = some (.lst ps) ∧ Bd 156 400 2 (.tup ps) := by
  refine ⟨(srtP [(t, k0), (b, k1)]).map fun q => .tup [.str q.1, .str q.2], ?_, ?_⟩
  · unfold sortPO
    dsimp only
    rw [prs2]
    have l2 : [(t, k0), (b, k1)].length ≤ sizeLine := by show 2 ≤ sizeLine; decide
    rw [Option.bind_some, if_pos l2]
  · have pm : (srtP [(t, k0), (b, k1)]).Perm [(t, k0), (b, k1)] := List.mergeSort_perm _ _
    have e : ∀ q ∈ srtP [(t, k0), (b, k1)], Bd 156 198 1 (.tup [.str q.1, .str q.2]) := fun q hq => by
      have hq := pm.mem_iff.mp hq
      simp at hq
      rcases hq with rfl | rfl
      · exact (bd_pair ((bd_str ht t7).mono (by omega) (Nat.le_refl _) (Nat.le_refl _)) (bd_str h0.1 h0.2)).mono (by omega) (by omega) (by omega)
      · exact (bd_pair ((bd_str hb b7).mono (by omega) (Nat.le_refl _) (Nat.le_refl _)) (bd_str h1.1 h1.2)).mono (by omega) (by omega) (by omega)
    have ln : ((srtP [(t, k0), (b, k1)]).map fun q => (.tup [.str q.1, .str q.2] : D)).length = 2 := by
      rw [List.length_map, pm.length_eq]
      rfl
    have all : ∀ d ∈ (srtP [(t, k0), (b, k1)]).map fun q => (.tup [.str q.1, .str q.2] : D), Bd 156 198 1 d := fun d hd => by
      obtain ⟨q, hq, rfl⟩ := List.mem_map.mp hd
      exact e q hq
    have w := wts_le (n := 198) fun d hd => (all d hd).wt
    rw [ln] at w
    exact bd_tup (k := 1) (fun d hd => ⟨(all d hd).lf, (all d hd).dp⟩) (by omega)
theorem ff_all : bdb 160 800 13 (D.tup [D.tup [D.str "f", D.str "p"], D.tup [D.str "f", D.str "q"]]) = true := by decide +kernel
end K01

set_option linter.all false
set_option maxRecDepth 100000
set_option maxHeartbeats 8000000
namespace K01
open PySem L2 Og Gr
def S9 (x0 x3 x4 : SV) (L : List D) (s : Sto) : Prop := ∃ (x5 x6 x7 x8 x10 x11 x12 : SV) (some : List D) (F : Fd), s = ⟨[x0, .val .fd, .own L, x3, x4, x5, x6, x7, x8, .own some, x10, x11, x12], F⟩ ∧ 0 ≤ F.next ∧ some.length = 8 ∧ ∀ d ∈ some, Sm d
theorem law_e3 (fm ft : Fn) (hm : ∀ F : Fd, 0 ≤ F.next → Gv Sm (fm [.fd, .int 4] F)) (ht : ∀ F : Fd, 0 ≤ F.next → Gv Sm (ft [.fd, .int 5] F)) (k : MS) (E : Fs) (x0 x3 x4 x5 x7 x8 x9 x10 x11 x12 : SV) (L Z : List D) (ks : List Str) (hZ : Z = ks.map D.str) (h1 : 1 ≤ ks.length) (hl : ks.length ≤ 3) (hk : ∀ z ∈ ks, K9 z) (F : Fd) (hn : 0 ≤ F.next) (hE : ∀ s, S9 x0 x3 x4 L s → wpS k s E) :
    wpS (seqS (asgV 7 (bindM (mCons (callM 1 f_l_title (mCons (mVar 1) (retM []))) (mCons (m2 ixO (mPk 6) (retM (.int 0))) (retM []))) fun ds => optM (tupO ds))) (seqS (asgV 8 (mA tupleO (mCons (mA sortPO (mCons (bindM (mCons (mVar 7) (mCons (bindM (mCons (retM (.str "b")) (mCons (m2 ixO (mPk 6) (m1 negO (retM (.int 1)))) (retM []))) fun ds => optM (tupO ds)) (retM []))) fun ds => optM (lstO ds)) (retM []))) (retM [])))) (seqS (asgL 9 (bindM (mCons (m2 ixO (mPk 6) (retM (.int 0))) (mCons (mVar 7) (mCons (mVar 8) (mCons (callM 2 fm (mCons (mVar 1) (mCons (retM (.int 4)) (retM [])))) (mCons (callM 2 ft (mCons (mVar 1) (mCons (retM (.int 5)) (retM [])))) (retM [])))))) fun ds => optM (lstO ds))) (seqS (extS 9 (bindM (mCons (bindM (mCons (mA tupleO (mCons (mPk 6) (retM []))) (mCons (retM (.str "p")) (retM []))) fun ds => optM (tupO ds)) (mCons (bindM (mCons (mA tupleO (mCons (m1 revLO (mPk 6)) (retM []))) (mCons (retM (.str "q")) (retM []))) fun ds => optM (tupO ds)) (mCons (bindM (mCons (bindM (mCons (retM (.str "f")) (mCons (retM (.str "p")) (retM []))) fun ds => optM (tupO ds)) (mCons (bindM (mCons (retM (.str "f")) (mCons (retM (.str "q")) (retM []))) fun ds => optM (tupO ds)) (retM []))) fun ds => optM (tupO ds)) (retM [])))) fun ds => optM (lstO ds))) k)))) ⟨[x0, .val .fd, .own L, x3, x4, x5, .own Z, x7, x8, x9, x10, x11, x12], F⟩ E := by
  obtain ⟨t, F1, e1, ⟨z, rfl, z1, z2⟩, n1⟩ := title_gv F hn
  obtain ⟨k0, i0, q0⟩ := ix_first hZ h1 hk
  obtain ⟨k1, i1, q1⟩ := ix_last hZ h1 hk
  have bl : (Str.ofString "b").length ≤ 40 := by decide +kernel
  obtain ⟨ps, s1, bp⟩ := book_bd (b := "b") z1 z2 q0 q1 bl (a7_lit' (by decide +kernel))
  obtain ⟨m, F2, e2, bm, n2⟩ := hm F1 n1
  obtain ⟨r, F3, e3, br, n3⟩ := ht F2 n2
  have ng : negO (.int 1) = some (.int (-1)) := rfl
  have kb := kinds_bd hZ hl hk
  have kr : Bd 156 471 1 (.tup Z.reverse) := kinds_bd (ks := ks.reverse) (by rw [hZ, List.map_reverse]) (by simpa using hl) fun z hz => hk z (by simpa using hz)
  have tz : tupleO [.lst Z] = some (.tup Z) := rfl
  have tr : tupleO [.lst Z.reverse] = some (.tup Z.reverse) := rfl
  have tp : tupleO [.lst ps] = some (.tup ps) := rfl
  have rv : revLO (.lst Z) = some (.lst Z.reverse) := rfl
  have be : Bd 156 198 1 (.tup [.str z, .str k0]) := (bd_pair ((bd_str z1 z2).mono (by omega) (Nat.le_refl _) (Nat.le_refl _)) (bd_str q0.1 q0.2)).mono (by omega) (by omega) (by omega)
  have pq : ∀ w : Str, w.length ≤ 1 → A7 w → Bd 156 1 0 (.str w) := fun w h h7 => (bd_str h h7).mono (by omega) (Nat.le_refl _) (Nat.le_refl _)
  have bz := bd_pair (kb.mono (k' := 1) (Nat.le_refl _) (Nat.le_refl _) (Nat.le_refl _)) ((pq "p" (by decide +kernel) p_7).mono (k' := 1) (Nat.le_refl _) (Nat.le_refl _) (by omega))
  have bzr := bd_pair (kr.mono (k' := 1) (Nat.le_refl _) (Nat.le_refl _) (Nat.le_refl _)) ((pq "q" (by decide +kernel) (a7_lit' (by decide +kernel))).mono (k' := 1) (Nat.le_refl _) (Nat.le_refl _) (by omega))
  have nx := hE ⟨[x0, .val .fd, .own L, x3, x4, x5, .own Z, .val (.tup [.str z, .str k0]), .val (.tup ps), .own [.str k0, .tup [.str z, .str k0], .tup ps, m, r, .tup [.tup Z, .str "p"], .tup [.tup Z.reverse, .str "q"], D.tup [D.tup [D.str "f", D.str "p"], D.tup [D.str "f", D.str "q"]]], x10, x11, x12], F3⟩ ⟨x5, _, _, _, x10, x11, x12, _, F3, rfl, n3, rfl, fun d hd => by
    simp only [List.mem_cons, List.not_mem_nil, or_false] at hd
    rcases hd with h | h | h | h | h | h | h | h <;> subst h
    · exact (bd_str q0.1 q0.2).mono (by omega) (by omega) (by omega)
    · exact be.mono (by omega) (by omega) (by omega)
    · exact bp.mono (by omega) (by omega) (by omega)
    · exact bm
    · exact br
    · exact bz.mono (by omega) (by omega) (by omega)
    · exact bzr.mono (by omega) (by omega) (by omega)
    · exact bdb_bd ff_all⟩
  clear hE hk h1 hl hZ kb kr be bz bzr bp bm br
  generalize Z.reverse = Zr at *
  unfold wpS at nx ⊢
  simp [bindM, bindS, retM, optM, m1, m2, m3, mA, mCons, mVar, mPk, mIf, seqS, ifS, asgV, callM, Sto.at, Sto.put, sto0, fnM, asB, asInt, asgL, extS, lstO, tupO, le_line, e1, i0, i1, ng, s1, e2, e3, tz, tr, tp, rv]
  exact nx
end K01

set_option linter.all false
set_option maxRecDepth 100000
set_option maxHeartbeats 8000000
namespace K01
open PySem L2 Og Gr
def J5 (rest : List D) (s : Sto) : Prop := ∃ (L : List D) (x0 x3 x4 x5 x6 x7 x8 x9 x10 x11 x12 : SV) (F : Fd), s = ⟨[x0, .val .fd, .own L, x3, x4, x5, x6, x7, x8, x9, x10, x11, x12], F⟩ ∧ 0 ≤ F.next ∧ L.length + 24 * rest.length ≤ 146 ∧ ∀ d ∈ L, Ok d
theorem law_f (ft fs fm fq fp : Fn) (h1 : ∀ (k : Nat) (F : Fd), 0 < k → k ≤ 9 → 0 ≤ F.next → Gv T9 (ft [.fd, .int (k : Nat)] F)) (h2 : ∀ (d : D) (F : Fd), T9 d → ∃ z, fs [d] F = .ok (.str z) F ∧ K9 z) (h3 : ∀ F : Fd, 0 ≤ F.next → Gv Sm (fm [.fd, .int 4] F)) (h4 : ∀ F : Fd, 0 ≤ F.next → Gv Sm (fq [.fd, .int 5] F)) (h5 : ∀ (d : D) (F : Fd), Sm d → 0 ≤ F.next → Gv Sm2 (fp [.fd, d] F)) (h6 : ∀ (d : D) (F : Fd), Sm2 d → 0 ≤ F.next → Gv Ok (fp [.fd, d] F)) (d : D) (rest : List D) (s : Sto) (hs : J5 (d :: rest) s) : ∃ t1, tgN 4 d s = some t1 ∧ wpS (seqS (asgL 5 (lcM [11] (tgN 11) (retM true) (callM 2 ft (mCons (mVar 1) (mCons (callM 2 f_l_pick (mCons (mVar 1) (mCons (bindM (mCons (retM (.int 1)) (mCons (retM (.int 2)) (mCons (retM (.int 3)) (mCons (retM (.int 5)) (mCons (retM (.int 9)) (retM [])))))) fun ds => optM (lstO ds)) (retM [])))) (retM [])))) (bindM (retM (.int 3)) asR))) (seqS (asgL 6 (m1 uniqO (lcM [12] (tgN 12) (retM true) (callM 1 fs (mCons (mVar 12) (retM []))) (bindM (mVar 5) asL)))) (seqS (asgV 7 (bindM (mCons (callM 1 f_l_title (mCons (mVar 1) (retM []))) (mCons (m2 ixO (mPk 6) (retM (.int 0))) (retM []))) fun ds => optM (tupO ds))) (seqS (asgV 8 (mA tupleO (mCons (mA sortPO (mCons (bindM (mCons (mVar 7) (mCons (bindM (mCons (retM (.str "b")) (mCons (m2 ixO (mPk 6) (m1 negO (retM (.int 1)))) (retM []))) fun ds => optM (tupO ds)) (retM []))) fun ds => optM (lstO ds)) (retM []))) (retM [])))) (seqS (asgL 9 (bindM (mCons (m2 ixO (mPk 6) (retM (.int 0))) (mCons (mVar 7) (mCons (mVar 8) (mCons (callM 2 fm (mCons (mVar 1) (mCons (retM (.int 4)) (retM [])))) (mCons (callM 2 fq (mCons (mVar 1) (mCons (retM (.int 5)) (retM [])))) (retM [])))))) fun ds => optM (lstO ds))) (seqS (extS 9 (bindM (mCons (bindM (mCons (mA tupleO (mCons (mPk 6) (retM []))) (mCons (retM (.str "p")) (retM []))) fun ds => optM (tupO ds)) (mCons (bindM (mCons (mA tupleO (mCons (m1 revLO (mPk 6)) (retM []))) (mCons (retM (.str "q")) (retM []))) fun ds => optM (tupO ds)) (mCons (bindM (mCons (bindM (mCons (retM (.str "f")) (mCons (retM (.str "p")) (retM []))) fun ds => optM (tupO ds)) (mCons (bindM (mCons (retM (.str "f")) (mCons (retM (.str "q")) (retM []))) fun ds => optM (tupO ds)) (retM []))) fun ds => optM (tupO ds)) (retM [])))) fun ds => optM (lstO ds))) (seqS (mFor (tgN 10) (bindM (mVar 9) asL) (seqS (appS 2 (mVar 10)) (seqS (appS 2 (callM 2 fp (mCons (mVar 1) (mCons (mVar 10) (retM []))))) (seqS (appS 2 (callM 2 fp (mCons (mVar 1) (mCons (callM 2 fp (mCons (mVar 1) (mCons (mVar 10) (retM [])))) (retM []))))) (fun s => .nx s))))) (fun s => .nx s)))))))) t1 { nx := J5 rest } := by
  obtain ⟨L, x0, x3, x4, x5, x6, x7, x8, x9, x10, x11, x12, F, rfl, hn, hl, hL⟩ := hs
  rw [List.length_cons] at hl
  refine ⟨⟨[x0, .val .fd, .own L, x3, .val d, x5, x6, x7, x8, x9, x10, x11, x12], F⟩, rfl, ?_⟩
  obtain ⟨ts, F1, e1, n1, t1, t2⟩ := law_e1 ft h1 x0 (.own L) x3 (.val d) x5 x6 x7 x8 x9 x10 x12 F hn ⟨[x0, .val .fd, .own L, x3, .val d, x5, x6, x7, x8, x9, x10, x11, x12], F⟩ rfl
  refine wpS_seq (wpS_asgL (wp_eq e1 ⟨ts, rfl, ?_⟩))
  clear e1
  obtain ⟨ks, e2, k1, k2, k3⟩ := law_e2 fs h2 x0 (.own L) x3 (.val d) x6 x7 x8 x9 x10 .un x12 ts F1 t1 t2
  refine wpS_seq (wpS_asgL (wp_eq e2 ⟨_, rfl, ?_⟩))
  clear e2
  refine law_e3 fm fq h3 h4 _ _ x0 x3 (.val d) (.val (.lst ts)) x7 x8 x9 x10 .un .un L (ks.map D.str) ks rfl k1 k2 k3 F1 n1 ?_
  rintro s2 ⟨y5, y6, y7, y8, y10, y11, y12, some, F2, rfl, n2, l8, hsm⟩
  have it : (bindM (mVar 9) asL) (⟨[x0, .val .fd, .own L, x3, .val d, y5, y6, y7, y8, .own some, y10, y11, y12], F2⟩ : Sto) = .ok some ⟨[x0, .val .fd, .own L, x3, .val d, y5, y6, y7, y8, .val (.lst some), y10, y11, y12], F2⟩ := rfl
  refine wpS_seq (wpS_bind (wp_eq it ?_))
  refine wpS_for (J := LJ (L.length + 24)) ?_ ?_ _ _ ⟨L, x0, x3, .val d, y5, y6, y7, y8, .val (.lst some), y10, y11, y12, F2, rfl, n2, by omega, hL, hsm⟩
  · rintro t ⟨M, z0, z3, z4, z5, z6, z7, z8, z9, z10, z11, z12, F3, rfl, n3, hM, oM, _⟩
    simp only [List.length_nil] at hM
    exact wpS_nil ⟨M, z0, z3, z4, z5, z6, z7, z8, z9, z10, z11, z12, F3, rfl, n3, by omega, oM⟩
  · intro d2 ds t ht
    obtain ⟨u, g1, g2⟩ := law_i fp h5 h6 (L.length + 24) (by omega) d2 ds t ht
    exact ⟨u, g1, wpS_mono g2 (fun _ h => h) (fun _ _ h => h.elim) (fun _ h => h.elim) (fun _ h => h.elim) (fun _ _ h => h.elim)⟩
theorem eq_self {z : Str} (h : A7 z) : eqO true (.str z) (.str z) = some (.bl false) := by
  rw [eq_str (a7_sOk h) (a7_sOk h)]
  simp
theorem law_g (fa fb : Fn) (h1 : ∀ (d : D) (F : Fd), Ok d → fa [d] F = .ok (.lst (kd9 d)) F) (h2 : ∀ (d : D) (F : Fd), Ok d → fb [d] F = .ok (.lst (kd9 d)) F) (x0 x3 x4 x5 x6 x7 x8 x9 x10 x11 x12 : SV) (L : List D) (F : Fd) (hl : L.length ≤ 146) (hL : ∀ d ∈ L, Ok d) : wpS (seqS (bindS (m2 (eqO false) (lcM [10] (tgN 10) (bindM (m2 (eqO true) (mA reprO (mCons (callM 1 fa (mCons (mVar 10) (retM []))) (retM []))) (mA reprO (mCons (callM 1 fb (mCons (mVar 10) (retM []))) (retM [])))) asB) (mVar 10) (bindM (mVar 2) asL)) (bindM (retM []) fun ds => optM (lstO ds))) fun d s => .rt d s) (fun s => .nx s)) ⟨[x0, .val .fd, .own L, x3, x4, x5, x6, x7, x8, x9, x10, x11, x12], F⟩ { rt := fun d _ => d = .bl true } := by
  have g := lcGo_pure (vs := [10]) (f := tgN 10) (tt := (bindM (m2 (eqO true) (mA reprO (mCons (callM 1 fa (mCons (mVar 10) (retM []))) (retM []))) (mA reprO (mCons (callM 1 fb (mCons (mVar 10) (retM []))) (retM [])))) asB)) (te := mVar 10) (fun _ => false) id ⟨[x0, .val .fd, .val (.lst L), x3, x4, x5, x6, x7, x8, x9, .un, x11, x12], F⟩ L [] (by
    intro d hd
    have ok := hL d hd
    have a := h1 d F ok
    have b := h2 d F ok
    obtain ⟨z, r1, r2⟩ := repr_ok (T := 0) (d := .lst (kd9 d)) (by simp [kd9, D.lf, D.lfs]) (by simp [kd9, D.wt, D.wts]) (by simp [kd9, D.dp, D.dps])
    have q := eq_self r2
    generalize kd9 d = kd at *
    refine ⟨⟨[x0, .val .fd, .val (.lst L), x3, x4, x5, x6, x7, x8, x9, .val d, x11, x12], F⟩, ⟨[x0, .val .fd, .val (.lst L), x3, x4, x5, x6, x7, x8, x9, .val d, x11, x12], F⟩, rfl, ?_, fun h => absurd h (by simp), fun _ => rfl⟩
    simp [bindM, bindS, retM, optM, m1, m2, m3, mA, mCons, mVar, mPk, mIf, seqS, ifS, asgV, callM, Sto.at, Sto.put, sto0, fnM, asB, asInt, a, b, r1, q]) (by simpa using Nat.le_trans hl (by decide))
  have e : (L.filter fun _ => false) = [] := by simp
  rw [e] at g
  have e2 := eq_nilL (T := 0) (ds := []) (by simp [D.lf, D.lfs]) (by simp [D.dp, D.dps]) false
  have w : (⟨[x0, .val .fd, .val (.lst L), x3, x4, x5, x6, x7, x8, x9, x10, x11, x12], F⟩ : Sto).wipe [10] = ⟨[x0, .val .fd, .val (.lst L), x3, x4, x5, x6, x7, x8, x9, .un, x11, x12], F⟩ := rfl
  have e2 : eqO false (.lst []) (.lst []) = some (.bl true) := e2
  have g : lcGo [10] (tgN 10) (bindM (m2 (eqO true) (mA reprO (mCons (callM 1 fa (mCons (mVar 10) (retM []))) (retM []))) (mA reprO (mCons (callM 1 fb (mCons (mVar 10) (retM []))) (retM [])))) asB) (mVar 10) L [] ⟨[x0, .val .fd, .val (.lst L), x3, x4, x5, x6, x7, x8, x9, .un, x11, x12], F⟩ = .ok [] ⟨[x0, .val .fd, .val (.lst L), x3, x4, x5, x6, x7, x8, x9, .un, x11, x12], F⟩ := g
  generalize (bindM (m2 (eqO true) (mA reprO (mCons (callM 1 fa (mCons (mVar 10) (retM []))) (retM []))) (mA reprO (mCons (callM 1 fb (mCons (mVar 10) (retM []))) (retM [])))) asB) = TT at *
  generalize (mVar 10 : M D) = te at *
  simp [bindM, bindS, retM, optM, m1, m2, m3, mA, mCons, mVar, mPk, mIf, seqS, ifS, asgV, callM, Sto.at, Sto.put, sto0, fnM, asB, asInt, wpS, lcM, asL, w, g, lstO, e2]
theorem maker_sm (F : Fd) (hn : 0 ≤ F.next) : Gv Sm (f_l_maker 5 [.fd, .int 4] F) := gv_mono (maker_gv 5 4 F (by omega) (by omega) (by omega) hn) fun d ⟨a, b, c⟩ => ⟨lf_mono (by omega) a, by omega, by omega⟩
theorem term_sm (F : Fd) (hn : 0 ≤ F.next) : Gv Sm (f_l_term 6 [.fd, .int 5] F) := gv_mono (term_gv 6 5 F (by omega) (by omega) (by omega) hn) fun d ⟨a, b, c⟩ => ⟨lf_mono (by omega) a, Nat.le_trans b (by decide), by omega⟩
theorem law_h (s : Sto) (hs : J5 (rngD 5) s) (E : Fs) (hE : ∀ t, J5 [] t → E.nx t) : wpS (mFor (tgN 4) (bindM (retM (.int 5)) asR) (seqS (asgL 5 (lcM [11] (tgN 11) (retM true) (callM 2 (f_l_tree 10) (mCons (mVar 1) (mCons (callM 2 f_l_pick (mCons (mVar 1) (mCons (bindM (mCons (retM (.int 1)) (mCons (retM (.int 2)) (mCons (retM (.int 3)) (mCons (retM (.int 5)) (mCons (retM (.int 9)) (retM [])))))) fun ds => optM (lstO ds)) (retM [])))) (retM [])))) (bindM (retM (.int 3)) asR))) (seqS (asgL 6 (m1 uniqO (lcM [12] (tgN 12) (retM true) (callM 1 (f_l_spelled 10) (mCons (mVar 12) (retM []))) (bindM (mVar 5) asL)))) (seqS (asgV 7 (bindM (mCons (callM 1 f_l_title (mCons (mVar 1) (retM []))) (mCons (m2 ixO (mPk 6) (retM (.int 0))) (retM []))) fun ds => optM (tupO ds))) (seqS (asgV 8 (mA tupleO (mCons (mA sortPO (mCons (bindM (mCons (mVar 7) (mCons (bindM (mCons (retM (.str "b")) (mCons (m2 ixO (mPk 6) (m1 negO (retM (.int 1)))) (retM []))) fun ds => optM (tupO ds)) (retM []))) fun ds => optM (lstO ds)) (retM []))) (retM [])))) (seqS (asgL 9 (bindM (mCons (m2 ixO (mPk 6) (retM (.int 0))) (mCons (mVar 7) (mCons (mVar 8) (mCons (callM 2 (f_l_maker 5) (mCons (mVar 1) (mCons (retM (.int 4)) (retM [])))) (mCons (callM 2 (f_l_term 6) (mCons (mVar 1) (mCons (retM (.int 5)) (retM [])))) (retM [])))))) fun ds => optM (lstO ds))) (seqS (extS 9 (bindM (mCons (bindM (mCons (mA tupleO (mCons (mPk 6) (retM []))) (mCons (retM (.str "p")) (retM []))) fun ds => optM (tupO ds)) (mCons (bindM (mCons (mA tupleO (mCons (m1 revLO (mPk 6)) (retM []))) (mCons (retM (.str "q")) (retM []))) fun ds => optM (tupO ds)) (mCons (bindM (mCons (bindM (mCons (retM (.str "f")) (mCons (retM (.str "p")) (retM []))) fun ds => optM (tupO ds)) (mCons (bindM (mCons (retM (.str "f")) (mCons (retM (.str "q")) (retM []))) fun ds => optM (tupO ds)) (retM []))) fun ds => optM (tupO ds)) (retM [])))) fun ds => optM (lstO ds))) (seqS (mFor (tgN 10) (bindM (mVar 9) asL) (seqS (appS 2 (mVar 10)) (seqS (appS 2 (callM 2 (f_l_spoilt 40) (mCons (mVar 1) (mCons (mVar 10) (retM []))))) (seqS (appS 2 (callM 2 (f_l_spoilt 40) (mCons (mVar 1) (mCons (callM 2 (f_l_spoilt 40) (mCons (mVar 1) (mCons (mVar 10) (retM [])))) (retM []))))) (fun s => .nx s))))) (fun s => .nx s))))))))) s E := by
  refine wpS_bind (wp_eq (asR_lit 5 5 rfl (by decide) s) ?_)
  have go := wpS_for (f := tgN 4) (E := { E with nx := J5 [] }) J5 (fun t h => h) (fun d ds t h => by
    obtain ⟨t1, g1, g2⟩ := law_f (f_l_tree 10) (f_l_spelled 10) (f_l_maker 5) (f_l_term 6) (f_l_spoilt 40) tree_t9 spelled_k9 maker_sm term_sm spoil1 spoil2 d ds t h
    exact ⟨t1, g1, wpS_mono g2 (fun _ h => h) (fun _ _ h => h.elim) (fun _ h => h.elim) (fun _ h => h.elim) (fun _ _ h => h.elim)⟩) (rngD 5) s hs
  exact wpS_mono go hE (fun _ _ h => h) (fun _ h => h) (fun _ h => h) (fun _ _ h => h)
theorem law_true (s : Sto) (hs : LD0 (s.wipe [4])) : wpS m_p_law s { rt := fun d _ => d = .bl true } := by
  unfold m_p_law
  refine wpS_seq (law_a s hs _ fun t ht => ?_)
  refine wpS_seq (law_b 16 t ht _ fun t ht => ?_)
  refine wpS_seq (law_c 16 (by omega) t ht _ fun t ht => ?_)
  refine wpS_seq (law_d 22 (by omega) t ht _ fun t ht => ?_)
  obtain ⟨L, x0, x4, R, z, F, rfl, hR, hn, hc, hL, _⟩ := ht
  match R, hR with
  | [x5, x6, x7, x8, x9, x10, x11, x12], _ =>
    refine wpS_seq (law_h _ ⟨L, x0, _, x4, x5, x6, x7, x8, x9, x10, x11, x12, F, rfl, hn, by rw [rng_len]; omega, hL⟩ _ ?_)
    rintro t ⟨M, z0, z3, z4, z5, z6, z7, z8, z9, z10, z11, z12, F3, rfl, n3, hM, oM⟩
    simp only [List.length_nil] at hM
    exact law_g f_l_told f_l_due (fun d F h => told_ev h F) (fun d F h => due_ev h F) z0 z3 z4 z5 z6 z7 z8 z9 z10 z11 z12 M F3 (by omega) oM
theorem all_true (ns : List Int) (h : ns.length ≤ 63) (hb : ∀ z ∈ ns, Builtin.Int.intBits z ≤ 1048576) : ∃ s', m_p_law (Og.sto1 13 ns) = .rt (.bl true) s' := by
  have hs : LD0 ((Og.sto1 13 ns).wipe [4]) := ⟨.un, .un, .un, .un, [.un, .un, .un, .un, .un, .un, .un, .un], ⟨ns.take 63, 0, 0, 0⟩, rfl, rfl, Int.le_refl 0⟩
  have w := law_true (Og.sto1 13 ns) hs
  generalize Og.sto1 13 ns = s at w
  unfold wpS at w
  cases e : m_p_law s with
  | rt d s' =>
    rw [e] at w
    have w : d = .bl true := w
    subst w
    exact ⟨s', rfl⟩
  | nx t => rw [e] at w; exact w.elim
  | bk t => rw [e] at w; exact w.elim
  | ct t => rw [e] at w; exact w.elim
  | exc x t => rw [e] at w; exact w.elim
  | bad => rw [e] at w; exact w.elim
end K01

set_option Elab.async false
set_option linter.all false
set_option maxRecDepth 100000
open PySem PySem.W PyProof.Rows
set_option maxHeartbeats 0 in
theorem PySem.Challenge.cw_onlygiven_k01_kinds_told_holds : PySem.Challenge.rw_onlygiven_k01_kinds_told.Holds := by
  w_on; o_law; k_head; (case hw => w_witness2)
  k_fill
  refine K01.walk (l := PySem.Challenge.rw_onlygiven_k01_kinds_told) rfl rfl (fun w h Y => PySem.W.kIn_of Y) ?F K01.all_true
  case F =>
    intro w mg fa h KX G hmg
    refine' K01.all_mk KX G hmg ?a0 ?l0 ?c0 ?k0 ?a1 ?l1 ?c1 ?k1 ?a2 ?l2 ?c2 ?k2 ?a3 ?l3 ?c3 ?k3 ?a4 ?l4 ?c4 ?k4 ?a5 ?l5 ?c5 ?k5 ?a6 ?l6 ?c6 ?k6 ?a7 ?l7 ?c7 ?k7 ?a8 ?l8 ?c8 ?k8 ?a9 ?l9 ?c9 ?k9 ?a10 ?l10 ?c10 ?k10 ?a11 ?l11 ?c11 ?k11 ?a12 ?l12 ?c12 ?k12 ?a13 ?l13 ?c13 ?k13 ?a14 ?l14 ?c14 ?k14 ?a15 ?l15 ?c15 ?k15 ?a16 ?l16 ?c16 ?k16 ?a17 ?l17 ?c17 ?k17 ?a18 ?l18 ?c18 ?k18 ?a19 ?l19 ?c19 ?k19 ?a20 ?l20 ?c20 ?k20 ?a21 ?l21 ?c21 ?k21 ?a22 ?l22 ?c22 ?k22 ?a23 ?l23 ?c23 ?k23 ?a24 ?l24 ?c24 ?k24 ?a25 ?l25 ?c25 ?k25 ?a26 ?l26 ?c26 ?k26 ?a27 ?l27 ?c27 ?k27 ?a28 ?l28 ?c28 ?k28 ?a29 ?l29 ?c29 ?k29 ?a30 ?l30 ?c30 ?k30 ?a31 ?l31 ?c31 ?k31 ?a32 ?l32 ?c32 ?k32 ?a33 ?l33 ?c33 ?k33 ?a34 ?l34 ?c34 ?k34 ?a35 ?l35 ?c35 ?k35 ?a36 ?l36 ?c36 ?k36 ?a37 ?l37 ?c37 ?k37 ?a38 ?l38 ?c38 ?k38 ?a39 ?l39 ?c39 ?k39 ?a40 ?l40 ?c40 ?k40 ?a41 ?l41 ?c41 ?k41 ?a42 ?l42 ?c42 ?k42 ?a43 ?l43 ?c43 ?k43 ?a44 ?l44 ?c44 ?k44 ?a45 ?l45 ?c45 ?k45 ?a46 ?l46 ?c46 ?k46 ?aCT ?aBT ?aT ?iT ?lT ?cT ?kT ?gaT ?rdT ?iniT ?oxT ?reT ?saT ?exT ?tyT ?kCT ?n1T ?n2T ?isT ?sfT ?z_len ?z_int ?z_str ?z_tuple ?z_list ?z_repr ?z_isinstance ?z_range ?z_sorted ?z_set ?z_all ?z_zip ?z_bool ?v_LETTERS ?v_LONGEST_NAME ?v_LONGEST_SHOWN
    (case a0 => first | k_is | rfl)
    (case l0 => first | k_is | rfl)
    (case c0 => first | k_is | rfl)
    (case k0 => first | k_is | rfl)
    (case a1 => first | k_is | rfl)
    (case l1 => first | k_is | rfl)
    (case c1 => first | k_is | rfl)
    (case k1 => first | k_is | rfl)
    (case a2 => first | k_is | rfl)
    (case l2 => first | k_is | rfl)
    (case c2 => first | k_is | rfl)
    (case k2 => first | k_is | rfl)
    (case a3 => first | k_is | rfl)
    (case l3 => first | k_is | rfl)
    (case c3 => first | k_is | rfl)
    (case k3 => first | k_is | rfl)
    (case a4 => first | k_is | rfl)
    (case l4 => first | k_is | rfl)
    (case c4 => first | k_is | rfl)
    (case k4 => first | k_is | rfl)
    (case a5 => first | k_is | rfl)
    (case l5 => first | k_is | rfl)
    (case c5 => first | k_is | rfl)
    (case k5 => first | k_is | rfl)
    (case a6 => first | k_is | rfl)
    (case l6 => first | k_is | rfl)
    (case c6 => first | k_is | rfl)
    (case k6 => first | k_is | rfl)
    (case a7 => first | k_is | rfl)
    (case l7 => first | k_is | rfl)
    (case c7 => first | k_is | rfl)
    (case k7 => first | k_is | rfl)
    (case a8 => first | k_is | rfl)
    (case l8 => first | k_is | rfl)
    (case c8 => first | k_is | rfl)
    (case k8 => first | k_is | rfl)
    (case a9 => first | k_is | rfl)
    (case l9 => first | k_is | rfl)
    (case c9 => first | k_is | rfl)
    (case k9 => first | k_is | rfl)
    (case a10 => first | k_is | rfl)
    (case l10 => first | k_is | rfl)
    (case c10 => first | k_is | rfl)
    (case k10 => first | k_is | rfl)
    (case a11 => first | k_is | rfl)
    (case l11 => first | k_is | rfl)
    (case c11 => first | k_is | rfl)
    (case k11 => first | k_is | rfl)
    (case a12 => first | k_is | rfl)
    (case l12 => first | k_is | rfl)
    (case c12 => first | k_is | rfl)
    (case k12 => first | k_is | rfl)
    (case a13 => first | k_is | rfl)
    (case l13 => first | k_is | rfl)
    (case c13 => first | k_is | rfl)
    (case k13 => first | k_is | rfl)
    (case a14 => first | k_is | rfl)
    (case l14 => first | k_is | rfl)
    (case c14 => first | k_is | rfl)
    (case k14 => first | k_is | rfl)
    (case a15 => first | k_is | rfl)
    (case l15 => first | k_is | rfl)
    (case c15 => first | k_is | rfl)
    (case k15 => first | k_is | rfl)
    (case a16 => first | k_is | rfl)
    (case l16 => first | k_is | rfl)
    (case c16 => first | k_is | rfl)
    (case k16 => first | k_is | rfl)
    (case a17 => first | k_is | rfl)
    (case l17 => first | k_is | rfl)
    (case c17 => first | k_is | rfl)
    (case k17 => first | k_is | rfl)
    (case a18 => first | k_is | rfl)
    (case l18 => first | k_is | rfl)
    (case c18 => first | k_is | rfl)
    (case k18 => first | k_is | rfl)
    (case a19 => first | k_is | rfl)
    (case l19 => first | k_is | rfl)
    (case c19 => first | k_is | rfl)
    (case k19 => first | k_is | rfl)
    (case a20 => first | k_is | rfl)
    (case l20 => first | k_is | rfl)
    (case c20 => first | k_is | rfl)
    (case k20 => first | k_is | rfl)
    (case a21 => first | k_is | rfl)
    (case l21 => first | k_is | rfl)
    (case c21 => first | k_is | rfl)
    (case k21 => first | k_is | rfl)
    (case a22 => first | k_is | rfl)
    (case l22 => first | k_is | rfl)
    (case c22 => first | k_is | rfl)
    (case k22 => first | k_is | rfl)
    (case a23 => first | k_is | rfl)
    (case l23 => first | k_is | rfl)
    (case c23 => first | k_is | rfl)
    (case k23 => first | k_is | rfl)
    (case a24 => first | k_is | rfl)
    (case l24 => first | k_is | rfl)
    (case c24 => first | k_is | rfl)
    (case k24 => first | k_is | rfl)
    (case a25 => first | k_is | rfl)
    (case l25 => first | k_is | rfl)
    (case c25 => first | k_is | rfl)
    (case k25 => first | k_is | rfl)
    (case a26 => first | k_is | rfl)
    (case l26 => first | k_is | rfl)
    (case c26 => first | k_is | rfl)
    (case k26 => first | k_is | rfl)
    (case a27 => first | k_is | rfl)
    (case l27 => first | k_is | rfl)
    (case c27 => first | k_is | rfl)
    (case k27 => first | k_is | rfl)
    (case a28 => first | k_is | rfl)
    (case l28 => first | k_is | rfl)
    (case c28 => first | k_is | rfl)
    (case k28 => first | k_is | rfl)
    (case a29 => first | k_is | rfl)
    (case l29 => first | k_is | rfl)
    (case c29 => first | k_is | rfl)
    (case k29 => first | k_is | rfl)
    (case a30 => first | k_is | rfl)
    (case l30 => first | k_is | rfl)
    (case c30 => first | k_is | rfl)
    (case k30 => first | k_is | rfl)
    (case a31 => first | k_is | rfl)
    (case l31 => first | k_is | rfl)
    (case c31 => first | k_is | rfl)
    (case k31 => first | k_is | rfl)
    (case a32 => first | k_is | rfl)
    (case l32 => first | k_is | rfl)
    (case c32 => first | k_is | rfl)
    (case k32 => first | k_is | rfl)
    (case a33 => first | k_is | rfl)
    (case l33 => first | k_is | rfl)
    (case c33 => first | k_is | rfl)
    (case k33 => first | k_is | rfl)
    (case a34 => first | k_is | rfl)
    (case l34 => first | k_is | rfl)
    (case c34 => first | k_is | rfl)
    (case k34 => first | k_is | rfl)
    (case a35 => first | k_is | rfl)
    (case l35 => first | k_is | rfl)
    (case c35 => first | k_is | rfl)
    (case k35 => first | k_is | rfl)
    (case a36 => first | k_is | rfl)
    (case l36 => first | k_is | rfl)
    (case c36 => first | k_is | rfl)
    (case k36 => first | k_is | rfl)
    (case a37 => first | k_is | rfl)
    (case l37 => first | k_is | rfl)
    (case c37 => first | k_is | rfl)
    (case k37 => first | k_is | rfl)
    (case a38 => first | k_is | rfl)
    (case l38 => first | k_is | rfl)
    (case c38 => first | k_is | rfl)
    (case k38 => first | k_is | rfl)
    (case a39 => first | k_is | rfl)
    (case l39 => first | k_is | rfl)
    (case c39 => first | k_is | rfl)
    (case k39 => first | k_is | rfl)
    (case a40 => first | k_is | rfl)
    (case l40 => first | k_is | rfl)
    (case c40 => first | k_is | rfl)
    (case k40 => first | k_is | rfl)
    (case a41 => first | k_is | rfl)
    (case l41 => first | k_is | rfl)
    (case c41 => first | k_is | rfl)
    (case k41 => first | k_is | rfl)
    (case a42 => first | k_is | rfl)
    (case l42 => first | k_is | rfl)
    (case c42 => first | k_is | rfl)
    (case k42 => first | k_is | rfl)
    (case a43 => first | k_is | rfl)
    (case l43 => first | k_is | rfl)
    (case c43 => first | k_is | rfl)
    (case k43 => first | k_is | rfl)
    (case a44 => first | k_is | rfl)
    (case l44 => first | k_is | rfl)
    (case c44 => first | k_is | rfl)
    (case k44 => first | k_is | rfl)
    (case a45 => first | k_is | rfl)
    (case l45 => first | k_is | rfl)
    (case c45 => first | k_is | rfl)
    (case k45 => first | k_is | rfl)
    (case a46 => first | k_is | rfl)
    (case l46 => first | k_is | rfl)
    (case c46 => first | k_is | rfl)
    (case k46 => first | k_is | rfl)
    (case aCT => first | k_is | rfl)
    (case aBT => first | k_is | rfl)
    (case aT => first | k_is | rfl)
    (case iT => first | k_is | rfl)
    (case lT => first | k_is | rfl)
    (case cT => first | k_is | rfl)
    (case kT => first | k_is | rfl)
    (case gaT => first | k_is | rfl)
    (case rdT => first | k_is | rfl)
    (case iniT => first | k_is | rfl)
    (case oxT => first | k_is | rfl)
    (case reT => first | k_is | rfl)
    (case saT => first | k_is | rfl)
    (case exT => first | k_is | rfl)
    (case tyT => first | k_is | rfl)
    (case kCT => first | k_is | rfl)
    (case n1T => first | k_is | rfl)
    (case n2T => first | k_is | rfl)
    (case isT => first | k_is | rfl)
    (case sfT => first | k_is | rfl)
    (case z_len => first | k_is | rfl)
    (case z_int => first | k_is | rfl)
    (case z_str => first | k_is | rfl)
    (case z_tuple => first | k_is | rfl)
    (case z_list => first | k_is | rfl)
    (case z_repr => first | k_is | rfl)
    (case z_isinstance => first | k_is | rfl)
    (case z_range => first | k_is | rfl)
    (case z_sorted => first | k_is | rfl)
    (case z_set => first | k_is | rfl)
    (case z_all => first | k_is | rfl)
    (case z_zip => first | k_is | rfl)
    (case z_bool => first | k_is | rfl)
    (case v_LETTERS => first | k_is | rfl)
    (case v_LONGEST_NAME => first | k_is | rfl)
    (case v_LONGEST_SHOWN => first | k_is | rfl)


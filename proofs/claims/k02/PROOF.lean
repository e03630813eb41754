import PyProof.Rows.All
import Wide.All
import OpenK.AllK
import Wide.FinOn
import HandS.ForMost
import HandS.ForExc
import HandS.IsInst
import HandS.Wide
import HandS.Gcd
import HandS.TupLe
import HandS.Zip
import HandS.Walk
import HandS.StrMore
import HandS.FStr
import HandS.ExcIs
import HandS.Defaults
import KE.DataEq
import KE.KTypeName
import KE.KExcIs
import HandS.ExcInit
import PyProof.ReprRoads
import HandS.Style
import HandS.TupAny
import HandS.SetFor
import HandS.Iter
import HandS.Flow
import HandS.Base
import HandS.Strs
import HandS.Text
import HandS.Steps
import HandS.RevTup
import HandS.MapJoin
import PyProof.JoinWalk
import KE.KRevIter
import PySem.Challenge.RW_widthwise_k02_part_texts
set_option Elab.async false
set_option linter.all false
set_option maxRecDepth 100000
section
namespace Y
open PySem PySem.Spec PyProof.Rows L2
/-! # A layer over HandS that speaks of data alone: values as trees, slots that hold data or a list of one's own -/

/-- data: what a value is, its addresses forgotten -/
inductive D where
  | non | bl (b : Bool) | int (i : Int) | str (x : Str)
  | tup (xs : List D) | lst (xs : List D) | fz (xs : List D)
  | exc (C : Addr) | dk0 | ty (n : String) | cls (C : Addr)
  | pin (a : Addr) (d : D)

mutual
/-- data that no list bears: it stays whatever list is changed -/
def D.imm : D → Bool
  | .lst _ => false
  | .fz _ => false
  | .dk0 => false
  | .pin _ _ => false
  | .tup xs => immAll xs
  | _ => true
def immAll : List D → Bool
  | [] => true
  | x :: xs => x.imm && immAll xs
end

/-- an exception that was caught, of the class at C -/
def ExcO (C : Addr) (dx : Option Addr) (a : Addr) : HO := .ext fun h => ∃ (oe : Obj) (vs : Array Value), h.get? a = some oe ∧ Zc (.ref C) dx oe ∧ oe.data = .fields vs
/-- an error's own dict, where it has one -/
def DxOk (dx : Option Addr) (H : Hp) : Prop := ∀ d, dx = some d → ∃ fs, H d = some (.xd fs)
theorem DxOk.none {H : Hp} : DxOk none H := fun _ e => nomatch e
theorem DxOk.mono {dx : Option Addr} {H H' : Hp} (s : Same H H') (h : DxOk dx H) : DxOk dx H' := fun d e => let ⟨fs, q⟩ := h d e; ⟨fs, s _ _ q⟩

mutual
inductive Rp (K : PySem.W.Frag) (G : Hp) : V → D → Prop
  | non : Rp K G .non .non
  | bl (b : Bool) : Rp K G (.bl b) (.bl b)
  | int (i : Int) : Rp K G (.int i) (.int i)
  | str (x : Str) : Rp K G (.str x) (.str x)
  | ty (n : String) : Rp K G (.ty n) (.ty n)
  | cls (C : Addr) : Rp K G (.ref C) (.cls C)
  | tup {a : Addr} {xs : List V} {ds : List D} : SqT K G a xs → Rps K G xs ds → Rp K G (.ref a) (.tup ds)
  | lst {a : Addr} {xs : List V} {ds : List D} : G a = some (.lst xs) → Rps K G xs ds → Rp K G (.ref a) (.lst ds)
  | fz {a : Addr} {xs : List V} {ds : List D} : SqL K G a xs → Rps K G xs ds → Rp K G (.ref a) (.fz ds)
  | exc {a C : Addr} {dx : Option Addr} : G a = some (ExcO C dx a) → DxOk dx G → Rp K G (.ref a) (.exc C)
  | dk0 {a : Addr} : G a = some (.dK []) → Rp K G (.ref a) .dk0
  | pin {a : Addr} {d : D} : Rp K G (.ref a) d → Rp K G (.ref a) (.pin a d)
inductive Rps (K : PySem.W.Frag) (G : Hp) : List V → List D → Prop
  | nil : Rps K G [] []
  | cons {v : V} {vs : List V} {d : D} {ds : List D} : Rp K G v d → Rps K G vs ds → Rps K G (v :: vs) (d :: ds)
end

theorem same_seqT {K : PySem.W.Frag} {H H' : Hp} {a : Addr} {xs : List V} (e : Same H H') (h : SqT K H a xs) : SqT K H' a xs := by
  rcases h with (h | ⟨o, h⟩) | h
  · exact .inl (.inl (e _ _ h))
  · exact .inl (.inr ⟨o, e _ _ h⟩)
  · exact .inr h

section
variable {K : PySem.W.Frag} {G H : Hp}
mutual
theorem Rp.mono (e : Same G H) : ∀ {v : V} {d : D}, Rp K G v d → Rp K H v d
  | _, _, .non => .non
  | _, _, .bl b => .bl b
  | _, _, .int i => .int i
  | _, _, .str x => .str x
  | _, _, .ty n => .ty n
  | _, _, .cls C => .cls C
  | _, _, .tup h r => .tup (same_seqT e h) (Rps.mono e r)
  | _, _, .lst h r => .lst (e _ _ h) (Rps.mono e r)
  | _, _, .fz h r => .fz (e.seq h) (Rps.mono e r)
  | _, _, .exc h hd => .exc (e _ _ h) (hd.mono e)
  | _, _, .dk0 h => .dk0 (e _ _ h)
  | _, _, .pin h => .pin (Rp.mono e h)
theorem Rps.mono (e : Same G H) : ∀ {vs : List V} {ds : List D}, Rps K G vs ds → Rps K H vs ds
  | _, _, .nil => .nil
  | _, _, .cons h r => .cons (Rp.mono e h) (Rps.mono e r)
end
theorem imm_seqT {a : Addr} {xs : List V} (nl : ∀ b o, H b = some o → (∀ xs, o ≠ .lst xs) → G b = some o) (h : SqT K H a xs) : SqT K G a xs := by
  rcases h with (h | ⟨o, h⟩) | h
  · exact .inl (.inl (nl _ _ h fun _ z => nomatch z))
  · exact .inl (.inr ⟨o, nl _ _ h fun _ z => nomatch z⟩)
  · exact .inr h
mutual
theorem Rp.imm (nl : ∀ b o, H b = some o → (∀ xs, o ≠ .lst xs) → G b = some o) : ∀ {v : V} {d : D}, Rp K H v d → d.imm = true → Rp K G v d
  | _, _, .non, _ => .non
  | _, _, .bl b, _ => .bl b
  | _, _, .int i, _ => .int i
  | _, _, .str x, _ => .str x
  | _, _, .ty n, _ => .ty n
  | _, _, .cls C, _ => .cls C
  | _, _, .tup h r, z => .tup (imm_seqT nl h) (Rps.imm nl r (by simpa [D.imm] using z))
  | _, _, .lst h r, z => by simp [D.imm] at z
  | _, _, .fz h r, z => by simp [D.imm] at z
  | _, _, .exc h hd, _ => .exc (nl _ _ h fun _ z => nomatch z) fun d e => let ⟨fs, q⟩ := hd d e; ⟨fs, nl _ _ q fun _ z => nomatch z⟩
  | _, _, .dk0 h, z => by simp [D.imm] at z
  | _, _, .pin h, z => by simp [D.imm] at z
theorem Rps.imm (nl : ∀ b o, H b = some o → (∀ xs, o ≠ .lst xs) → G b = some o) : ∀ {vs : List V} {ds : List D}, Rps K H vs ds → immAll ds = true → Rps K G vs ds
  | _, _, .nil, _ => .nil
  | _, _, .cons h r, z => by
    have z' := z
    rw [immAll, Bool.and_eq_true] at z'
    exact .cons (Rp.imm nl h z'.1) (Rps.imm nl r z'.2)
end
theorem Rps.length : ∀ {vs : List V} {ds : List D}, Rps K G vs ds → vs.length = ds.length
  | _, _, .nil => rfl
  | _, _, .cons _ r => by rw [List.length_cons, List.length_cons, Rps.length r]
theorem Rps.get : ∀ {vs : List V} {ds : List D} (i : Nat) {d : D}, Rps K G vs ds → ds[i]? = some d → ∃ v, vs[i]? = some v ∧ Rp K G v d
  | _, _, i, d, .nil, e => by simp at e
  | _, _, 0, d, .cons h _, e => by
    have e' := Option.some.inj e
    subst e'
    exact ⟨_, rfl, h⟩
  | _, _, i + 1, d, .cons _ r, e => by
    obtain ⟨v, e1, h1⟩ := Rps.get i r (by simpa using e)
    exact ⟨v, by simpa using e1, h1⟩
theorem Rps.getV : ∀ {vs : List V} {ds : List D} (i : Nat) {v : V}, Rps K G vs ds → vs[i]? = some v → ∃ d, ds[i]? = some d ∧ Rp K G v d
  | _, _, i, d, .nil, e => by simp at e
  | _, _, 0, d, .cons h _, e => by
    have e' := Option.some.inj e
    subst e'
    exact ⟨_, rfl, h⟩
  | _, _, i + 1, d, .cons _ r, e => by
    obtain ⟨v, e1, h1⟩ := Rps.getV i r (by simpa using e)
    exact ⟨v, by simpa using e1, h1⟩
theorem Rps.append : ∀ {vs ws : List V} {ds es : List D}, Rps K G vs ds → Rps K G ws es → Rps K G (vs ++ ws) (ds ++ es)
  | _, _, _, _, .nil, s => s
  | _, _, _, _, .cons h r, s => .cons h (Rps.append r s)
theorem Rps.take : ∀ {vs : List V} {ds : List D} (n : Nat), Rps K G vs ds → Rps K G (vs.take n) (ds.take n)
  | _, _, 0, _ => .nil
  | _, _, _ + 1, .nil => .nil
  | _, _, n + 1, .cons h r => .cons h (Rps.take n r)
theorem Rps.drop : ∀ {vs : List V} {ds : List D} (n : Nat), Rps K G vs ds → Rps K G (vs.drop n) (ds.drop n)
  | _, _, 0, r => r
  | _, _, _ + 1, .nil => .nil
  | _, _, n + 1, .cons _ r => Rps.drop n r
theorem Rps.set : ∀ {vs : List V} {ds : List D} (i : Nat) {v : V} {d : D}, Rps K G vs ds → Rp K G v d → Rps K G (vs.set i v) (ds.set i d)
  | _, _, _, _, _, .nil, _ => .nil
  | _, _, 0, _, _, .cons _ r, h => .cons h r
  | _, _, i + 1, _, _, .cons h' r, h => .cons h' (Rps.set i r h)
theorem Rps.one {v : V} {d : D} (h : Rp K G v d) : Rps K G [v] [d] := .cons h .nil
end

/-! ### how heaps go on: H all that is tracked, G the part that no list of one's own is in -/
structure Ev (G H G' H' : Hp) : Prop where
  hs : Same H H'
  gs : Same G G'
  sub : Same G' H'
  new : ∀ b xs, H b = some (.lst xs) → G b = none → G' b = none
theorem Ev.refl {G H : Hp} (s : Same G H) : Ev G H G H := ⟨Same.refl _, Same.refl _, s, fun _ _ _ h => h⟩
theorem Ev.trans {G H G1 H1 G2 H2 : Hp} (a : Ev G H G1 H1) (b : Ev G1 H1 G2 H2) : Ev G H G2 H2 :=
  ⟨a.hs.trans b.hs, a.gs.trans b.gs, b.sub, fun c xs h g => b.new c xs (a.hs _ _ h) (a.new c xs h g)⟩
/-- a new thing, shared -/
theorem Ev.laid {G H : Hp} {p : Addr} {o : HO} (s : Same G H) (n : H p = none) : Ev G H (upd G p o) (upd H p o) := by
  have ng : G p = none := s.free n
  refine ⟨fun b u e => by rw [upd_ne (ne_of_none e n)]; exact e, fun b u e => by rw [upd_ne (ne_of_none e ng)]; exact e, fun b u e => ?_, fun b xs e g => by rw [upd_ne (ne_of_none e n)]; exact g⟩
  by_cases hb : b = p
  · subst hb
    rw [upd_same] at e ⊢
    exact e
  · rw [upd_ne hb] at e ⊢
    exact s b u e
/-- a new thing of one's own -/
theorem Ev.own {G H : Hp} {p : Addr} {o : HO} (s : Same G H) (n : H p = none) : Ev G H G (upd H p o) :=
  ⟨fun b u e => by rw [upd_ne (ne_of_none e n)]; exact e, Same.refl _, fun b u e => by rw [upd_ne (ne_of_none (s b u e) n)]; exact s b u e, fun _ _ _ g => g⟩
/-- what was tracked, but no list that stood at (G0, H0), is shared from now on -/
def joinH (G H G' : Hp) : Hp := fun b => match H b with
  | some (.lst _) => G b
  | _ => G' b
theorem joinH_lst {G H G' : Hp} {b : Addr} {xs : List V} (e : H b = some (.lst xs)) : joinH G H G' b = G b := by
  unfold joinH
  rw [e]
theorem joinH_non {G H G' : Hp} {b : Addr} (e : ∀ xs, H b ≠ some (.lst xs)) : joinH G H G' b = G' b := by
  unfold joinH
  split
  · rename_i xs h
    exact absurd h (e xs)
  · rfl
theorem Ev.join {G H G' H' : Hp} (s : Same G H) (hg : Same H G') (gh : Same G' H') : Ev G H (joinH G H G') H' := by
  refine ⟨hg.trans gh, fun b o e => ?_, fun b o e => ?_, fun b xs e g => by rw [joinH_lst e]; exact g⟩
  · have h1 := s b o e
    by_cases c : ∃ xs, H b = some (.lst xs)
    · obtain ⟨xs, c⟩ := c
      rw [joinH_lst c]
      exact e
    · rw [joinH_non fun xs z => c ⟨xs, z⟩]
      exact hg _ _ h1
  · by_cases c : ∃ xs, H b = some (.lst xs)
    · obtain ⟨xs, c⟩ := c
      rw [joinH_lst c] at e
      exact gh _ _ (hg _ _ (s _ _ e))
    · rw [joinH_non fun xs z => c ⟨xs, z⟩] at e
      exact gh _ _ e
theorem join_imm {G H G' : Hp} (hg : Same H G') : ∀ b o, G' b = some o → (∀ xs, o ≠ .lst xs) → joinH G H G' b = some o := fun b o e n => by
  rw [joinH_non]
  · exact e
  · intro xs z
    have z2 := hg _ _ z
    rw [e] at z2
    exact n xs (Option.some.inj z2)

/-! ### slots -/
inductive Slot where
  | emp | val (d : D) | own (ds : List D)
structure Sig (K : PySem.W.Frag) (G0 H0 G : Hp) (ρ : List Slot) (σ : L2.St) (H : Hp) : Prop where
  ev : Ev G0 H0 G H
  len : σ.length = ρ.length
  val : ∀ (i : Nat) (d : D), ρ[i]? = some (.val d) → ∃ v, σ[i]? = some (some v) ∧ Rp K G v d
  own : ∀ (i : Nat) (ds : List D), ρ[i]? = some (.own ds) → ∃ l xs, σ[i]? = some (some (.ref l)) ∧ H0 l = none ∧ G l = none ∧ H l = some (.lst xs) ∧ Rps K G xs ds
  inj : ∀ (i j : Nat) (ds es : List D) (l : Addr), ρ[i]? = some (.own ds) → ρ[j]? = some (.own es) → σ[i]? = some (some (.ref l)) → σ[j]? = some (some (.ref l)) → i = j
section
variable {K : PySem.W.Frag} {G0 H0 G G' : Hp} {ρ : List Slot} {σ : L2.St} {H H' : Hp}
theorem Sig.step (S : Sig K G0 H0 G ρ σ H) (e : Ev G H G' H') : Sig K G0 H0 G' ρ σ H' :=
  ⟨S.ev.trans e, S.len, fun i d h => let ⟨v, h1, h2⟩ := S.val i d h; ⟨v, h1, h2.mono e.gs⟩,
    fun i ds h => let ⟨l, xs, h1, h2, h3, h4, h5⟩ := S.own i ds h; ⟨l, xs, h1, h2, e.new l xs h4 h3, e.hs _ _ h4, h5.mono e.gs⟩, S.inj⟩
theorem get_set_eq {α : Type} {l : List α} {i : Nat} {x : α} (h : i < l.length) : (l.set i x)[i]? = some x := List.getElem?_set_self h
theorem get_set_ne {α : Type} {l : List α} {i j : Nat} {x : α} (h : i ≠ j) : (l.set i x)[j]? = l[j]? := List.getElem?_set_ne h
/-- a slot gets shared data -/
theorem Sig.setVal (S : Sig K G0 H0 G ρ σ H) {i : Nat} {v : V} {d : D} (r : Rp K G v d) : Sig K G0 H0 G (ρ.set i (.val d)) (σ.set i (some v)) H := by
  refine ⟨S.ev, by rw [List.length_set, List.length_set]; exact S.len, fun j e h => ?_, fun j ds h => ?_, fun j k ds es l h1 h2 h3 h4 => ?_⟩
  · by_cases hj : i = j
    · subst hj
      by_cases hl : i < ρ.length
      · rw [get_set_eq hl] at h
        have z := Slot.val.inj (Option.some.inj h)
        subst z
        exact ⟨v, get_set_eq (S.len ▸ hl), r⟩
      · rw [List.getElem?_eq_none (by rw [List.length_set]; omega)] at h
        cases h
    · rw [get_set_ne hj] at h ⊢
      exact S.val j e h
  · by_cases hj : i = j
    · subst hj
      by_cases hl : i < ρ.length
      · rw [get_set_eq hl] at h
        cases h
      · rw [List.getElem?_eq_none (by rw [List.length_set]; omega)] at h
        cases h
    · rw [get_set_ne hj] at h ⊢
      exact S.own j ds h
  · have nj : ∀ m es', (ρ.set i (Slot.val d))[m]? = some (Slot.own es') → i ≠ m := fun m es' hm z => by
      subst z
      by_cases hl : i < ρ.length
      · rw [get_set_eq hl] at hm
        cases hm
      · rw [List.getElem?_eq_none (by rw [List.length_set]; omega)] at hm
        cases hm
    have n1 := nj j ds h1
    have n2 := nj k es h2
    rw [get_set_ne n1] at h1 h3
    rw [get_set_ne n2] at h2 h4
    exact S.inj j k ds es l h1 h2 h3 h4
/-- a slot gets a list that is new -/
theorem Sig.setOwn (S : Sig K G0 H0 G ρ σ H) {i : Nat} {l : Addr} {xs : List V} {ds : List D} (h0 : H0 l = none) (hg : G l = none) (hl : H l = some (.lst xs)) (r : Rps K G xs ds)
    (nw : ∀ j es, i ≠ j → ρ[j]? = some (.own es) → σ[j]? ≠ some (some (.ref l))) : Sig K G0 H0 G (ρ.set i (.own ds)) (σ.set i (some (.ref l))) H := by
  refine ⟨S.ev, by rw [List.length_set, List.length_set]; exact S.len, fun j e h => ?_, fun j es h => ?_, fun j k es fs m h1 h2 h3 h4 => ?_⟩
  · by_cases hj : i = j
    · subst hj
      by_cases hl : i < ρ.length
      · rw [get_set_eq hl] at h
        cases h
      · rw [List.getElem?_eq_none (by rw [List.length_set]; omega)] at h
        cases h
    · rw [get_set_ne hj] at h ⊢
      exact S.val j e h
  · by_cases hj : i = j
    · subst hj
      by_cases hlt : i < ρ.length
      · rw [get_set_eq hlt] at h
        have z := Slot.own.inj (Option.some.inj h)
        subst z
        exact ⟨l, xs, get_set_eq (S.len ▸ hlt), h0, hg, hl, r⟩
      · rw [List.getElem?_eq_none (by rw [List.length_set]; omega)] at h
        cases h
    · rw [get_set_ne hj] at h ⊢
      exact S.own j es h
  · by_cases hj : i = j
    · by_cases hk : i = k
      · rw [← hj, ← hk]
      · exfalso
        subst hj
        rw [get_set_ne hk] at h2 h4
        by_cases hlt : i < σ.length
        · rw [get_set_eq hlt] at h3
          have z := V.ref.inj (Option.some.inj (Option.some.inj h3))
          subst z
          exact nw k fs hk h2 h4
        · rw [List.getElem?_eq_none (by rw [List.length_set]; omega)] at h3
          cases h3
    · by_cases hk : i = k
      · exfalso
        subst hk
        rw [get_set_ne hj] at h1 h3
        by_cases hlt : i < σ.length
        · rw [get_set_eq hlt] at h4
          have z := V.ref.inj (Option.some.inj (Option.some.inj h4))
          subst z
          exact nw j es hj h1 h3
        · rw [List.getElem?_eq_none (by rw [List.length_set]; omega)] at h4
          cases h4
      · rw [get_set_ne hj] at h1 h3
        rw [get_set_ne hk] at h2 h4
        exact S.inj j k es fs m h1 h2 h3 h4
/-- a slot is emptied -/
theorem Sig.setEmp (S : Sig K G0 H0 G ρ σ H) {i : Nat} {v : Option V} : Sig K G0 H0 G (ρ.set i .emp) (σ.set i v) H := by
  have nj : ∀ m s, s ≠ Slot.emp → (ρ.set i .emp)[m]? = some s → i ≠ m := fun m s hs hm z => by
    subst z
    by_cases hl : i < ρ.length
    · rw [get_set_eq hl] at hm
      exact hs (Option.some.inj hm).symm
    · rw [List.getElem?_eq_none (by rw [List.length_set]; omega)] at hm
      cases hm
  refine ⟨S.ev, by rw [List.length_set, List.length_set]; exact S.len, fun j e h => ?_, fun j es h => ?_, fun j k es fs m h1 h2 h3 h4 => ?_⟩
  · have n := nj j (.val e) (fun z => nomatch z) h
    rw [get_set_ne n] at h ⊢
    exact S.val j e h
  · have n := nj j (.own es) (fun z => nomatch z) h
    rw [get_set_ne n] at h ⊢
    exact S.own j es h
  · have n1 := nj j (.own es) (fun z => nomatch z) h1
    have n2 := nj k (.own fs) (fun z => nomatch z) h2
    rw [get_set_ne n1] at h1 h3
    rw [get_set_ne n2] at h2 h4
    exact S.inj j k es fs m h1 h2 h3 h4
/-- a list of one's own is changed -/
theorem Sig.chg (S : Sig K G0 H0 G ρ σ H) {i : Nat} {l : Addr} {ds es : List D} {ys : List V} (hi : ρ[i]? = some (.own ds)) (hs : σ[i]? = some (some (.ref l))) (r : Rps K G ys es) :
    Sig K G0 H0 G (ρ.set i (.own es)) σ (upd H l (.lst ys)) := by
  obtain ⟨l', xs, h1, h2, h3, h4, h5⟩ := S.own i ds hi
  have e : l' = l := by
    rw [hs] at h1
    exact (V.ref.inj (Option.some.inj (Option.some.inj h1))).symm
  subst e
  have hlt : i < ρ.length := (List.getElem?_eq_some_iff.mp hi).1
  refine ⟨⟨fun b u q => ?_, S.ev.gs, fun b u q => ?_, S.ev.new⟩, by rw [List.length_set]; exact S.len, fun j e h => ?_, fun j fs h => ?_, fun j k fs gs m q1 q2 q3 q4 => ?_⟩
  · rw [upd_ne (ne_of_none q h2)]
    exact S.ev.hs b u q
  · rw [upd_ne (ne_of_none q h3)]
    exact S.ev.sub b u q
  · by_cases hj : i = j
    · subst hj
      rw [get_set_eq hlt] at h
      cases h
    · rw [get_set_ne hj] at h
      exact S.val j e h
  · by_cases hj : i = j
    · subst hj
      rw [get_set_eq hlt] at h
      have z := Slot.own.inj (Option.some.inj h)
      subst z
      exact ⟨l', ys, hs, h2, h3, upd_same, r⟩
    · rw [get_set_ne hj] at h
      obtain ⟨m, zs, k1, k2, k3, k4, k5⟩ := S.own j fs h
      refine ⟨m, zs, k1, k2, k3, ?_, k5⟩
      rw [upd_ne]
      · exact k4
      · intro z
        subst z
        exact hj (S.inj i j ds fs m hi h hs k1)
  · have old : ∀ m fs, (ρ.set i (Slot.own es))[m]? = some (Slot.own fs) → ∃ fs', ρ[m]? = some (Slot.own fs') := fun m fs q => by
      by_cases hm : i = m
      · subst hm
        exact ⟨ds, hi⟩
      · rw [get_set_ne hm] at q
        exact ⟨fs, q⟩
    obtain ⟨_, o1⟩ := old j fs q1
    obtain ⟨_, o2⟩ := old k gs q2
    exact S.inj j k _ _ m o1 o2 q3 q4
/-- a list of one's own is shared from now on -/
theorem Sig.freeze (S : Sig K G0 H0 G ρ σ H) {i : Nat} {ds : List D} (hi : ρ[i]? = some (.own ds)) : ∃ G', Same G G' ∧ Sig K G0 H0 G' (ρ.set i (.val (.lst ds))) σ H := by
  obtain ⟨l, xs, h1, h2, h3, h4, h5⟩ := S.own i ds hi
  have hlt : i < ρ.length := (List.getElem?_eq_some_iff.mp hi).1
  have e : Same G (upd G l (.lst xs)) := fun b u q => by
    rw [upd_ne (ne_of_none q h3)]
    exact q
  refine ⟨upd G l (.lst xs), e, ⟨S.ev.hs, S.ev.gs.trans e, fun b u q => ?_, fun b ys q g => ?_⟩, by rw [List.length_set]; exact S.len, fun j d h => ?_, fun j fs h => ?_, fun j k fs gs m q1 q2 q3 q4 => ?_⟩
  · by_cases hb : b = l
    · subst hb
      rw [upd_same] at q
      rw [h4]
      exact q
    · rw [upd_ne hb] at q
      exact S.ev.sub b u q
  · rw [upd_ne (ne_of_none q h2)]
    exact S.ev.new b ys q g
  · by_cases hj : i = j
    · subst hj
      rw [get_set_eq hlt] at h
      have z := Slot.val.inj (Option.some.inj h)
      subst z
      exact ⟨_, h1, .lst upd_same (h5.mono e)⟩
    · rw [get_set_ne hj] at h
      obtain ⟨v, k1, k2⟩ := S.val j d h
      exact ⟨v, k1, k2.mono e⟩
  · by_cases hj : i = j
    · subst hj
      rw [get_set_eq hlt] at h
      cases h
    · rw [get_set_ne hj] at h
      obtain ⟨m, zs, k1, k2, k3, k4, k5⟩ := S.own j fs h
      refine ⟨m, zs, k1, k2, ?_, k4, k5.mono e⟩
      rw [upd_ne]
      · exact k3
      · intro z
        subst z
        exact hj (S.inj i j ds fs m hi h h1 k1)
  · have old : ∀ m fs, (ρ.set i (Slot.val (.lst ds)))[m]? = some (Slot.own fs) → ∃ fs', ρ[m]? = some (Slot.own fs') := fun m fs q => by
      by_cases hm : i = m
      · subst hm
        exact ⟨ds, hi⟩
      · rw [get_set_ne hm] at q
        exact ⟨fs, q⟩
    obtain ⟨_, o1⟩ := old j fs q1
    obtain ⟨_, o2⟩ := old k gs q2
    exact S.inj j k _ _ m o1 o2 q3 q4
end

/-! ### results and judgements -/
inductive Res where
  | val (d : D) | own (ds : List D) | bor (ds : List D)
def Res.dat : Res → D
  | .val d => d
  | .own ds => .lst ds
  | .bor ds => .lst ds
def ROk (K : PySem.W.Frag) (H G' H' : Hp) (v : V) : Res → Prop
  | .val d => Rp K G' v d
  | .own ds => ∃ l xs, v = .ref l ∧ H l = none ∧ G' l = none ∧ H' l = some (.lst xs) ∧ Rps K G' xs ds
  | .bor ds => ∃ l xs, v = .ref l ∧ G' l = none ∧ H' l = some (.lst xs) ∧ Rps K G' xs ds
inductive ROks (K : PySem.W.Frag) (H G' H' : Hp) : List V → List Res → Prop
  | nil : ROks K H G' H' [] []
  | cons {v : V} {vs : List V} {r : Res} {rs : List Res} : ROk K H G' H' v r → ROks K H G' H' vs rs → ROks K H G' H' (v :: vs) (r :: rs)
section
variable {K : PySem.W.Frag} {H G1 H1 G2 H2 : Hp}
theorem ROk.step {v : V} : ∀ {r : Res}, ROk K H G1 H1 v r → Ev G1 H1 G2 H2 → ROk K H G2 H2 v r
  | .val d, h, e => Rp.mono e.gs h
  | .own ds, ⟨l, xs, h1, h2, h3, h4, h5⟩, e => ⟨l, xs, h1, h2, e.new l xs h4 h3, e.hs _ _ h4, h5.mono e.gs⟩
  | .bor ds, ⟨l, xs, h1, h3, h4, h5⟩, e => ⟨l, xs, h1, e.new l xs h4 h3, e.hs _ _ h4, h5.mono e.gs⟩
theorem ROk.rd {v : V} (s : Same G1 H1) : ∀ {r : Res}, ROk K H G1 H1 v r → Rp K H1 v r.dat
  | .val d, h => Rp.mono s h
  | .own ds, ⟨l, xs, h1, h2, h3, h4, h5⟩ => by
    subst h1
    exact .lst h4 (h5.mono s)
  | .bor ds, ⟨l, xs, h1, h3, h4, h5⟩ => by
    subst h1
    exact .lst h4 (h5.mono s)
theorem ROk.from {H0 : Hp} {v : V} (s : ∀ l, H l = none → H0 l = none) : ∀ {r : Res}, ROk K H G1 H1 v r → ROk K H0 G1 H1 v r
  | .val d, h => h
  | .own ds, ⟨l, xs, h1, h2, h3, h4, h5⟩ => ⟨l, xs, h1, s l h2, h3, h4, h5⟩
  | .bor ds, h => h
theorem ROks.step : ∀ {vs : List V} {rs : List Res}, ROks K H G1 H1 vs rs → Ev G1 H1 G2 H2 → ROks K H G2 H2 vs rs
  | _, _, .nil, _ => .nil
  | _, _, .cons h t, e => .cons (h.step e) (ROks.step t e)
theorem ROks.from {H0 : Hp} (s : ∀ l, H l = none → H0 l = none) : ∀ {vs : List V} {rs : List Res}, ROks K H G1 H1 vs rs → ROks K H0 G1 H1 vs rs
  | _, _, .nil => .nil
  | _, _, .cons h t => .cons (h.from s) (ROks.from s t)
theorem ROks.rd (s : Same G1 H1) : ∀ {vs : List V} {rs : List Res}, ROks K H G1 H1 vs rs → Rps K H1 vs (rs.map Res.dat)
  | _, _, .nil => .nil
  | _, _, .cons h t => .cons (h.rd s) (ROks.rd s t)
end
/-- what may be raised, and what is wanted of it -/
def Lk (K : PySem.W.Frag) (Ex : Value → List Slot → Prop) (E : L2.St → XK) (G0 H0 : Hp) : Prop := ∀ c ρ, Ex c ρ → ∀ (G : Hp) (σ : L2.St) (H : Hp) (dx : Option Addr), Sig K G0 H0 G ρ σ H → DxOk dx H → E σ c dx H
/-- an expression -/
def tE (K : PySem.W.Frag) (Ex : Value → List Slot → Prop) (E : L2.St → XK) (t : TE) (ρ : List Slot) (R : Res → Prop) : Prop :=
  ∀ (G0 H0 G : Hp) (σ : L2.St) (H : Hp) (Q : VK), Sig K G0 H0 G ρ σ H → Lk K Ex E G0 H0 →
    (∀ r, R r → ∀ (v : V) (G' H' : Hp), Ev G H G' H' → ROk K H G' H' v r → Q v H') → t σ H Q
/-- a test -/
def tT (K : PySem.W.Frag) (Ex : Value → List Slot → Prop) (E : L2.St → XK) (t : TT) (ρ : List Slot) (R : Bool → Prop) : Prop :=
  ∀ (G0 H0 G : Hp) (σ : L2.St) (H : Hp) (Q : Bool → Hp → Prop), Sig K G0 H0 G ρ σ H → Lk K Ex E G0 H0 →
    (∀ b, R b → ∀ (G' H' : Hp), Ev G H G' H' → Q b H') → t σ H Q
/-- arguments, each as it comes -/
def tA (K : PySem.W.Frag) (Ex : Value → List Slot → Prop) (E : L2.St → XK) (t : TA) (ρ : List Slot) (R : List Res → Prop) : Prop :=
  ∀ (G0 H0 G : Hp) (σ : L2.St) (H : Hp) (Q : List V → Hp → Prop), Sig K G0 H0 G ρ σ H → Lk K Ex E G0 H0 →
    (∀ rs, R rs → ∀ (vs : List V) (G' H' : Hp), Ev G H G' H' → ROks K H G' H' vs rs → Q vs H') → t σ H Q
/-- an expression whose value is shared from then on -/
def tV (K : PySem.W.Frag) (Ex : Value → List Slot → Prop) (E : L2.St → XK) (t : TE) (ρ : List Slot) (R : D → Prop) : Prop :=
  ∀ (G0 H0 G : Hp) (σ : L2.St) (H : Hp) (Q : VK), Sig K G0 H0 G ρ σ H → Lk K Ex E G0 H0 →
    (∀ d, R d → ∀ (v : V) (G' H' : Hp), Ev G H G' H' → Rp K G' v d → Q v H') → t σ H Q
def tVs (K : PySem.W.Frag) (Ex : Value → List Slot → Prop) (E : L2.St → XK) (t : TA) (ρ : List Slot) (R : List D → Prop) : Prop :=
  ∀ (G0 H0 G : Hp) (σ : L2.St) (H : Hp) (Q : List V → Hp → Prop), Sig K G0 H0 G ρ σ H → Lk K Ex E G0 H0 →
    (∀ ds, R ds → ∀ (vs : List V) (G' H' : Hp), Ev G H G' H' → Rps K G' vs ds → Q vs H') → t σ H Q
/-- what is wanted behind a statement, by data -/
structure DE where
  nx : List Slot → Prop
  rt : Res → Prop
  bk : List Slot → Prop := fun _ => False
  ct : List Slot → Prop := fun _ => False
structure EndsOk (K : PySem.W.Frag) (G0 H0 : Hp) (De : DE) (D : Ends) : Prop where
  nx : ∀ (ρ : List Slot) (G : Hp) (σ : L2.St) (H : Hp), De.nx ρ → Sig K G0 H0 G ρ σ H → D.nx σ H
  rt : ∀ (r : Res) (v : V) (G H : Hp), De.rt r → Ev G0 H0 G H → ROk K H0 G H v r → D.rt v H
  bk : ∀ (ρ : List Slot) (G : Hp) (σ : L2.St) (H : Hp), De.bk ρ → Sig K G0 H0 G ρ σ H → D.bk σ H
  ct : ∀ (ρ : List Slot) (G : Hp) (σ : L2.St) (H : Hp), De.ct ρ → Sig K G0 H0 G ρ σ H → D.ct σ H
def tS (K : PySem.W.Frag) (Ex : Value → List Slot → Prop) (E : L2.St → XK) (t : TS) (ρ : List Slot) (De : DE) : Prop :=
  ∀ (G0 H0 G : Hp) (σ : L2.St) (H : Hp) (D : Ends), Sig K G0 H0 G ρ σ H → Lk K Ex E G0 H0 → EndsOk K G0 H0 De D → t D σ H
end Y
end

section
namespace Y
open PySem PySem.Spec PyProof.Rows L2
/-- ρ' is ρ with s in slot i -/
inductive SS : List Slot → Nat → Slot → List Slot → Prop
  | zero {x s : Slot} {r : List Slot} : SS (x :: r) 0 s (s :: r)
  | succ {x s : Slot} {r r' : List Slot} {i : Nat} : SS r i s r' → SS (x :: r) (i + 1) s (x :: r')
theorem SS.eq : ∀ {ρ ρ' : List Slot} {i : Nat} {s : Slot}, SS ρ i s ρ' → ρ' = ρ.set i s
  | _, _, _, _, .zero => rfl
  | _, _, _, _, .succ h => by rw [SS.eq h]; rfl
/-- scalars: the same in every heap -/
def Sc (v : V) (d : D) : Prop := ∀ K G, Rp K G v d
theorem sc_int {i : Int} : Sc (.int i) (.int i) := fun _ _ => .int i
theorem sc_bl {b : Bool} : Sc (.bl b) (.bl b) := fun _ _ => .bl b
theorem sc_str {x : Str} : Sc (.str x) (.str x) := fun _ _ => .str x
theorem sc_non : Sc .non .non := fun _ _ => .non
theorem sc_ty {n : String} : Sc (.ty n) (.ty n) := fun _ _ => .ty n
section inv
variable {K : PySem.W.Frag} {G : Hp} {v : V}
theorem Rp.inv_int {i : Int} (h : Rp K G v (.int i)) : v = .int i := by cases h; rfl
theorem Rp.inv_bl {b : Bool} (h : Rp K G v (.bl b)) : v = .bl b := by cases h; rfl
theorem Rp.inv_str {x : Str} (h : Rp K G v (.str x)) : v = .str x := by cases h; rfl
theorem Rp.inv_non (h : Rp K G v .non) : v = .non := by cases h; rfl
theorem Rp.inv_ty {n : String} (h : Rp K G v (.ty n)) : v = .ty n := by cases h; rfl
theorem Rp.inv_cls {C : Addr} (h : Rp K G v (.cls C)) : v = .ref C := by cases h; rfl
theorem Rp.inv_tup {ds : List D} (h : Rp K G v (.tup ds)) : ∃ a xs, v = .ref a ∧ SqT K G a xs ∧ Rps K G xs ds := by cases h with | tup h r => exact ⟨_, _, rfl, h, r⟩
theorem Rp.inv_lst {ds : List D} (h : Rp K G v (.lst ds)) : ∃ a xs, v = .ref a ∧ G a = some (.lst xs) ∧ Rps K G xs ds := by cases h with | lst h r => exact ⟨_, _, rfl, h, r⟩
theorem Rp.inv_fz {ds : List D} (h : Rp K G v (.fz ds)) : ∃ a xs, v = .ref a ∧ SqL K G a xs ∧ Rps K G xs ds := by cases h with | fz h r => exact ⟨_, _, rfl, h, r⟩
theorem Rp.inv_exc {C : Addr} (h : Rp K G v (.exc C)) : ∃ a dx, v = .ref a ∧ G a = some (ExcO C dx a) ∧ DxOk dx G := by cases h with | exc h hd => exact ⟨_, _, rfl, h, hd⟩
end inv
/-- a value that is shared -/
def vR (R : D → Prop) : Res → Prop
  | .val d => R d
  | .own ds => R (.lst ds)
  | .bor _ => False
/-- a value that is put into a slot -/
def asgR (k : Slot → Prop) : Res → Prop
  | .val d => k (.val d)
  | .own ds => k (.own ds)
  | .bor _ => False

section
variable {K : PySem.W.Frag} {Ex : Value → List Slot → Prop} {E : L2.St → XK} {ρ : List Slot} {R : Res → Prop}
theorem tE.imp {t : TE} {R R' : Res → Prop} (h : tE K Ex E t ρ R) (q : ∀ r, R r → R' r) : tE K Ex E t ρ R' := fun G0 H0 G σ H Q S X k => h G0 H0 G σ H Q S X fun r hr => k r (q r hr)
theorem e_val {i : Nat} {d : D} (hi : ρ[i]? = some (.val d)) (h : R (.val d)) : tE K Ex E (tVar i) ρ R := fun G0 H0 G σ H Q S X k => by
  obtain ⟨v, h1, h2⟩ := S.val i d hi
  exact ⟨v, h1, k (.val d) h v G H (Ev.refl S.ev.sub) h2⟩
theorem e_own {i : Nat} {ds : List D} (hi : ρ[i]? = some (.own ds)) (h : R (.bor ds)) : tE K Ex E (tVar i) ρ R := fun G0 H0 G σ H Q S X k => by
  obtain ⟨l, xs, h1, h2, h3, h4, h5⟩ := S.own i ds hi
  exact ⟨_, h1, k (.bor ds) h _ G H (Ev.refl S.ev.sub) ⟨l, xs, rfl, h3, h4, h5⟩⟩
theorem e_c {v : V} {d : D} (s : Sc v d) (h : R (.val d)) : tE K Ex E (tC v) ρ R := fun G0 H0 G σ H Q S X k => k (.val d) h v G H (Ev.refl S.ev.sub) (s K G)
theorem e_int {i : Int} (h : R (.val (.int i))) : tE K Ex E (tC (.int i)) ρ R := e_c sc_int h
theorem e_bl {b : Bool} (h : R (.val (.bl b))) : tE K Ex E (tC (.bl b)) ρ R := e_c sc_bl h
theorem e_str {x : Str} (h : R (.val (.str x))) : tE K Ex E (tC (.str x)) ρ R := e_c sc_str h
theorem e_non (h : R (.val .non)) : tE K Ex E (tC .non) ρ R := e_c sc_non h
theorem e_ty {n : String} (h : R (.val (.ty n))) : tE K Ex E (tC (.ty n)) ρ R := e_c sc_ty h
theorem e_cls {C : Addr} (h : R (.val (.cls C))) : tE K Ex E (tC (.ref C)) ρ R := e_c (fun _ _ => .cls C) h
/-- operators of scalars -/
def OpS (K : PySem.W.Frag) (r : R2) (f : D → D → (D → Prop) → Prop) : Prop :=
  ∀ (H : Hp) (x y : V) (d e : D) (Q : VK) (k : D → Prop), Rp K H x d → Rp K H y e → f d e k → (∀ d' v, k d' → Sc v d' → Q v H) → r x y H Q
theorem e_op {r : R2} {f : D → D → (D → Prop) → Prop} {ta tb : TE} (o : OpS K r f) (h : tE K Ex E ta ρ fun a => tE K Ex E tb ρ fun b => f a.dat b.dat fun d => R (.val d)) : tE K Ex E (tOp r ta tb) ρ R :=
  fun G0 H0 G σ H Q S X k => h G0 H0 G σ H _ S X fun a ha v G1 H1 e1 r1 => ha G0 H0 G1 σ H1 _ (S.step e1) X fun b hb u G2 H2 e2 r2 =>
    o H2 v u a.dat b.dat Q _ ((r1.step e2).rd e2.sub) (r2.rd e2.sub) hb fun d' w hk hs => k (.val d') hk w G2 H2 (e1.trans e2) (hs K G2)
def UnS (K : PySem.W.Frag) (r : V → Hp → VK → Prop) (f : D → (D → Prop) → Prop) : Prop :=
  ∀ (H : Hp) (x : V) (d : D) (Q : VK) (k : D → Prop), Rp K H x d → f d k → (∀ d' v, k d' → Sc v d' → Q v H) → r x H Q
theorem e_un {r : V → Hp → VK → Prop} {f : D → (D → Prop) → Prop} {ta : TE} (o : UnS K r f) (h : tE K Ex E ta ρ fun a => f a.dat fun d => R (.val d)) : tE K Ex E (tUn r ta) ρ R :=
  fun G0 H0 G σ H Q S X k => h G0 H0 G σ H _ S X fun a ha v G1 H1 e1 r1 =>
    o H1 v a.dat Q _ (r1.rd e1.sub) ha fun d' w hk hs => k (.val d') hk w G1 H1 e1 (hs K G1)
theorem e_and {ta tb : TE} (h : tE K Ex E ta ρ fun a => ∃ c, a.dat = .bl c ∧ (c = true → tE K Ex E tb ρ R) ∧ (c = false → R (.val (.bl false)))) : tE K Ex E (tAndV ta tb) ρ R :=
  fun G0 H0 G σ H Q S X k => h G0 H0 G σ H _ S X fun a ⟨c, hd, h1, h2⟩ v G1 H1 e1 r1 => by
    have r := r1.rd e1.sub
    rw [hd] at r
    refine ⟨c, r.inv_bl, ?_⟩
    cases c with
    | true => exact iteT ((h1 rfl) G0 H0 G1 σ H1 Q (S.step e1) X fun b hb u G2 H2 e2 r2 => k b hb u G2 H2 (e1.trans e2) (r2.from fun l n => e1.hs.free n))
    | false => exact iteF (k _ (h2 rfl) _ G1 H1 e1 (.bl false))
theorem e_or {ta tb : TE} (h : tE K Ex E ta ρ fun a => ∃ c, a.dat = .bl c ∧ (c = false → tE K Ex E tb ρ R) ∧ (c = true → R (.val (.bl true)))) : tE K Ex E (tOrV ta tb) ρ R :=
  fun G0 H0 G σ H Q S X k => h G0 H0 G σ H _ S X fun a ⟨c, hd, h1, h2⟩ v G1 H1 e1 r1 => by
    have r := r1.rd e1.sub
    rw [hd] at r
    refine ⟨c, r.inv_bl, ?_⟩
    cases c with
    | false => exact iteF ((h1 rfl) G0 H0 G1 σ H1 Q (S.step e1) X fun b hb u G2 H2 e2 r2 => k b hb u G2 H2 (e1.trans e2) (r2.from fun l n => e1.hs.free n))
    | true => exact iteT (k _ (h2 rfl) _ G1 H1 e1 (.bl true))
theorem e_not {ta : TE} (h : tE K Ex E ta ρ fun a => ∃ c, a.dat = .bl c ∧ R (.val (.bl (!c)))) : tE K Ex E (tNotV ta) ρ R :=
  fun G0 H0 G σ H Q S X k => h G0 H0 G σ H _ S X fun a ⟨c, hd, h1⟩ v G1 H1 e1 r1 => by
    have r := r1.rd e1.sub
    rw [hd] at r
    exact ⟨c, r.inv_bl, k _ h1 _ G1 H1 e1 (.bl _)⟩
theorem e_if {tc : TT} {ta tb : TE} (h : tT K Ex E tc ρ fun c => (c = true → tE K Ex E ta ρ R) ∧ (c = false → tE K Ex E tb ρ R)) : tE K Ex E (tIf tc ta tb) ρ R :=
  fun G0 H0 G σ H Q S X k => h G0 H0 G σ H _ S X fun c hc G1 H1 e1 => by
    have fin : ∀ {t : TE}, tE K Ex E t ρ R → t σ H1 Q := fun q => q G0 H0 G1 σ H1 Q (S.step e1) X fun b hb u G2 H2 e2 r2 => k b hb u G2 H2 (e1.trans e2) (r2.from fun l n => e1.hs.free n)
    cases c with
    | true => exact iteT (fin (hc.1 rfl))
    | false => exact iteF (fin (hc.2 rfl))
/-- a op b op' c -/
theorem e_chain {r r' : R2} {f f' : D → D → (D → Prop) → Prop} {ta tb tc : TE} (o : OpS K r f) (o' : OpS K r' f')
    (h : tE K Ex E ta ρ fun a => tE K Ex E tb ρ fun b => f a.dat b.dat fun d => ∃ c, d = .bl c ∧ (c = true → tE K Ex E tc ρ fun z => f' b.dat z.dat fun d' => R (.val d')) ∧ (c = false → R (.val (.bl false)))) : tE K Ex E (tChain r r' ta tb tc) ρ R :=
  fun G0 H0 G σ H Q S X k => h G0 H0 G σ H _ S X fun a ha v G1 H1 e1 r1 => ha G0 H0 G1 σ H1 _ (S.step e1) X fun b hb u G2 H2 e2 r2 =>
    o H2 v u a.dat b.dat _ _ ((r1.step e2).rd e2.sub) (r2.rd e2.sub) hb fun d' w ⟨c, hd, h1, h2⟩ hs => by
      subst hd
      refine ⟨c, (hs K G2).inv_bl, ?_⟩
      cases c with
      | false => exact iteF (k _ (h2 rfl) _ G2 H2 (e1.trans e2) (.bl false))
      | true => exact iteT ((h1 rfl) G0 H0 G2 σ H2 _ ((S.step e1).step e2) X fun z hz w' G3 H3 e3 r3 =>
          o' H3 u w' b.dat z.dat Q _ ((r2.step e3).rd e3.sub) (r3.rd e3.sub) hz fun d'' w'' hk hs' => k (.val d'') hk w'' G3 H3 ((e1.trans e2).trans e3) (hs' K G3))
/-! tests -/
theorem t_test {t : TE} {R : Bool → Prop} (h : tE K Ex E t ρ fun a => ∃ c, a.dat = .bl c ∧ R c) : tT K Ex E (tTest t) ρ R :=
  fun G0 H0 G σ H Q S X k => h G0 H0 G σ H _ S X fun a ⟨c, hd, h1⟩ v G1 H1 e1 r1 => by
    have r := r1.rd e1.sub
    rw [hd] at r
    exact ⟨c, r.inv_bl, k c h1 G1 H1 e1⟩
theorem t_b {t : TE} {R : Bool → Prop} (h : tE K Ex E t ρ fun a => ∃ c, a.dat = .bl c ∧ R c) : tT K Ex E (tB t) ρ R := t_test h
theorem t_not {t : TT} {R : Bool → Prop} (h : tT K Ex E t ρ fun c => R (!c)) : tT K Ex E (tNot t) ρ R := fun G0 H0 G σ H Q S X k => h G0 H0 G σ H _ S X fun c hc G1 H1 e1 => k _ hc G1 H1 e1
theorem t_and {t u : TT} {R : Bool → Prop} (h : tT K Ex E t ρ fun c => (c = true → tT K Ex E u ρ R) ∧ (c = false → R false)) : tT K Ex E (tAnd t u) ρ R :=
  fun G0 H0 G σ H Q S X k => h G0 H0 G σ H _ S X fun c hc G1 H1 e1 => by
    cases c with
    | true => exact iteT ((hc.1 rfl) G0 H0 G1 σ H1 Q (S.step e1) X fun b hb G2 H2 e2 => k b hb G2 H2 (e1.trans e2))
    | false => exact iteF (k _ (hc.2 rfl) G1 H1 e1)
theorem t_or {t u : TT} {R : Bool → Prop} (h : tT K Ex E t ρ fun c => (c = false → tT K Ex E u ρ R) ∧ (c = true → R true)) : tT K Ex E (tOr t u) ρ R :=
  fun G0 H0 G σ H Q S X k => h G0 H0 G σ H _ S X fun c hc G1 H1 e1 => by
    cases c with
    | false => exact iteF ((hc.1 rfl) G0 H0 G1 σ H1 Q (S.step e1) X fun b hb G2 H2 e2 => k b hb G2 H2 (e1.trans e2))
    | true => exact iteT (k _ (hc.2 rfl) G1 H1 e1)
/-- the truth of data -/
def TrD : D → Bool → Prop
  | .non, k => k = false
  | .bl b, k => k = b
  | .int i, k => k = (i != 0)
  | .str y, k => y.length ≤ sizeLine ∧ k = ((y.length : Int) != 0)
  | .lst ds, k => k = !ds.isEmpty
  | .fz ds, k => k = !ds.isEmpty
  | .tup ds, k => k = !ds.isEmpty
  | _, _ => False
theorem isE {K : PySem.W.Frag} {G : Hp} {xs : List V} {ds : List D} (r : Rps K G xs ds) : xs.isEmpty = ds.isEmpty := by cases r <;> rfl
theorem trD_ok {H : Hp} {v : V} {d : D} {k : Bool} (r : Rp K H v d) (h : TrD d k) : TruV K v H k := by
  cases r with
  | non => exact h
  | bl b => exact h
  | int i => exact h
  | str x => exact h
  | ty n => exact h.elim
  | cls C => exact h.elim
  | tup s q => exact .inr (.inl ⟨_, s, by rw [isE q]; exact h⟩)
  | lst s q => exact .inl ⟨_, .inl (.inl s), by rw [isE q]; exact h⟩
  | fz s q => exact .inl ⟨_, s, by rw [isE q]; exact h⟩
  | exc s => exact h.elim
  | dk0 s => exact h.elim
  | pin s => exact h.elim
def tTru (K : PySem.W.Frag) (ta : TE) : TT := fun σ H Q => ta σ H fun x H' => ∃ k, TruV K x H' k ∧ Q k H'
theorem t_tru {ta : TE} {R : Bool → Prop} (h : tE K Ex E ta ρ fun a => ∃ c, TrD a.dat c ∧ R c) : tT K Ex E (tTru K ta) ρ R :=
  fun G0 H0 G σ H Q S X k => h G0 H0 G σ H _ S X fun a ⟨c, hd, h1⟩ v G1 H1 e1 r1 => ⟨c, trD_ok (r1.rd e1.sub) hd, k c h1 G1 H1 e1⟩
/-! arguments -/
theorem v_of {t : TE} {R : D → Prop} (h : tE K Ex E t ρ (vR R)) : tV K Ex E t ρ R :=
  fun G0 H0 G σ H Q S X k => h G0 H0 G σ H _ S X fun r hr v G1 H1 e1 r1 => by
    cases r with
    | val d => exact k d hr v G1 H1 e1 r1
    | own ds =>
      obtain ⟨l, xs, rfl, h2, h3, h4, h5⟩ := r1
      have gs : Same G1 (upd G1 l (.lst xs)) := fun b u q => by
        rw [upd_ne (ne_of_none q h3)]
        exact q
      refine k _ hr _ (upd G1 l (.lst xs)) H1 ⟨e1.hs, e1.gs.trans gs, fun b u q => ?_, fun b ys q g => ?_⟩ (.lst upd_same (h5.mono gs))
      · by_cases hb : b = l
        · subst hb
          rw [upd_same] at q
          rw [h4]
          exact q
        · rw [upd_ne hb] at q
          exact e1.sub b u q
      · rw [upd_ne (ne_of_none q h2)]
        exact e1.new b ys q g
    | bor ds => exact hr.elim
theorem vs_nil {R : List D → Prop} (h : R []) : tVs K Ex E tNil ρ R := fun G0 H0 G σ H Q S X k => k [] h [] G H (Ev.refl S.ev.sub) .nil
theorem vs_cons {t : TE} {tr : TA} {R : List D → Prop} (h : tE K Ex E t ρ (vR fun d => tVs K Ex E tr ρ fun ds => R (d :: ds))) : tVs K Ex E (tCons t tr) ρ R :=
  fun G0 H0 G σ H Q S X k => (v_of h) G0 H0 G σ H _ S X fun d hd v G1 H1 e1 r1 => hd G0 H0 G1 σ H1 _ (S.step e1) X fun ds hds vs G2 H2 e2 r2 => k (d :: ds) hds (v :: vs) G2 H2 (e1.trans e2) (.cons (r1.mono e2.gs) r2)
theorem a_nil {R : List Res → Prop} (h : R []) : tA K Ex E tNil ρ R := fun G0 H0 G σ H Q S X k => k [] h [] G H (Ev.refl S.ev.sub) .nil
theorem a_cons {t : TE} {tr : TA} {R : List Res → Prop} (h : tE K Ex E t ρ fun r => tA K Ex E tr ρ fun rs => R (r :: rs)) : tA K Ex E (tCons t tr) ρ R :=
  fun G0 H0 G σ H Q S X k => h G0 H0 G σ H _ S X fun r hr v G1 H1 e1 r1 => hr G0 H0 G1 σ H1 _ (S.step e1) X fun rs hrs vs G2 H2 e2 r2 => k (r :: rs) hrs (v :: vs) G2 H2 (e1.trans e2) (.cons (r1.step e2) (r2.from fun l n => e1.hs.free n))
theorem e_tup {t : TA} (h : tVs K Ex E t ρ fun ds => ds.length ≤ sizeLine ∧ R (.val (.tup ds))) : tE K Ex E (tTup t) ρ R :=
  fun G0 H0 G σ H Q S X k => h G0 H0 G σ H _ S X fun ds ⟨hl, hr⟩ vs G1 H1 e1 r1 => ⟨by rw [r1.length]; exact hl, fun p np =>
    k _ hr _ (upd G1 p (.tup vs)) _ (e1.trans (Ev.laid e1.sub np)) (.tup (.inl (.inl upd_same)) (r1.mono (Ev.laid (o := .tup vs) e1.sub np).gs))⟩
theorem e_lst {t : TA} (h : tVs K Ex E t ρ fun ds => ds.length ≤ sizeLine ∧ R (.own ds)) : tE K Ex E (tLst t) ρ R :=
  fun G0 H0 G σ H Q S X k => h G0 H0 G σ H _ S X fun ds ⟨hl, hr⟩ vs G1 H1 e1 r1 => ⟨by rw [r1.length]; exact hl, fun p np =>
    k _ hr _ G1 _ (e1.trans (Ev.own e1.sub np)) ⟨p, vs, rfl, e1.hs.free np, e1.sub.free np, upd_same, r1⟩⟩
/-! built-ins of scalars' results -/
def CbS (K : PySem.W.Frag) (r : List V → Hp → VK → Prop) (f : List D → (D → Prop) → Prop) : Prop :=
  ∀ (H : Hp) (vs : List V) (ds : List D) (Q : VK) (k : D → Prop), Rps K H vs ds → f ds k → (∀ d' v, k d' → Sc v d' → Q v H) → r vs H Q
theorem e_cb {r : List V → Hp → VK → Prop} {f : List D → (D → Prop) → Prop} {t : TA} (o : CbS K r f) (h : tA K Ex E t ρ fun rs => f (rs.map Res.dat) fun d => R (.val d)) : tE K Ex E (tCB r t) ρ R :=
  fun G0 H0 G σ H Q S X k => h G0 H0 G σ H _ S X fun rs hrs vs G1 H1 e1 r1 => o H1 vs _ Q _ (r1.rd e1.sub) hrs fun d' w hk hs => k (.val d') hk w G1 H1 e1 (hs K G1)
/-! items -/
def IxD (a : D) (i : Int) (d : D) : Prop := match a with
  | .tup ds => atI ds i = some d
  | .lst ds => atI ds i = some d
  | .fz ds => atI ds i = some d
  | .str z => z.length ≤ sizeLine ∧ ∃ c, atI z.cps.toList i = some c ∧ d = .str ⟨#[c]⟩
  | _ => False
theorem Rps.at {G : Hp} {xs : List V} {ds : List D} {i : Int} {d : D} (r : Rps K G xs ds) (h : atI ds i = some d) : ∃ v, atI xs i = some v ∧ Rp K G v d := by
  unfold atI at h ⊢
  rw [r.length]
  cases e : ixN ds.length i with
  | none => rw [e] at h; cases h
  | some j =>
    rw [e] at h
    exact r.get j h
theorem e_ix {ta tb : TE} (h : tE K Ex E ta ρ fun a => tE K Ex E tb ρ fun b => ∃ i d, b.dat = .int i ∧ IxD a.dat i d ∧ R (.val d)) : tE K Ex E (tOp (rIx K) ta tb) ρ R :=
  fun G0 H0 G σ H Q S X k => h G0 H0 G σ H _ S X fun a ha v G1 H1 e1 r1 => ha G0 H0 G1 σ H1 _ (S.step e1) X fun b hb u G2 H2 e2 r2 => by
    obtain ⟨i, d, hi, hx, hr⟩ := hb
    have hu := r2.rd e2.sub
    rw [hi] at hu
    have hu := hu.inv_int
    subst hu
    have r1 := r1.step e2
    have fin : ∀ w, Rp K G2 w d → Q w H2 := fun w q => k (.val d) hr w G2 H2 (e1.trans e2) q
    have lst : ∀ (l : Addr) (xs : List V) (ds : List D), SqL K H2 l xs → Rps K G2 xs ds → atI ds i = some d → rIx K (.ref l) (.int i) H2 Q := fun l xs ds s q z => by
      obtain ⟨w, hw, rw'⟩ := q.at z
      exact .inl ⟨l, xs, i, w, rfl, rfl, s, hw, fin w rw'⟩
    cases a with
    | val a =>
      cases (show Rp K G2 v a from r1) with
      | tup s q =>
        obtain ⟨w, hw, rw'⟩ := q.at (show atI _ i = some d from hx)
        exact .inr (.inl ⟨_, _, i, w, rfl, rfl, same_seqT e2.sub s, hw, fin w rw'⟩)
      | lst s q => exact lst _ _ _ (.inl (.inl (e2.sub _ _ s))) q hx
      | fz s q => exact lst _ _ _ (e2.sub.seq s) q hx
      | str z =>
        obtain ⟨hz, c, hc, hd⟩ := hx
        subst hd
        exact .inr (.inr ⟨z, i, c, rfl, rfl, hz, hc, fin _ (.str _)⟩)
      | non => exact hx.elim
      | bl _ => exact hx.elim
      | int _ => exact hx.elim
      | ty _ => exact hx.elim
      | cls _ => exact hx.elim
      | exc _ => exact hx.elim
      | dk0 _ => exact hx.elim
      | pin _ => exact hx.elim
    | own ds =>
      obtain ⟨l, xs, rfl, h2, h3, h4, h5⟩ := r1
      exact lst l xs ds (.inl (.inl h4)) h5 hx
    | bor ds =>
      obtain ⟨l, xs, rfl, h3, h4, h5⟩ := r1
      exact lst l xs ds (.inl (.inl h4)) h5 hx
/-! slices -/
def tOo (K : PySem.W.Frag) (Ex : Value → List Slot → Prop) (E : L2.St → XK) (t : TO) (ρ : List Slot) (R : Option Int → Prop) : Prop :=
  ∀ (G0 H0 G : Hp) (σ : L2.St) (H : Hp) (Q : Option Int → Hp → Prop), Sig K G0 H0 G ρ σ H → Lk K Ex E G0 H0 →
    (∀ o, R o → ∀ (G' H' : Hp), Ev G H G' H' → Q o H') → t σ H Q
theorem o_none {R : Option Int → Prop} (h : R none) : tOo K Ex E tNoPart ρ R := fun G0 H0 G σ H Q S X k => k none h G H (Ev.refl S.ev.sub)
theorem o_some {t : TE} {R : Option Int → Prop} (h : tE K Ex E t ρ fun a => ∃ i, a.dat = .int i ∧ R (some i)) : tOo K Ex E (tPart t) ρ R :=
  fun G0 H0 G σ H Q S X k => h G0 H0 G σ H _ S X fun a ⟨i, hd, h1⟩ v G1 H1 e1 r1 => by
    have r := r1.rd e1.sub
    rw [hd] at r
    exact ⟨i, r.inv_int, k (some i) h1 G1 H1 e1⟩
def cutD (ds : List D) (lo hi : Option Int) : List D := (ds.drop (HT.sIx ds.length 0 lo)).take (HT.sIx ds.length ds.length hi - HT.sIx ds.length 0 lo)
theorem Rps.cut {G : Hp} {xs : List V} {ds : List D} (r : Rps K G xs ds) (lo hi : Option Int) : Rps K G (cutV xs lo hi) (cutD ds lo hi) := by
  unfold cutV cutD
  rw [r.length]
  exact (r.drop _).take _
/-- what a slice gives -/
def SlD (a : D) (lo hi : Option Int) (R : Res → Prop) : Prop := match a with
  | .lst ds => R (.own (cutD ds lo hi))
  | .fz ds => R (.own (cutD ds lo hi))
  | .str z => z.length ≤ sizeLine ∧ R (.val (.str (cutS z lo hi)))
  | _ => False
def rSlU (K : PySem.W.Frag) : V → Option Int → Option Int → Hp → VK → Prop := fun x lo hi H Q => rSlL K x lo hi H Q ∨ rSlS x lo hi H Q
theorem e_sl {ta : TE} {tl th : TO} (h : tE K Ex E ta ρ fun a => tOo K Ex E tl ρ fun lo => tOo K Ex E th ρ fun hi => SlD a.dat lo hi R) : tE K Ex E (tSl (rSlU K) ta tl th) ρ R :=
  fun G0 H0 G σ H Q S X k => h G0 H0 G σ H _ S X fun a ha v G1 H1 e1 r1 => ha G0 H0 G1 σ H1 _ (S.step e1) X fun lo hlo G2 H2 e2 => hlo G0 H0 G2 σ H2 _ ((S.step e1).step e2) X fun hi hhi G3 H3 e3 => by
    have e := (e1.trans e2).trans e3
    have r1 := (r1.step e2).step e3
    have lst : ∀ (l : Addr) (xs : List V) (ds : List D), SqL K H3 l xs → Rps K G3 xs ds → R (.own (cutD ds lo hi)) → rSlU K (.ref l) lo hi H3 Q := fun l xs ds s q z =>
      .inl ⟨l, xs, rfl, s, fun p np => k _ z _ G3 _ (e.trans (Ev.own e3.sub np)) ⟨p, _, rfl, e.hs.free np, e3.sub.free np, upd_same, q.cut lo hi⟩⟩
    cases a with
    | val a =>
      cases (show Rp K G3 v a from r1) with
      | tup s q => exact hhi.elim
      | lst s q => exact lst _ _ _ (.inl (.inl (e3.sub _ _ s))) q hhi
      | fz s q => exact lst _ _ _ (e3.sub.seq s) q hhi
      | str z => exact .inr ⟨z, rfl, hhi.1, k _ hhi.2 _ G3 H3 e (.str _)⟩
      | non => exact hhi.elim
      | bl _ => exact hhi.elim
      | int _ => exact hhi.elim
      | ty _ => exact hhi.elim
      | cls _ => exact hhi.elim
      | exc _ => exact hhi.elim
      | dk0 _ => exact hhi.elim
      | pin _ => exact hhi.elim
    | own ds =>
      obtain ⟨l, xs, rfl, h2, h3, h4, h5⟩ := r1
      exact lst l xs ds (.inl (.inl h4)) h5 hhi
    | bor ds =>
      obtain ⟨l, xs, rfl, h3, h4, h5⟩ := r1
      exact lst l xs ds (.inl (.inl h4)) h5 hhi
/-! + of ints, texts, lists -/
def rAddU : R2 := fun x y H Q => rI0 (fun i j => .int (i + j)) x y H Q ∨ (∃ i j, x = .str i ∧ y = .str j ∧ i.length + j.length ≤ sizeLine ∧ Q (.str (i ++ j)) H) ∨ rCat x y H Q
def AddD (a b : D) (R : Res → Prop) : Prop :=
  (∃ i j, a = .int i ∧ b = .int j ∧ R (.val (.int (i + j)))) ∨ (∃ x y, a = .str x ∧ b = .str y ∧ x.length + y.length ≤ sizeLine ∧ R (.val (.str (x ++ y)))) ∨
    ∃ ds es, a = .lst ds ∧ b = .lst es ∧ ds.length + es.length ≤ sizeLine ∧ R (.own (ds ++ es))
/-- a list, wherever it comes from -/
theorem ROk.list {H G' H' : Hp} {v : V} {ds : List D} (s : Same G' H') : ∀ {r : Res}, ROk K H G' H' v r → r.dat = .lst ds → ∃ l xs, v = .ref l ∧ H' l = some (.lst xs) ∧ Rps K G' xs ds
  | .val d, h, e => by
    have e' : d = .lst ds := e
    subst e'
    obtain ⟨l, xs, h1, h2, h3⟩ := Rp.inv_lst h
    exact ⟨l, xs, h1, s _ _ h2, h3⟩
  | .own es, ⟨l, xs, h1, _, _, h4, h5⟩, e => by
    have e' := D.lst.inj e
    subst e'
    exact ⟨l, xs, h1, h4, h5⟩
  | .bor es, ⟨l, xs, h1, _, h4, h5⟩, e => by
    have e' := D.lst.inj e
    subst e'
    exact ⟨l, xs, h1, h4, h5⟩
theorem e_add {ta tb : TE} (h : tE K Ex E ta ρ fun a => tE K Ex E tb ρ fun b => AddD a.dat b.dat R) : tE K Ex E (tOp rAddU ta tb) ρ R :=
  fun G0 H0 G σ H Q S X k => h G0 H0 G σ H _ S X fun a ha v G1 H1 e1 r1 => ha G0 H0 G1 σ H1 _ (S.step e1) X fun b hb u G2 H2 e2 r2 => by
    have e := e1.trans e2
    have r1 := r1.step e2
    rcases hb with ⟨i, j, ha, hb, hr⟩ | ⟨x, y, ha, hb, hl, hr⟩ | ⟨ds, es, ha, hb, hl, hr⟩
    · have q1 := r1.rd e2.sub
      have q2 := r2.rd e2.sub
      rw [ha] at q1
      rw [hb] at q2
      exact .inl ⟨i, j, q1.inv_int, q2.inv_int, k _ hr _ G2 H2 e (.int _)⟩
    · have q1 := r1.rd e2.sub
      have q2 := r2.rd e2.sub
      rw [ha] at q1
      rw [hb] at q2
      exact .inr (.inl ⟨x, y, q1.inv_str, q2.inv_str, hl, k _ hr _ G2 H2 e (.str _)⟩)
    · obtain ⟨l, xs, rfl, h1, q1⟩ := r1.list e2.sub ha
      obtain ⟨m, ys, rfl, h2, q2⟩ := r2.list e2.sub hb
      exact .inr (.inr ⟨l, m, xs, ys, rfl, rfl, h1, h2, by rw [q1.length, q2.length]; exact hl, fun p np => k _ hr _ G2 _ (e.trans (Ev.own e2.sub np)) ⟨p, _, rfl, e.hs.free np, e2.sub.free np, upd_same, q1.append q2⟩⟩)
theorem Rps.rep {G : Hp} {xs : List V} {ds : List D} (r : Rps K G xs ds) : ∀ n : Nat, Rps K G (List.replicate n xs).flatten (List.replicate n ds).flatten
  | 0 => .nil
  | n + 1 => by
    rw [List.replicate_succ, List.replicate_succ, List.flatten_cons, List.flatten_cons]
    exact r.append (Rps.rep r n)
/-- * of ints, list * int -/
def rMulU : R2 := fun x y H Q => rI CMulW (fun i j => .int (i * j)) x y H Q ∨ rRep x y H Q
def MulD (a b : D) (R : Res → Prop) : Prop :=
  (∃ i j, a = .int i ∧ b = .int j ∧ CMulW i j ∧ R (.val (.int (i * j)))) ∨
    ∃ ds k, a = .lst ds ∧ b = .int k ∧ -(2 ^ 63) ≤ k ∧ k < 2 ^ 63 ∧ ds.length * k.toNat ≤ sizeLine ∧ R (.own (List.replicate k.toNat ds).flatten)
theorem e_mul {ta tb : TE} (h : tE K Ex E ta ρ fun a => tE K Ex E tb ρ fun b => MulD a.dat b.dat R) : tE K Ex E (tOp rMulU ta tb) ρ R :=
  fun G0 H0 G σ H Q S X k => h G0 H0 G σ H _ S X fun a ha v G1 H1 e1 r1 => ha G0 H0 G1 σ H1 _ (S.step e1) X fun b hb u G2 H2 e2 r2 => by
    have e := e1.trans e2
    have r1 := r1.step e2
    have q2 := r2.rd e2.sub
    rcases hb with ⟨i, j, ha, hb, hc, hr⟩ | ⟨ds, n, ha, hb, h1, h2, hl, hr⟩
    · have q1 := r1.rd e2.sub
      rw [ha] at q1
      rw [hb] at q2
      exact .inl ⟨i, j, q1.inv_int, q2.inv_int, hc, k _ hr _ G2 H2 e (.int _)⟩
    · rw [hb] at q2
      obtain ⟨l, xs, rfl, g1, q1⟩ := r1.list e2.sub ha
      exact .inr ⟨l, n, xs, rfl, q2.inv_int, g1, h1, h2, by rw [q1.length]; exact hl, fun p np => k _ hr _ G2 _ (e.trans (Ev.own e2.sub np)) ⟨p, _, rfl, e.hs.free np, e2.sub.free np, upd_same, q1.rep _⟩⟩
/-- list(x), x a list or a tuple -/
def rListU (K : PySem.W.Frag) : List V → Hp → VK → Prop := fun xs H Q => ∃ p ys, xs = [.ref p] ∧ (SqL K H p ys ∨ SqT K H p ys) ∧ ∀ l, H l = none → Q (.ref l) (upd H l (.lst ys))
def seqD : D → Option (List D)
  | .lst ds => some ds
  | .fz ds => some ds
  | .tup ds => some ds
  | _ => none
/-- a list or tuple, wherever it comes from -/
theorem ROk.seq {H G' H' : Hp} {v : V} {ds : List D} (s : Same G' H') : ∀ {r : Res}, ROk K H G' H' v r → seqD r.dat = some ds → ∃ l xs, v = .ref l ∧ (SqL K H' l xs ∨ SqT K H' l xs) ∧ Rps K G' xs ds
  | .val d, h, e => by
    cases (show Rp K G' v d from h) with
    | tup q r => cases (Option.some.inj e); exact ⟨_, _, rfl, .inr (same_seqT s q), r⟩
    | lst q r => cases (Option.some.inj e); exact ⟨_, _, rfl, .inl (.inl (.inl (s _ _ q))), r⟩
    | fz q r => cases (Option.some.inj e); exact ⟨_, _, rfl, .inl (s.seq q), r⟩
    | _ => cases e
  | .own es, ⟨l, xs, h1, _, _, h4, h5⟩, e => by
    have e' := Option.some.inj e
    subst e'
    exact ⟨l, xs, h1, .inl (.inl (.inl h4)), h5⟩
  | .bor es, ⟨l, xs, h1, _, h4, h5⟩, e => by
    have e' := Option.some.inj e
    subst e'
    exact ⟨l, xs, h1, .inl (.inl (.inl h4)), h5⟩
theorem e_list {t : TE} (h : tE K Ex E t ρ fun a => ∃ ds, seqD a.dat = some ds ∧ R (.own ds)) : tE K Ex E (tCB (rListU K) (tCons t tNil)) ρ R :=
  fun G0 H0 G σ H Q S X k => h G0 H0 G σ H _ S X fun a ⟨ds, hd, hr⟩ v G1 H1 e1 r1 => by
    obtain ⟨l, xs, rfl, h1, q1⟩ := r1.seq e1.sub hd
    exact ⟨l, xs, rfl, h1, fun p np => k _ hr _ G1 _ (e1.trans (Ev.own e1.sub np)) ⟨p, xs, rfl, e1.hs.free np, e1.sub.free np, upd_same, q1⟩⟩
end
end Y
end

section
namespace Y
open PySem PySem.Spec PyProof.Rows L2
section
variable {K : PySem.W.Frag} {Ex : Value → List Slot → Prop} {E : L2.St → XK} {ρ : List Slot} {De : DE}
theorem tS.imp {t : TS} {De' : DE} (h : tS K Ex E t ρ De) (q1 : ∀ ρ, De.nx ρ → De'.nx ρ) (q2 : ∀ r, De.rt r → De'.rt r) (q3 : ∀ ρ, De.bk ρ → De'.bk ρ) (q4 : ∀ ρ, De.ct ρ → De'.ct ρ) : tS K Ex E t ρ De' :=
  fun G0 H0 G σ H D S X k => h G0 H0 G σ H D S X ⟨fun a b c d e => k.nx a b c d (q1 a e), fun a b c d e => k.rt a b c d (q2 a e), fun a b c d e => k.bk a b c d (q3 a e), fun a b c d e => k.ct a b c d (q4 a e)⟩
theorem s_seq {t u : TS} (h : tS K Ex E t ρ { De with nx := fun ρ' => tS K Ex E u ρ' De }) : tS K Ex E (tSeq t u) ρ De :=
  fun G0 H0 G σ H D S X k => h G0 H0 G σ H { D with nx := u D } S X ⟨fun ρ' G' σ' H' q S' => q G0 H0 G' σ' H' D S' X k, k.rt, k.bk, k.ct⟩
theorem s_next (h : De.nx ρ) : tS K Ex E tNext ρ De := fun G0 H0 G σ H D S X k => k.nx ρ G σ H h S
theorem s_break (h : De.bk ρ) : tS K Ex E tBreak ρ De := fun G0 H0 G σ H D S X k => k.bk ρ G σ H h S
theorem s_cont (h : De.ct ρ) : tS K Ex E tCont ρ De := fun G0 H0 G σ H D S X k => k.ct ρ G σ H h S
theorem s_ret {te : TE} (h : tE K Ex E te ρ De.rt) : tS K Ex E (tRet te) ρ De :=
  fun G0 H0 G σ H D S X k => h G0 H0 G σ H _ S X fun r hr v G' H' e q => k.rt r v G' H' hr (S.ev.trans e) (q.from fun l n => S.ev.hs.free n)
/-- return of a list of one's own -/
theorem s_retOwn {i : Nat} {ds : List D} (hi : ρ[i]? = some (.own ds)) (h : De.rt (.own ds)) : tS K Ex E (tRet (tVar i)) ρ De :=
  fun G0 H0 G σ H D S X k => by
    obtain ⟨l, xs, h1, h2, h3, h4, h5⟩ := S.own i ds hi
    exact ⟨_, h1, k.rt (.own ds) _ G H h S.ev ⟨l, xs, rfl, h2, h3, h4, h5⟩⟩
theorem s_retN (h : De.rt (.val .non)) : tS K Ex E tRetN ρ De := fun G0 H0 G σ H D S X k => k.rt (.val .non) .non G H h S.ev .non
theorem s_if {c : TT} {t u : TS} (h : tT K Ex E c ρ fun b => (b = true → tS K Ex E t ρ De) ∧ (b = false → tS K Ex E u ρ De)) : tS K Ex E (tIfS c t u) ρ De :=
  fun G0 H0 G σ H D S X k => h G0 H0 G σ H _ S X fun b hb G1 H1 e1 => by
    cases b with
    | true => exact iteT (hb.1 rfl G0 H0 G1 σ H1 D (S.step e1) X k)
    | false => exact iteF (hb.2 rfl G0 H0 G1 σ H1 D (S.step e1) X k)
theorem s_set {te : TE} {i : Nat} (h : tE K Ex E te ρ (asgR fun s => ∀ ρ', SS ρ i s ρ' → De.nx ρ')) (hi : i < ρ.length) : tS K Ex E (tAsg te (gName i)) ρ De :=
  fun G0 H0 G σ H D S X k => h G0 H0 G σ H _ S X fun r hr v G1 H1 e1 q => by
    have ss : ∀ s, SS ρ i s (ρ.set i s) := fun s => by
      have key : ∀ (l : List Slot) (j : Nat), j < l.length → SS l j s (l.set j s) := by
        intro l
        induction l with
        | nil => intro j hj; simp at hj
        | cons x r ih =>
          intro j hj
          cases j with
          | zero => exact .zero
          | succ j => exact .succ (ih j (by simpa using hj))
      exact key ρ i hi
    cases r with
    | val d => exact k.nx _ G1 _ H1 (hr _ (ss _)) ((S.step e1).setVal q)
    | own ds =>
      obtain ⟨l, xs, rfl, h2, h3, h4, h5⟩ := q
      refine k.nx _ G1 _ H1 (hr _ (ss _)) ((S.step e1).setOwn (S.ev.hs.free h2) h3 h4 h5 fun j es hj he z => ?_)
      obtain ⟨m, ys, k1, k2, k3, k4, k5⟩ := S.own j es he
      rw [z] at k1
      have e := V.ref.inj (Option.some.inj (Option.some.inj k1))
      subst e
      rw [h2] at k4
      cases k4
    | bor ds => exact hr.elim
/-- .. by a list with one slot set -/
theorem s_setV {te : TE} {i : Nat} (hi : i < ρ.length) (h : tE K Ex E te ρ (asgR fun s => De.nx (ρ.set i s))) : tS K Ex E (tAsg te (gName i)) ρ De :=
  s_set (h.imp fun r q => by
    cases r with
    | val d => exact fun ρ' z => by rw [z.eq]; exact q
    | own ds => exact fun ρ' z => by rw [z.eq]; exact q
    | bor ds => exact q.elim) hi
/-! targets -/
def tG (K : PySem.W.Frag) (W : Nat → Prop) (g : TG) (d : D) (ρ : List Slot) (k : List Slot → Prop) : Prop :=
  ∀ (G0 H0 G : Hp) (σ : L2.St) (H : Hp) (v : V) (Q : L2.St → Hp → Prop), Sig K G0 H0 G ρ σ H → Rp K G v d →
    (∀ ρ' σ', k ρ' → Sig K G0 H0 G ρ' σ' H → (∀ j, ¬ W j → σ'[j]? = σ[j]?) ∧ σ'.length = σ.length → Q σ' H) → g v σ H Q
def tGs (K : PySem.W.Frag) (W : Nat → Prop) (g : TGs) (ds : List D) (ρ : List Slot) (k : List Slot → Prop) : Prop :=
  ∀ (G0 H0 G : Hp) (σ : L2.St) (H : Hp) (vs : List V) (Q : L2.St → Hp → Prop), Sig K G0 H0 G ρ σ H → Rps K G vs ds →
    (∀ ρ' σ', k ρ' → Sig K G0 H0 G ρ' σ' H → (∀ j, ¬ W j → σ'[j]? = σ[j]?) ∧ σ'.length = σ.length → Q σ' H) → g vs σ H Q
theorem g_name {W : Nat → Prop} {i : Nat} {d : D} {k : List Slot → Prop} (hw : W i) (h : k (ρ.set i (.val d))) : tG K W (gName i) d ρ k :=
  fun G0 H0 G σ H v Q S r q => q _ _ h (S.setVal r) ⟨fun j hj => get_set_ne fun z => hj (z ▸ hw), List.length_set⟩
theorem gs_nil {W : Nat → Prop} {k : List Slot → Prop} (h : k ρ) : tGs K W gNil [] ρ k := fun G0 H0 G σ H vs Q S r q => by
  cases r
  exact ⟨rfl, q ρ σ h S ⟨fun _ _ => rfl, rfl⟩⟩
theorem gs_cons {W : Nat → Prop} {g : TG} {gs : TGs} {d : D} {ds : List D} {k : List Slot → Prop} (h : tG K W g d ρ fun ρ' => tGs K W gs ds ρ' k) : tGs K W (gCons g gs) (d :: ds) ρ k := fun G0 H0 G σ H vs Q S r q => by
  cases r with
  | cons r1 r2 =>
    exact ⟨_, _, rfl, h G0 H0 G σ H _ _ S r1 fun ρ' σ' hk S' hj => hk G0 H0 G σ' H _ _ S' r2 fun ρ2 σ2 hk2 S2 hj2 => q ρ2 σ2 hk2 S2 ⟨fun j z => (hj2.1 j z).trans (hj.1 j z), hj2.2.trans hj.2⟩⟩
theorem g_tup {W : Nat → Prop} {n : Nat} {gs : TGs} {ds : List D} {k : List Slot → Prop} (hn : ds.length = n) (h : tGs K W gs ds ρ k) : tG K W (gTup K n gs) (.tup ds) ρ k := fun G0 H0 G σ H v Q S r q => by
  obtain ⟨a, xs, rfl, s, rs⟩ := r.inv_tup
  exact ⟨a, xs, rfl, same_seqT S.ev.sub s, by rw [rs.length]; exact hn, h G0 H0 G σ H xs Q S rs q⟩
theorem s_asgG {te : TE} {g : TG} (h : tE K Ex E te ρ (vR fun d => tG K (fun _ => True) g d ρ De.nx)) : tS K Ex E (tAsg te g) ρ De :=
  fun G0 H0 G σ H D S X k => (v_of h) G0 H0 G σ H _ S X fun d hd v G1 H1 e1 r1 => hd G0 H0 G1 σ H1 v _ (S.step e1) r1 fun ρ' σ' hk S' _ => k.nx ρ' G1 σ' H1 hk S'
theorem s_par {i j : Nat} {ta : TA} (h : tVs K Ex E ta ρ fun ds => ∃ d e, ds = [d, e] ∧ De.nx ((ρ.set i (.val d)).set j (.val e))) : tS K Ex E (tPar i j ta) ρ De :=
  fun G0 H0 G σ H D S X k => h G0 H0 G σ H _ S X fun ds ⟨d, e, hds, hn⟩ vs G1 H1 e1 r1 => by
    subst hds
    cases r1 with
    | cons r1 r2 =>
      cases r2 with
      | cons r2 r3 =>
        cases r3
        exact ⟨_, _, rfl, k.nx _ G1 _ H1 hn (((S.step e1).setVal r1).setVal r2)⟩
/-- x += e of ints -/
theorem s_augI {i : Nat} {te : TE} {f : Int → Int → Int} {a : Int} (hi : ρ[i]? = some (.val (.int a))) (h : tE K Ex E te ρ fun r => ∃ b, r.dat = .int b ∧ De.nx (ρ.set i (.val (.int (f a b))))) : tS K Ex E (tAug i te (ipI f)) ρ De :=
  fun G0 H0 G σ H D S X k => by
    obtain ⟨v, h1, h2⟩ := S.val i _ hi
    have hv := h2.inv_int
    subst hv
    refine ⟨_, h1, h G0 H0 G σ H _ S X fun r ⟨b, hb, hn⟩ u G1 H1 e1 r1 => ?_⟩
    have q := r1.rd e1.sub
    rw [hb] at q
    exact ⟨a, b, rfl, q.inv_int, k.nx _ G1 _ H1 hn ((S.step e1).setVal (.int _))⟩
theorem s_expr {te : TE} (h : tE K Ex E te ρ fun _ => De.nx ρ) : tS K Ex E (tDrop te) ρ De :=
  fun G0 H0 G σ H D S X k => h G0 H0 G σ H _ S X fun r hr v G1 H1 e1 r1 => k.nx ρ G1 σ H1 hr (S.step e1)
/-- xs.append(e), xs of one's own in slot i -/
theorem s_append {i : Nat} {te : TE} {ds : List D} (hi : ρ[i]? = some (.own ds)) (h : tE K Ex E te ρ (vR fun d => ds.length < sizeLine ∧ De.nx (ρ.set i (.own (ds ++ [d]))))) : tS K Ex E (tDrop (tBM K "list" rAppend (tVar i) (tCons te tNil))) ρ De :=
  fun G0 H0 G σ H D S X k => by
    obtain ⟨l, xs, h1, h2, h3, h4, h5⟩ := S.own i ds hi
    refine ⟨_, h1, .inl ⟨rfl, xs, .inl (.inl h4)⟩, (v_of h) G0 H0 G σ H _ S X fun d ⟨hl, hn⟩ v G1 H1 e1 r1 => ?_⟩
    exact ⟨l, xs, v, rfl, rfl, e1.hs _ _ h4, by rw [h5.length]; exact hl, k.nx _ G1 _ _ hn ((S.step e1).chg hi h1 ((h5.mono e1.gs).append (Rps.one r1)))⟩
/-- xs[j] = e, xs of one's own in slot i -/
theorem s_setItem {i : Nat} {te ti : TE} {ds : List D} (hi : ρ[i]? = some (.own ds)) (h : tE K Ex E te ρ (vR fun d => tE K Ex E ti ρ fun r => ∃ m j, r.dat = .int m ∧ ixN ds.length m = some j ∧ De.nx (ρ.set i (.own (ds.set j d))))) :
    tS K Ex E (tAsg te (gSub (tVar i) ti rSetL)) ρ De :=
  fun G0 H0 G σ H D S X k => (v_of h) G0 H0 G σ H _ S X fun d hd v G1 H1 e1 r1 => by
    obtain ⟨l, xs, h1, h2, h3, h4, h5⟩ := (S.step e1).own i ds hi
    refine ⟨_, h1, hd G0 H0 G1 σ H1 _ (S.step e1) X fun r ⟨m, j, hm, hj, hn⟩ u G2 H2 e2 r2 => ?_⟩
    have q := r2.rd e2.sub
    rw [hm] at q
    exact ⟨l, xs, m, j, rfl, q.inv_int, e2.hs _ _ h4, by rw [h5.length]; exact hj, k.nx _ G2 _ _ hn (((S.step e1).step e2).chg hi h1 ((h5.mono e2.gs).set j (r1.mono e2.gs)))⟩
/-- xs.clear() -/
theorem s_clear {i : Nat} {ds : List D} (hi : ρ[i]? = some (.own ds)) (h : De.nx (ρ.set i (.own []))) : tS K Ex E (tDrop (tBM0 K "list" rClear (tVar i))) ρ De :=
  fun G0 H0 G σ H D S X k => by
    obtain ⟨l, xs, h1, h2, h3, h4, h5⟩ := S.own i ds hi
    exact ⟨_, h1, .inl ⟨rfl, xs, .inl (.inl h4)⟩, l, xs, rfl, rfl, h4, k.nx _ G _ _ h (S.chg hi h1 .nil)⟩
/-- a list of one's own is only read from here on -/
theorem s_freeze {t : TS} {i : Nat} {ds : List D} (hi : ρ[i]? = some (.own ds)) (h : tS K Ex E t (ρ.set i (.val (.lst ds))) De) : tS K Ex E t ρ De :=
  fun G0 H0 G σ H D S X k => by
    obtain ⟨G', _, S'⟩ := S.freeze hi
    exact h G0 H0 G' σ H D S' X k
/-- a slot that isn't asked any more -/
theorem Sig.drop {G0 H0 G : Hp} {σ : L2.St} {H : Hp} (S : Sig K G0 H0 G ρ σ H) (i : Nat) : Sig K G0 H0 G (ρ.set i .emp) σ H := by
  by_cases hl : i < σ.length
  · have q := S.setEmp (i := i) (v := σ[i])
    rw [List.set_getElem_self] at q
    exact q
  · rw [List.set_eq_of_length_le (by have := S.len; omega)]
    exact S
theorem s_drop {t : TS} (i : Nat) (h : tS K Ex E t (ρ.set i .emp) De) : tS K Ex E t ρ De := fun G0 H0 G σ H D S X k => h G0 H0 G σ H D (S.drop i) X k
/-! ### calls of one's own defs -/
abbrev FSpec := List D → (Res → Prop) → (Value → Prop) → Prop
def spD (K : PySem.W.Frag) (f : FSpec) : Sp := fun vs H Q E => ∃ (G : Hp) (ds : List D) (R : Res → Prop) (Ex : Value → Prop), Same G H ∧ Rps K G vs ds ∧ f ds R Ex ∧
  (∀ r, R r → ∀ (v : V) (G' H' : Hp), Ev G H G' H' → ROk K H G' H' v r → Q v H') ∧ ∀ c, Ex c → ∀ H' dx, Same H H' → DxOk dx H' → E c dx H'
def immR : Res → Prop
  | .val d => d.imm = true
  | .own ds => immAll ds = true
  | .bor _ => False
/-- the same slots in a heap that has more -/
theorem Sig.same {G0 H0 G : Hp} {σ : L2.St} {H H' : Hp} (S : Sig K G0 H0 G ρ σ H) (s : Same H H') : Sig K G0 H0 G ρ σ H' := S.step ⟨s, Same.refl _, S.ev.sub.trans s, fun _ _ _ g => g⟩
/-- raise C('..') -/
def tRz (E : XK) (C : Addr) : TS := fun _ _ H => ∀ (dx : Option Addr) (H' : Hp), Same H H' → DxOk dx H' → E (.ref C) dx H'
theorem s_rz {C : Addr} {E : XK} (h : Ex (.ref C) ρ) : tS K Ex (fun _ => E) (tRz E C) ρ De := fun G0 H0 G σ H D S X k dx H' s hd => X _ ρ h G σ H' dx (S.same s) hd

theorem e_callX {E : XK} {f : FSpec} {t : TA} {R : Res → Prop} {dvs : List V} {dds : List D} (hd : ∀ G, Rps K G dvs dds) (h : tVs K Ex (fun _ => E) t ρ fun ds => f (ds ++ dds) R fun c => Ex c ρ) : tE K Ex (fun _ => E) (tCall (spD K f) dvs E t) ρ R :=
  fun G0 H0 G σ H Q S X k => h G0 H0 G σ H _ S X fun ds hf vs G1 H1 e1 r1 =>
    ⟨G1, ds ++ dds, R, _, e1.sub, r1.append (hd G1), hf, fun r hr v G2 H2 e2 r2 => k r hr v G2 H2 (e1.trans e2) (r2.from fun l n => e1.hs.free n), fun c hc H' dx s hd => X c ρ hc G1 σ H' dx ((S.step e1).same s) hd⟩
/-- .. in a try's body -/
theorem e_callS {f : FSpec} {t : TA} {R : Res → Prop} (h : tVs K Ex E t ρ fun ds => f ds R fun c => Ex c ρ) : tE K Ex E (tCallS (spD K f) E t) ρ R :=
  fun G0 H0 G σ H Q S X k => h G0 H0 G σ H _ S X fun ds hf vs G1 H1 e1 r1 =>
    ⟨G1, ds, R, _, e1.sub, r1, hf, fun r hr v G2 H2 e2 r2 => k r hr v G2 H2 (e1.trans e2) (r2.from fun l n => e1.hs.free n), fun c hc H' dx s hd => X c ρ hc G1 σ H' dx ((S.step e1).same s) hd⟩
theorem e_call {f : FSpec} {t : TA} {R : Res → Prop} {dvs : List V} {dds : List D} (hd : ∀ G, Rps K G dvs dds) (h : tVs K Ex E t ρ fun ds => f (ds ++ dds) R fun _ => False) : tE K Ex E (tCall (spD K f) dvs E0 t) ρ R :=
  fun G0 H0 G σ H Q S X k => h G0 H0 G σ H _ S X fun ds hf vs G1 H1 e1 r1 =>
    ⟨G1, ds ++ dds, R, fun _ => False, e1.sub, r1.append (hd G1), hf, fun r hr v G2 H2 e2 r2 => k r hr v G2 H2 (e1.trans e2) (r2.from fun l n => e1.hs.free n), fun c hc _ _ _ _ => hc.elim⟩
theorem ROk.imm {H G1 H1 G2 : Hp} {v : V} (hg : Same H1 G2) {H2 : Hp} : ∀ {r : Res}, immR r → ROk K H1 G2 H2 v r → ROk K H1 (joinH G1 H1 G2) H2 v r
  | .val d, i, h => Rp.imm (join_imm hg) h i
  | .own ds, i, ⟨l, xs, h1, h2, h3, h4, h5⟩ => ⟨l, xs, h1, h2, by rw [joinH_non fun xs z => by rw [h2] at z; cases z]; exact h3, h4, Rps.imm (join_imm hg) h5 i⟩
  | .bor ds, i, h => i.elim
theorem e_callB {f : FSpec} {t : TA} {R : Res → Prop} {dvs : List V} {dds : List D} (hd : ∀ G, Rps K G dvs dds) (h : tA K Ex E t ρ fun rs => f (rs.map Res.dat ++ dds) (fun r => immR r ∧ R r) fun _ => False) : tE K Ex E (tCall (spD K f) dvs E0 t) ρ R :=
  fun G0 H0 G σ H Q S X k => h G0 H0 G σ H _ S X fun rs hf vs G1 H1 e1 r1 =>
    ⟨H1, rs.map Res.dat ++ dds, _, fun _ => False, Same.refl _, (r1.rd e1.sub).append (hd H1), hf, fun r hr v G2 H2 e2 r2 =>
      k r hr.2 v (joinH G1 H1 G2) H2 (e1.trans (Ev.join e1.sub e2.gs e2.sub)) ((r2.imm (H := H) e2.gs hr.1).from fun l n => e1.hs.free n), fun c hc _ _ _ _ => hc.elim⟩
theorem e_callBX {E : XK} {f : FSpec} {t : TA} {R : Res → Prop} {dvs : List V} {dds : List D} (hd : ∀ G, Rps K G dvs dds) (h : tA K Ex (fun _ => E) t ρ fun rs => f (rs.map Res.dat ++ dds) (fun r => immR r ∧ R r) fun c => Ex c ρ) : tE K Ex (fun _ => E) (tCall (spD K f) dvs E t) ρ R :=
  fun G0 H0 G σ H Q S X k => h G0 H0 G σ H _ S X fun rs hf vs G1 H1 e1 r1 =>
    ⟨H1, rs.map Res.dat ++ dds, _, fun c => Ex c ρ, Same.refl _, (r1.rd e1.sub).append (hd H1), hf, fun r hr v G2 H2 e2 r2 =>
      k r hr.2 v (joinH G1 H1 G2) H2 (e1.trans (Ev.join e1.sub e2.gs e2.sub)) ((r2.imm (H := H) e2.gs hr.1).from fun l n => e1.hs.free n), fun c hc H' dx s hd => X c ρ hc G1 σ H' dx ((S.step e1).same s) hd⟩
/-! ### a def's promise by its body's reading -/
def slots0 (N : List Str) (ds : List D) : List Slot := ds.map Slot.val ++ List.replicate (N.length - ds.length) .emp
theorem sig0 {G H : Hp} {vs : List V} {ds : List D} {N : List Str} (s : Same G H) (r : Rps K G vs ds) : Sig K G H G (slots0 N ds) (start N vs) H := by
  have hl := r.length
  have get : ∀ (i : Nat) (sl : Slot), (slots0 N ds)[i]? = some sl → (∃ d, ds[i]? = some d ∧ sl = .val d) ∨ (ds.length ≤ i ∧ sl = .emp) := fun i sl h => by
    unfold slots0 at h
    by_cases hi : i < ds.length
    · rw [List.getElem?_append_left (by rw [List.length_map]; exact hi), List.getElem?_map] at h
      cases e : ds[i]? with
      | none => rw [e] at h; cases h
      | some d =>
        rw [e] at h
        exact .inl ⟨d, rfl, (Option.some.inj h).symm⟩
    · rw [List.getElem?_append_right (by rw [List.length_map]; omega)] at h
      have h2 := (List.mem_of_getElem? h)
      exact .inr ⟨by omega, (List.mem_replicate.mp h2).2⟩
  refine ⟨Ev.refl s, ?_, fun i d h => ?_, fun i ds' h => ?_, fun i j ds' es l h => ?_⟩
  · unfold slots0 L2.start
    simp [hl]
  · rcases get i _ h with ⟨d', h1, h2⟩ | ⟨_, h2⟩
    · have e := Slot.val.inj h2
      subst e
      obtain ⟨v, h3, h4⟩ := r.get i h1
      refine ⟨v, ?_, h4⟩
      unfold L2.start
      rw [List.getElem?_append_left (by rw [List.length_map]; exact (List.getElem?_eq_some_iff.mp h3).1), List.getElem?_map, h3]
      rfl
    · cases h2
  · rcases get i _ h with ⟨d', h1, h2⟩ | ⟨_, h2⟩ <;> cases h2
  · rcases get i _ h with ⟨d', h1, h2⟩ | ⟨_, h2⟩ <;> cases h2
abbrev endDE (R : Res → Prop) : DE := { nx := fun _ => R (.val .non), rt := R }
theorem run_body {Ex : Value → Prop} {E : XK} {G H : Hp} {vs : List V} {ds : List D} {N : List Str} {t : TS} {R : Res → Prop} {Q : VK} (s : Same G H) (r : Rps K G vs ds) (h : tS K (fun c _ => Ex c) (fun _ => E) t (slots0 N ds) (endDE R))
    (hq : ∀ r, R r → ∀ (v : V) (G' H' : Hp), Ev G H G' H' → ROk K H G' H' v r → Q v H') (hx : ∀ c, Ex c → ∀ H' dx, Same H H' → DxOk dx H' → E c dx H') : t { nx := fun _ H' => Q .non H', rt := Q } (start N vs) H :=
  h G H G _ H _ (sig0 s r) (fun c ρ hc G' σ' H' dx S' hd => hx c hc H' dx S'.ev.hs hd) ⟨fun ρ' G' σ' H' q S' => hq _ q .non G' H' S'.ev .non, fun r v G' H' q e k => hq r q v G' H' e k, fun _ _ _ _ q _ => q.elim, fun _ _ _ _ q _ => q.elim⟩
end
section
variable {P : Program} {w : World} {K : PySem.W.Frag} {mg : Str → Option Value} {base : Heap}
theorem fn0 {x qual : Str} {st : Stmt} {f : Addr} {fd : FuncData} {N ps : List Str} {k : Nat} {fs : FSpec} (F : Fun K x qual st f fd) (S : FnScope N ps (defScope st)) (len : ∀ ds R Ex, fs ds R Ex → ds.length = ps.length)
    (hb : ∀ (cdv : Value) (A : Around) (outer : List Env) (s : Shared) (H : Hp) (E : XK), Room k (A.deeper (envOfC qual (defScope st) s.heap.objs.size f cdv)) →
      ∃ t, PSs (cxOf CX0 P w K mg base N qual (defScope st) f cdv A outer s H E).nox (defBody st) t ∧ ∀ ds R Ex, fs ds R Ex → tS K (fun c _ => Ex c) (fun _ => E) t (slots0 N ds) (endDE R)) : FnOk P w K mg base CX0 (k + 1) f fd ps (spD K fs) := by
  refine F.ok S (fun vs H Q E ⟨G, ds, R, Ex, s, r, h, _⟩ => by rw [r.length]; exact len ds R Ex h) fun cdv A outer s H vs Q E hr ⟨G, ds, R, Ex, sm, r, h, hq, hx⟩ => ?_
  obtain ⟨t, h1, h2⟩ := hb cdv A outer s H E hr
  exact ⟨t, h1, run_body sm r (h2 ds R Ex h) hq hx⟩
theorem fnX {x qual : Str} {st : Stmt} {f : Addr} {fd : FuncData} {N ps : List Str} {k : Nat} {fs : FSpec} (F : Fun K x qual st f fd) (S : FnScope N ps (defScope st)) (len : ∀ ds R Ex, fs ds R Ex → ds.length = ps.length)
    (hb : ∀ (cdv : Value) (A : Around) (outer : List Env) (s : Shared) (H : Hp) (E : XK), Room k (A.deeper (envOfC qual (defScope st) s.heap.objs.size f cdv)) →
      ∃ t, PSs (cxOf (L2.CX P w) P w K mg base N qual (defScope st) f cdv A outer s H E) (defBody st) t ∧ ∀ ds R Ex, fs ds R Ex → tS K (fun c _ => Ex c) (fun _ => E) t (slots0 N ds) (endDE R)) : FnOk P w K mg base (L2.CX P w) (k + 1) f fd ps (spD K fs) := by
  refine F.okX S (fun vs H Q E ⟨G, ds, R, Ex, s, r, h, _⟩ => by rw [r.length]; exact len ds R Ex h) fun cdv A outer s H vs Q E hr ⟨G, ds, R, Ex, sm, r, h, hq, hx⟩ => ?_
  obtain ⟨t, h1, h2⟩ := hb cdv A outer s H E hr
  exact ⟨t, h1, run_body sm r (h2 ds R Ex h) hq hx⟩
theorem fnD {x qual : Str} {params : Arguments} {body : List Stmt} {scope : Scope} {dvs : List V} {kws : List (Str × V)} {f : Addr} {fd : FuncData} {CXx : CXT} {N ps : List Str} {k : Nat} {fs : FSpec} (F : FunD K x qual params body scope dvs kws f fd) (S : FnScope N ps scope) (len : ∀ ds R Ex, fs ds R Ex → ds.length = ps.length)
    (hb : ∀ (cdv : Value) (A : Around) (outer : List Env) (s : Shared) (H : Hp) (E : XK), Room k (A.deeper (envOfC qual scope s.heap.objs.size f cdv)) →
      ∃ t, PSs (cxOf CXx P w K mg base N qual scope f cdv A outer s H E) body t ∧ ∀ ds R Ex, fs ds R Ex → tS K (fun c _ => Ex c) (fun _ => E) t (slots0 N ds) (endDE R)) : FnOk P w K mg base CXx (k + 1) f fd ps (spD K fs) := by
  refine F.ok S (fun vs H Q E ⟨G, ds, R, Ex, s, r, h, _⟩ => by rw [r.length]; exact len ds R Ex h) fun cdv A outer s H vs Q E hr ⟨G, ds, R, Ex, sm, r, h, hq, hx⟩ => ?_
  obtain ⟨t, h1, h2⟩ := hb cdv A outer s H E hr
  exact ⟨t, h1, run_body sm r (h2 ds R Ex h) hq hx⟩
end
end Y
end

section
namespace Y
open PySem PySem.Spec PyProof.Rows L2
section
variable {K : PySem.W.Frag} {Ex : Value → List Slot → Prop} {E : L2.St → XK} {ρ : List Slot} {De : DE} {G0 H0 G : Hp} {σ : L2.St} {H : Hp}
open Classical in
/-- the heap without the lists of one's own -/
noncomputable def unown (ρ : List Slot) (σ : L2.St) (H : Hp) : Hp := fun b => if (∃ (i : Nat) (ds : List D), ρ[i]? = some (.own ds) ∧ σ[i]? = some (some (.ref b))) then none else H b
theorem Sig.root (S : Sig K G0 H0 G ρ σ H) : ∃ H1, Sig K G H1 G ρ σ H ∧ Same H0 H1 := by
  refine ⟨unown ρ σ H, ⟨⟨fun b o e => ?_, Same.refl _, S.ev.sub, fun b xs e g => g⟩, S.len, S.val, fun i ds h => ?_, S.inj⟩, fun b o e => ?_⟩
  · unfold unown at e
    split at e
    · cases e
    · exact e
  · obtain ⟨l, xs, h1, h2, h3, h4, h5⟩ := S.own i ds h
    exact ⟨l, xs, h1, if_pos ⟨i, ds, h, h1⟩, h3, h4, h5⟩
  · unfold unown
    rw [if_neg]
    · exact S.ev.hs _ _ e
    · rintro ⟨i, ds, h, h1⟩
      obtain ⟨l, xs, k1, k2, _⟩ := S.own i ds h
      rw [h1] at k1
      have z := V.ref.inj (Option.some.inj (Option.some.inj k1))
      subst z
      rw [e] at k2
      cases k2
theorem Ev.up {H1 G' H' : Hp} (e : Ev G0 H0 G H) (h : Same H0 H1) (e' : Ev G H1 G' H') : Ev G0 H0 G' H' :=
  ⟨h.trans e'.hs, e.gs.trans e'.gs, e'.sub, fun b xs hb g => e'.new b xs (h _ _ hb) (e.new b xs hb g)⟩
theorem Sig.up {H1 G' H' : Hp} {ρ' : List Slot} {σ' : L2.St} (e : Ev G0 H0 G H) (h : Same H0 H1) (S : Sig K G H1 G' ρ' σ' H') : Sig K G0 H0 G' ρ' σ' H' :=
  ⟨e.up h S.ev, S.len, S.val, fun i ds q => let ⟨l, xs, h1, h2, h3⟩ := S.own i ds q; ⟨l, xs, h1, h.free h2, h3⟩, S.inj⟩
/-! ### what is walked -/
def YD (K : PySem.W.Frag) (G' : Hp) (ds : List D) : Nat → Hp → V → Hp → Prop := fun i H x H' => ∀ G2, Same G' G2 → Same G2 H → ∃ d G3, ds[i]? = some d ∧ Ev G2 H G3 H' ∧ Rp K G3 x d
def tIt (K : PySem.W.Frag) (Ex : Value → List Slot → Prop) (E : L2.St → XK) (wi : TI) (ρ : List Slot) (R : List D → Prop) : Prop :=
  ∀ (G0 H0 G : Hp) (σ : L2.St) (H : Hp) (Q : It → Hp → Prop), Sig K G0 H0 G ρ σ H → Lk K Ex E G0 H0 →
    (∀ ds, R ds → ∀ (J : It) (G' H' : Hp), Ev G H G' H' → Walk J ds.length (fun H => Same G' H) (YD K G' ds) → Q J H') → wi σ H Q
def listD : D → Option (List D)
  | .lst ds => some ds
  | .fz ds => some ds
  | _ => none
theorem walkL {a : Addr} {xs : List V} {ds : List D} {G' : Hp} (s : ∀ H, Same G' H → SqL K H a xs) (r : Rps K G' xs ds) : Walk (Itl K a) ds.length (fun H => Same G' H) (YD K G' ds) := by
  have w := (walk_list (K := K) (a := a) (xs := xs)).mono (G' := fun H => Same G' H) (Y' := YD K G' ds) (fun H h => s H h) fun i H x H' hi g y G2 g2 h2 => by
    obtain ⟨rfl, e⟩ := y
    obtain ⟨d, hd, rd⟩ := r.getV i e
    exact ⟨d, G2, hd, Ev.refl h2, rd.mono g2⟩
  rw [r.length] at w
  exact w
theorem walkT {a : Addr} {xs : List V} {ds : List D} {G' : Hp} (s : ∀ H, Same G' H → SqT K H a xs) (r : Rps K G' xs ds) : Walk (Itt K a) ds.length (fun H => Same G' H) (YD K G' ds) := by
  have w := (walk_tup (K := K) (a := a) (xs := xs)).mono (G' := fun H => Same G' H) (Y' := YD K G' ds) (fun H h => s H h) fun i H x H' hi g y G2 g2 h2 => by
    obtain ⟨rfl, e⟩ := y
    obtain ⟨d, hd, rd⟩ := r.getV i e
    exact ⟨d, G2, hd, Ev.refl h2, rd.mono g2⟩
  rw [r.length] at w
  exact w
theorem Rp.listSq {v : V} {d : D} {ds : List D} (h : Rp K G v d) (e : listD d = some ds) : ∃ a xs, v = .ref a ∧ SqL K G a xs ∧ Rps K G xs ds := by
  cases h with
  | lst q r => cases e; exact ⟨_, _, rfl, .inl (.inl q), r⟩
  | fz q r => cases e; exact ⟨_, _, rfl, q, r⟩
  | _ => cases e
theorem i_list {tl : TE} {R : List D → Prop} (h : tE K Ex E tl ρ (vR fun d => ∃ ds, listD d = some ds ∧ R ds)) : tIt K Ex E (iList K tl) ρ R :=
  fun G0 H0 G σ H Q S X k => (v_of h) G0 H0 G σ H _ S X fun d ⟨ds, hd, hr⟩ v G1 H1 e1 r1 => by
    obtain ⟨a, xs, rfl, s, r⟩ := r1.listSq hd
    exact ⟨a, rfl, ⟨xs, e1.sub.seq s⟩, k ds hr (Itl K a) G1 H1 e1 (walkL (fun H h => h.seq s) r)⟩
theorem i_tup {tl : TE} {R : List D → Prop} (h : tE K Ex E tl ρ (vR fun d => ∃ ds, d = .tup ds ∧ R ds)) : tIt K Ex E (iTup K tl) ρ R :=
  fun G0 H0 G σ H Q S X k => (v_of h) G0 H0 G σ H _ S X fun d ⟨ds, hd, hr⟩ v G1 H1 e1 r1 => by
    subst hd
    obtain ⟨a, xs, rfl, s, r⟩ := r1.inv_tup
    exact ⟨a, rfl, ⟨xs, same_seqT e1.sub s⟩, k ds hr (Itt K a) G1 H1 e1 (walkT (fun H h => same_seqT h s) r)⟩
def rangeD (lo : Int) (n : Nat) : List D := (List.range n).map fun (i : Nat) => D.int (lo + ((i : Nat) : Int))
theorem rangeD_len {lo : Int} {n : Nat} : (rangeD lo n).length = n := by unfold rangeD; rw [List.length_map, List.length_range]
theorem rangeD_get {lo : Int} {n i : Nat} {d : D} (h : (rangeD lo n)[i]? = some d) : i < n ∧ d = .int (lo + (i : Int)) := by
  have hi : i < n := by
    have := (List.getElem?_eq_some_iff.mp h).1
    rw [rangeD_len] at this
    exact this
  unfold rangeD at h
  rw [List.getElem?_map, List.getElem?_range hi] at h
  exact ⟨hi, (Option.some.inj h).symm⟩
theorem walkR {lo : Int} {n : Nat} {G' : Hp} : Walk (Itr lo n) (rangeD lo n).length (fun H => Same G' H) (YD K G' (rangeD lo n)) := by
  have w := (walk_range (lo := lo) (n := n)).mono (G' := fun H => Same G' H) (Y' := YD K G' (rangeD lo n)) (fun _ _ => trivial) fun i H x H' hi g y G2 g2 h2 => by
    obtain ⟨rfl, e⟩ := y
    refine ⟨.int (lo + (i : Int)), G2, ?_, Ev.refl h2, by rw [e]; exact .int _⟩
    unfold rangeD
    rw [List.getElem?_map, List.getElem?_range hi]
    rfl
  have e : (rangeD lo n).length = n := rangeD_len
  rw [e]
  exact w
theorem i_range1 {t : TE} {R : List D → Prop} (h : tE K Ex E t ρ fun a => ∃ j, a.dat = .int j ∧ -(2 ^ 62) ≤ j ∧ j < 2 ^ 62 ∧ R (rangeD 0 j.toNat)) : tIt K Ex E (iRng1 (tCons t tNil)) ρ R :=
  fun G0 H0 G σ H Q S X k => h G0 H0 G σ H _ S X fun a ⟨j, hd, h1, h2, hr⟩ v G1 H1 e1 r1 => by
    have q := r1.rd e1.sub
    rw [hd] at q
    exact ⟨j, by rw [q.inv_int], h1, h2, k _ hr _ G1 H1 e1 walkR⟩
theorem i_range2 {t u : TE} {R : List D → Prop} (h : tE K Ex E t ρ fun a => tE K Ex E u ρ fun b => ∃ i j, a.dat = .int i ∧ b.dat = .int j ∧ (-(2 ^ 62) ≤ i ∧ i < 2 ^ 62 ∧ -(2 ^ 62) ≤ j ∧ j < 2 ^ 62) ∧ R (rangeD i (j - i).toNat)) : tIt K Ex E (iRng2 (tCons t (tCons u tNil))) ρ R :=
  fun G0 H0 G σ H Q S X k => h G0 H0 G σ H _ S X fun a ha v G1 H1 e1 r1 => ha G0 H0 G1 σ H1 _ (S.step e1) X fun b ⟨i, j, h1, h2, h3, hr⟩ u G2 H2 e2 r2 => by
    have q := (r1.step e2).rd e2.sub
    rw [h1] at q
    have q2 := r2.rd e2.sub
    rw [h2] at q2
    exact ⟨i, j, by rw [q.inv_int, q2.inv_int], h3, k _ hr _ G2 H2 (e1.trans e2) walkR⟩
/-! pairs that are laid on the way -/
theorem walkP {J : It} {n : Nat} {xs ys : Nat → Option V} {ds es : List D} {P : Hp → Prop} {G' : Hp} {out : List D} (w : Walk J n P (YPair xs ys)) (hP : ∀ H, Same G' H → P H)
    (h : ∀ i x y, i < n → xs i = some x → ys i = some y → ∃ d e, out[i]? = some (.tup [d, e]) ∧ Rp K G' x d ∧ Rp K G' y e) (hn : out.length = n) : Walk J out.length (fun H => Same G' H) (YD K G' out) := by
  rw [hn]
  refine w.mono hP fun i H v H' hi g y G2 g2 h2 => ?_
  obtain ⟨T, x, z, rfl, nT, rfl, h3, h4⟩ := y
  obtain ⟨d, e, ho, rx, ry⟩ := h i x z hi h3 h4
  have el := Ev.laid (o := .tup [x, z]) h2 nT
  exact ⟨_, _, ho, el, .tup (.inl (.inl upd_same)) (.cons ((rx.mono g2).mono el.gs) (.cons ((ry.mono g2).mono el.gs) .nil))⟩
def enumD (ds : List D) : List D := ds.zipIdx.map fun p => .tup [.int (p.2 : Int), p.1]
theorem enumD_len {ds : List D} : (enumD ds).length = ds.length := by unfold enumD; rw [List.length_map, List.length_zipIdx]
theorem enumD_get {ds : List D} {i : Nat} : (enumD ds)[i]? = ds[i]?.map fun d => .tup [.int (i : Int), d] := by
  unfold enumD
  rw [List.getElem?_map, List.getElem?_zipIdx]
  cases ds[i]? with
  | none => rfl
  | some d => simp
theorem i_enum {t : TE} {R : List D → Prop} (h : tE K Ex E t ρ (vR fun d => ∃ ds, listD d = some ds ∧ R (enumD ds))) : tIt K Ex E (iEnum K (tCons t tNil)) ρ R :=
  fun G0 H0 G σ H Q S X k => (v_of h) G0 H0 G σ H _ S X fun d ⟨ds, hd, hr⟩ v G1 H1 e1 r1 => by
    obtain ⟨a, xs, rfl, s, r⟩ := r1.listSq hd
    refine ⟨a, xs, rfl, e1.sub.seq s, k _ hr (Ite K a) G1 H1 e1 ?_⟩
    refine walkP (ds := ds) (es := ds) (walk_enum (K := K) (a := a) (xs := xs)) (fun H h => h.seq s) (fun i x y hi hx hy => ?_) (by rw [enumD_len, r.length])
    obtain ⟨d, h1, h2⟩ := r.getV i hy
    have e := Option.some.inj hx
    subst e
    exact ⟨.int i, d, by rw [enumD_get, h1]; rfl, .int _, h2⟩
def zipD (ds es : List D) : List D := (ds.zip es).map fun p => .tup [p.1, p.2]
theorem i_zip {t u : TE} {R : List D → Prop} (h : tE K Ex E t ρ (vR fun d => tE K Ex E u ρ (vR fun e => ∃ ds es, listD d = some ds ∧ listD e = some es ∧ R (zipD ds es)))) : tIt K Ex E (iZip K (tCons t (tCons u tNil))) ρ R :=
  fun G0 H0 G σ H Q S X k => (v_of h) G0 H0 G σ H _ S X fun d hd v G1 H1 e1 r1 => (v_of hd) G0 H0 G1 σ H1 _ (S.step e1) X fun e ⟨ds, es, h1, h2, hr⟩ u G2 H2 e2 r2 => by
    obtain ⟨a, xs, rfl, s, r⟩ := (r1.mono e2.gs).listSq h1
    obtain ⟨b, ys, rfl, s', r'⟩ := r2.listSq h2
    refine ⟨a, b, xs, ys, rfl, e2.sub.seq s, e2.sub.seq s', k _ hr (Itz K a b) G2 H2 (e1.trans e2) ?_⟩
    refine walkP (ds := ds) (es := es) (walk_zip (K := K) (a := a) (b := b) (xs := xs) (ys := ys) rfl) (fun H h => ⟨h.seq s, h.seq s'⟩) (fun i x y hi hx hy => ?_) ?_
    · obtain ⟨d, h1, h2⟩ := r.getV i hx
      obtain ⟨e, h3, h4⟩ := r'.getV i hy
      refine ⟨d, e, ?_, h2, h4⟩
      unfold zipD
      rw [List.getElem?_map, (List.getElem?_zip_eq_some (z := (d, e))).mpr ⟨h1, h3⟩]
      rfl
    · unfold zipD
      rw [List.length_map, List.length_zip, r.length, r'.length]
/-! ### loops -/
theorem s_for {wi : TI} {g : TG} {tb : TS} (h : tIt K Ex E wi ρ fun ds => ∃ I : Nat → List Slot → Prop, I 0 ρ ∧
      (∀ i d ρ', ds[i]? = some d → I i ρ' → tG K (fun _ => True) g d ρ' fun ρ2 => tS K Ex E tb ρ2 { nx := I (i + 1), rt := De.rt, bk := De.nx, ct := I (i + 1) }) ∧ ∀ ρ', I ds.length ρ' → De.nx ρ') :
    tS K Ex E (tFor wi g tb) ρ De :=
  fun G0 H0 G σ H D S X k => h G0 H0 G σ H _ S X fun ds ⟨I, h0, hs, hd⟩ J G1 H1 e1 w => by
    obtain ⟨Hr, Sr, hr⟩ := (S.step e1).root
    have ev := (S.step e1).ev
    refine for_it w (fun i σ H => ∃ ρ' G', I i ρ' ∧ Sig K G1 Hr G' ρ' σ H) ⟨ρ, G1, h0, Sr⟩ (fun i σ H _ ⟨ρ', G', _, S'⟩ => S'.ev.gs.trans S'.ev.sub) (fun i x σ H H' hi ⟨ρ', G', hI, S'⟩ hy => ?_) (fun σ H ⟨ρ', G', hI, S'⟩ => k.nx ρ' G' σ H (hd ρ' hI) (S'.up ev hr))
    obtain ⟨d, G3, hd', e3, r3⟩ := hy G' S'.ev.gs S'.ev.sub
    refine hs i d ρ' hd' hI G1 Hr G3 σ H' x _ (S'.step e3) r3 fun ρ2 σ2 q S2 _ => ?_
    exact q G1 Hr G3 σ2 H' _ S2 (fun c ρ hc G σ H dx S hd => X c ρ hc G σ H dx (S.up ev hr) hd) ⟨fun ρ G σ H q S => ⟨ρ, G, q, S⟩, fun r v G H q e kk => k.rt r v G H q (ev.up hr e) (kk.from fun l n => hr.free n),
      fun ρ G σ H q S => k.nx ρ G σ H q (S.up ev hr), fun ρ G σ H q S => ⟨ρ, G, q, S⟩⟩
theorem s_while {c : TT} {tb : TS} (I : List Slot → Prop) (μ : List Slot → Nat) (h0 : I ρ)
    (hs : ∀ ρ', I ρ' → tT K Ex E c ρ' fun b => (b = true → tS K Ex E tb ρ' { nx := fun ρ2 => I ρ2 ∧ μ ρ2 < μ ρ', rt := De.rt, bk := De.nx, ct := fun ρ2 => I ρ2 ∧ μ ρ2 < μ ρ' }) ∧ (b = false → De.nx ρ')) :
    tS K Ex E (tWhile c tb) ρ De :=
  fun G0 H0 G σ H D S X k => by
    refine ⟨fun m σ H => ∃ ρ' G', I ρ' ∧ μ ρ' = m ∧ Sig K G0 H0 G' ρ' σ H, ⟨_, ρ, G, h0, rfl, S⟩, fun m σ H ⟨ρ', G', hI, hm, S'⟩ => ?_⟩
    refine hs ρ' hI G0 H0 G' σ H _ S' X fun b hb G1 H1 e1 => ?_
    cases b with
    | false => exact iteF (k.nx ρ' G1 σ H1 (hb.2 rfl) (S'.step e1))
    | true =>
      refine iteT ⟨fun σ' H' => ∃ ρ2 G2, (I ρ2 ∧ μ ρ2 < μ ρ') ∧ Sig K G0 H0 G2 ρ2 σ' H', fun σ' H' ⟨ρ2, G2, ⟨hI2, hlt⟩, S2⟩ => ⟨μ ρ2, by omega, ρ2, G2, hI2, rfl, S2⟩, ?_⟩
      exact hb.1 rfl G0 H0 G1 σ H1 _ (S'.step e1) X ⟨fun ρ G σ H q S => ⟨ρ, G, q, S⟩, k.rt, k.nx, fun ρ G σ H q S => ⟨ρ, G, q, S⟩⟩
/-! ### comprehensions -/
def wipeS (ρ : List Slot) : List Nat → List Slot
  | [] => ρ
  | v :: vs => (wipeS ρ vs).set v .emp
theorem Sig.wipe (S : Sig K G0 H0 G ρ σ H) : ∀ vs : List Nat, Sig K G0 H0 G (wipeS ρ vs) (L2.wipe σ vs) H
  | [] => S
  | v :: vs => (Sig.wipe S vs).setEmp
theorem wipe_len (σ : L2.St) : ∀ vs : List Nat, (L2.wipe σ vs).length = σ.length
  | [] => rfl
  | v :: vs => by
    show ((L2.wipe σ vs).set v none).length = _
    rw [List.length_set, wipe_len σ vs]
theorem wipe_get (σ : L2.St) (j : Nat) : ∀ vs : List Nat, (L2.wipe σ vs)[j]? = if j ∈ vs ∧ j < σ.length then some none else σ[j]?
  | [] => by
    rw [if_neg (fun z => by cases z.1)]
    rfl
  | v :: vs => by
    show ((L2.wipe σ vs).set v none)[j]? = _
    by_cases hv : v = j
    · subst hv
      by_cases hl : v < σ.length
      · rw [List.getElem?_set_self (by rw [wipe_len]; exact hl), if_pos ⟨List.mem_cons_self, hl⟩]
      · rw [List.getElem?_eq_none (by rw [List.length_set, wipe_len]; omega), if_neg (fun z => hl z.2), List.getElem?_eq_none (by omega)]
    · rw [List.getElem?_set_ne hv, wipe_get σ j vs]
      have e : (j ∈ v :: vs) ↔ j ∈ vs := by
        rw [List.mem_cons]
        exact ⟨fun z => z.resolve_left fun e => hv e.symm, .inr⟩
      simp only [e]
theorem wipe_same {σ σ2 : L2.St} {vs : List Nat} (h : ∀ j, ¬ j ∈ vs → σ2[j]? = (L2.wipe σ vs)[j]?) (hl : σ2.length = (L2.wipe σ vs).length) : L2.wipe σ2 vs = L2.wipe σ vs := by
  rw [wipe_len] at hl
  apply List.ext_getElem?
  intro j
  rw [wipe_get, wipe_get]
  by_cases hj : j ∈ vs
  · rw [hl]
    by_cases hlt : j < σ.length
    · rw [if_pos ⟨hj, hlt⟩, if_pos ⟨hj, hlt⟩]
    · rw [if_neg fun z => hlt z.2, if_neg fun z => hlt z.2, List.getElem?_eq_none (by omega), List.getElem?_eq_none (by omega)]
  · rw [if_neg fun z => hj z.1, if_neg fun z => hj z.1]
    have z := h j hj
    rw [wipe_get, if_neg fun z => hj z.1] at z
    exact z
/-- one more slot, of one's own -/
theorem Sig.push (S : Sig K G0 H0 G ρ σ H) {l : Addr} {xs : List V} {ds : List D} (h0 : H0 l = none) (hg : G l = none) (hl : H l = some (.lst xs)) (r : Rps K G xs ds)
    (nw : ∀ (j : Nat) (es : List D), ρ[j]? = some (Slot.own es) → σ[j]? ≠ some (some (V.ref l))) : Sig K G0 H0 G (ρ ++ [Slot.own ds]) (σ ++ [some (V.ref l)]) H := by
  have hlen := S.len
  have gr : ∀ i s, (ρ ++ [Slot.own ds])[i]? = some s → ρ[i]? = some s ∨ (i = ρ.length ∧ s = .own ds) := fun i s h => by
    by_cases hi : i < ρ.length
    · rw [List.getElem?_append_left hi] at h
      exact .inl h
    · rw [List.getElem?_append_right (by omega)] at h
      by_cases he : i = ρ.length
      · subst he
        rw [Nat.sub_self] at h
        exact .inr ⟨rfl, (Option.some.inj h).symm⟩
      · rw [List.getElem?_eq_none (by simp; omega)] at h
        cases h
  have gl : ∀ i, i < ρ.length → (σ ++ [some (V.ref l)])[i]? = σ[i]? := fun i hi => List.getElem?_append_left (by omega)
  have ge : (σ ++ [some (V.ref l)])[ρ.length]? = some (some (.ref l)) := by
    rw [List.getElem?_append_right (by omega), hlen, Nat.sub_self]
    rfl
  refine ⟨S.ev, by simp [hlen], fun i d h => ?_, fun i es h => ?_, fun i j es fs m h1 h2 h3 h4 => ?_⟩
  · rcases gr i _ h with h | ⟨_, h⟩
    · obtain ⟨v, h1, h2⟩ := S.val i d h
      exact ⟨v, by rw [gl i (List.getElem?_eq_some_iff.mp h).1]; exact h1, h2⟩
    · cases h
  · rcases gr i _ h with h | ⟨hi, h⟩
    · obtain ⟨m, ys, h1, h2⟩ := S.own i es h
      exact ⟨m, ys, by rw [gl i (List.getElem?_eq_some_iff.mp h).1]; exact h1, h2⟩
    · have e := Slot.own.inj h
      subst e hi
      exact ⟨l, xs, ge, h0, hg, hl, r⟩
  · rcases gr i _ h1 with q1 | ⟨i1, q1⟩
    · rw [gl i (List.getElem?_eq_some_iff.mp q1).1] at h3
      rcases gr j _ h2 with q2 | ⟨i2, q2⟩
      · rw [gl j (List.getElem?_eq_some_iff.mp q2).1] at h4
        exact S.inj i j es fs m q1 q2 h3 h4
      · subst i2
        rw [ge] at h4
        have z := V.ref.inj (Option.some.inj (Option.some.inj h4))
        subst z
        exact absurd h3 (nw i es q1)
    · subst i1
      rw [ge] at h3
      have z := V.ref.inj (Option.some.inj (Option.some.inj h3))
      subst z
      rcases gr j _ h2 with q2 | ⟨i2, q2⟩
      · rw [gl j (List.getElem?_eq_some_iff.mp q2).1] at h4
        exact absurd h4 (nw j fs q2)
      · rw [i2]
theorem Sig.pre {s : Slot} {x : Option V} (S : Sig K G0 H0 G (ρ ++ [s]) (σ ++ [x]) H) : Sig K G0 H0 G ρ σ H := by
  have hlen : σ.length = ρ.length := by
    have := S.len
    simpa using this
  have up : ∀ i (s' : Slot), ρ[i]? = some s' → (ρ ++ [s])[i]? = some s' := fun i s' h => by
    rw [List.getElem?_append_left (List.getElem?_eq_some_iff.mp h).1]
    exact h
  have dn : ∀ i (s' : Slot) (o : Option (Option V)), ρ[i]? = some s' → (σ ++ [x])[i]? = o → σ[i]? = o := fun i s' o h q => by
    rw [List.getElem?_append_left (by have := (List.getElem?_eq_some_iff.mp h).1; omega)] at q
    exact q
  refine ⟨S.ev, hlen, fun i d h => ?_, fun i ds h => ?_, fun i j ds es l h1 h2 h3 h4 => ?_⟩
  · obtain ⟨v, h1, h2⟩ := S.val i d (up i _ h)
    exact ⟨v, dn i _ _ h h1, h2⟩
  · obtain ⟨l, xs, h1, h2⟩ := S.own i ds (up i _ h)
    exact ⟨l, xs, dn i _ _ h h1, h2⟩
  · refine S.inj i j ds es l (up i _ h1) (up j _ h2) ?_ ?_
    · rw [List.getElem?_append_left (by have := (List.getElem?_eq_some_iff.mp h1).1; omega)]
      exact h3
    · rw [List.getElem?_append_left (by have := (List.getElem?_eq_some_iff.mp h2).1; omega)]
      exact h4
/-- what a comprehension walks: a list of one's own, too -/
def tIc (K : PySem.W.Frag) (Ex : Value → List Slot → Prop) (E : L2.St → XK) (wi : TI) (ρ : List Slot) (R : List D → Prop) : Prop :=
  ∀ (G0 H0 G : Hp) (σ : L2.St) (H : Hp) (Q : It → Hp → Prop), Sig K G0 H0 G ρ σ H → Lk K Ex E G0 H0 →
    (∀ ds, R ds → ∀ (J : It) (G' H' : Hp), Ev G H G' H' → Walk J ds.length (fun H => Same H' H) (YD K G' ds) → Q J H') → wi σ H Q
theorem tIt.ic {wi : TI} {R : List D → Prop} (h : tIt K Ex E wi ρ R) : tIc K Ex E wi ρ R := fun G0 H0 G σ H Q S X k =>
  h G0 H0 G σ H Q S X fun ds hr J G' H' e w => k ds hr J G' H' e (w.mono (fun H h => e.sub.trans h) fun _ _ _ _ _ _ y => y)
theorem walkC {a : Addr} {xs : List V} {ds : List D} {G' H' : Hp} (s : SqL K H' a xs) (r : Rps K G' xs ds) : Walk (Itl K a) ds.length (fun H => Same H' H) (YD K G' ds) := by
  have w := (walk_list (K := K) (a := a) (xs := xs)).mono (G' := fun H => Same H' H) (Y' := YD K G' ds) (fun H h => h.seq s) fun i H x H' hi g y G2 g2 h2 => by
    obtain ⟨rfl, e⟩ := y
    obtain ⟨d, hd, rd⟩ := r.getV i e
    exact ⟨d, G2, hd, Ev.refl h2, rd.mono g2⟩
  rw [r.length] at w
  exact w
theorem ROk.listSq {H G' H' : Hp} {v : V} {ds : List D} (s : Same G' H') : ∀ {r : Res}, ROk K H G' H' v r → listD r.dat = some ds → ∃ l xs, v = .ref l ∧ SqL K H' l xs ∧ Rps K G' xs ds
  | .val d, h, e => by
    obtain ⟨a, xs, h1, h2, h3⟩ := Rp.listSq (show Rp K G' v d from h) e
    exact ⟨a, xs, h1, s.seq h2, h3⟩
  | .own es, ⟨l, xs, h1, _, _, h4, h5⟩, e => by
    have e' := Option.some.inj e
    subst e'
    exact ⟨l, xs, h1, .inl (.inl h4), h5⟩
  | .bor es, ⟨l, xs, h1, _, h4, h5⟩, e => by
    have e' := Option.some.inj e
    subst e'
    exact ⟨l, xs, h1, .inl (.inl h4), h5⟩
theorem ic_list {tl : TE} {R : List D → Prop} (h : tE K Ex E tl ρ fun r => ∃ ds, listD r.dat = some ds ∧ R ds) : tIc K Ex E (iList K tl) ρ R :=
  fun G0 H0 G σ H Q S X k => h G0 H0 G σ H _ S X fun r ⟨ds, hd, hr⟩ v G1 H1 e1 r1 => by
    obtain ⟨a, xs, rfl, s, q⟩ := r1.listSq e1.sub hd
    exact ⟨a, rfl, ⟨xs, s⟩, k ds hr (Itl K a) G1 H1 e1 (walkC s q)⟩
theorem e_lc {wi : TI} {g : TG} {tt : TT} {te : TE} {vs : List Nat} {R : Res → Prop} (h : tIc K Ex E wi ρ fun ds => ds.length ≤ sizeLine ∧ ∃ J : Nat → List D → Prop, J 0 [] ∧
      (∀ i d outs, ds[i]? = some d → J i outs → tG K (· ∈ vs) g d (wipeS ρ vs) fun ρ2 => tT K (fun _ _ => False) E tt ρ2 fun b => (b = true → tE K (fun _ _ => False) E te ρ2 (vR fun y => J (i + 1) (outs ++ [y]))) ∧ (b = false → J (i + 1) outs)) ∧
      ∀ outs, J ds.length outs → outs.length ≤ ds.length → R (.own outs)) : tE K Ex E (tLc wi g tt te vs) ρ R :=
  fun G0 H0 G σ H Q S X k => h G0 H0 G σ H _ S X fun ds ⟨hsz, J, h0, hs, hd⟩ It G1 H1 e1 w => fun Dl nD => by
    obtain ⟨Hr, Sr, hr⟩ := (S.step e1).root
    have ev := (S.step e1).ev
    have nG : G1 Dl = none := e1.sub.free nD
    have nHr : Hr Dl = none := Sr.ev.hs.free nD
    have nlen : (wipeS ρ vs).length = (L2.wipe σ vs).length := (Sr.wipe vs).len.symm
    have start : Sig K G1 Hr G1 (wipeS ρ vs ++ [Slot.own []]) (L2.wipe σ vs ++ [some (V.ref Dl)]) (upd H1 Dl (.lst [])) := by
      refine Sig.push (xs := []) ((Sr.wipe vs).step (Ev.own e1.sub nD)) nHr nG upd_same .nil fun j es hj z => ?_
      obtain ⟨l, xs, k1, k2, k3, k4, k5⟩ := (Sr.wipe vs).own j es hj
      rw [z] at k1
      have e := V.ref.inj (Option.some.inj (Option.some.inj k1))
      subst e
      rw [nD] at k4
      cases k4
    have upE : ∀ {G' H' : Hp} {ys : List V}, Ev G1 H1 G' H' → G' Dl = none → Ev G1 H1 G' (upd H' Dl (.lst ys)) := fun {G' H' ys} e g => by
      refine ⟨fun b o q => ?_, e.gs, fun b o q => ?_, e.new⟩
      · rw [upd_ne (ne_of_none q nD)]
        exact e.hs _ _ q
      · rw [upd_ne (ne_of_none q g)]
        exact e.sub _ _ q
    refine lc_it w (fun i H => ∃ G' outs, J i outs ∧ outs.length ≤ i ∧ Ev G1 H1 G' H ∧ Sig K G1 Hr G' (wipeS ρ vs ++ [Slot.own outs]) (L2.wipe σ vs ++ [some (V.ref Dl)]) H) ⟨G1, [], h0, Nat.le_refl _, upE (Ev.refl e1.sub) nG, start⟩
      (fun i H _ ⟨G', outs, _, _, ea, _⟩ => ea.hs) (fun i x H H' hi ⟨G', outs, hJ, hlen, ea, S'⟩ hy => ?_) fun H ⟨G', outs, hJ, hlen, ea, S'⟩ => ?_
    · obtain ⟨d, G3, hd', e3, r3⟩ := hy G' S'.ev.gs S'.ev.sub
      have S3 := S'.step e3
      refine hs i d outs hd' hJ G1 Hr G3 _ H' x _ S3.pre r3 fun ρ2 σ2 q S2 hj => ⟨wipe_same hj.1 hj.2, ?_⟩
      refine q G1 Hr G3 σ2 H' _ S2 (fun c ρ hc => hc.elim) fun b hb G4 H4 e4 => ?_
      cases b with
      | false => exact iteF ⟨G4, outs, hb.2 rfl, by omega, (ea.trans e3).trans e4, S3.step e4⟩
      | true =>
        refine iteT ((v_of (hb.1 rfl)) G1 Hr G4 σ2 H4 _ (S2.step e4) (fun c ρ hc => hc.elim) fun y hy v G5 H5 e5 r5 => ?_)
        have S5 := (S3.step e4).step e5
        have gi : (wipeS ρ vs ++ [Slot.own outs])[(wipeS ρ vs).length]? = some (.own outs) := by
          rw [List.getElem?_append_right (Nat.le_refl _), Nat.sub_self]
          rfl
        have gs : (L2.wipe σ vs ++ [some (V.ref Dl)])[(wipeS ρ vs).length]? = some (some (.ref Dl)) := by
          rw [nlen, List.getElem?_append_right (Nat.le_refl _), Nat.sub_self]
          rfl
        obtain ⟨l, xs, k1, k2, k3, k4, k5⟩ := S5.own _ _ gi
        rw [gs] at k1
        have e := V.ref.inj (Option.some.inj (Option.some.inj k1))
        subst e
        refine ⟨xs, k4, ?_, G5, outs ++ [y], hy, by rw [List.length_append]; show outs.length + 1 ≤ i + 1; omega, upE (((ea.trans e3).trans e4).trans e5) k3, ?_⟩
        · rw [k5.length]
          omega
        · have q5 := S5.chg gi gs (k5.append (Rps.one r5))
          have e2 : (wipeS ρ vs ++ [Slot.own outs]).set (wipeS ρ vs).length (Slot.own (outs ++ [y])) = wipeS ρ vs ++ [Slot.own (outs ++ [y])] := by
            rw [List.set_append_right _ _ (Nat.le_refl _), Nat.sub_self]
            rfl
          rw [e2] at q5
          exact q5
    · have gi : (wipeS ρ vs ++ [Slot.own outs])[(wipeS ρ vs).length]? = some (.own outs) := by
        rw [List.getElem?_append_right (Nat.le_refl _), Nat.sub_self]
        rfl
      have gs : (L2.wipe σ vs ++ [some (V.ref Dl)])[(wipeS ρ vs).length]? = some (some (.ref Dl)) := by
        rw [nlen, List.getElem?_append_right (Nat.le_refl _), Nat.sub_self]
        rfl
      obtain ⟨l, xs, k1, k2, k3, k4, k5⟩ := S'.own _ _ gi
      rw [gs] at k1
      have e := V.ref.inj (Option.some.inj (Option.some.inj k1))
      subst e
      exact k (.own outs) (hd outs hJ hlen) _ G' H (e1.trans ea) ⟨Dl, xs, rfl, e1.hs.free nD, k3, k4, k5⟩
end
end Y
end

section
namespace Y
open PySem PySem.Spec PyProof.Rows L2
/-! ### operators -/
section
variable {K : PySem.W.Frag}
theorem os_int {g : Int → Int → V} {g' : Int → Int → D} (h : ∀ i j, Sc (g i j) (g' i j)) : OpS K (rI0 g) fun d e k => ∃ i j, d = .int i ∧ e = .int j ∧ k (g' i j) := by
  intro H x y d e Q k rx ry hf hq
  obtain ⟨i, j, rfl, rfl, hk⟩ := hf
  exact ⟨i, j, rx.inv_int, ry.inv_int, hq _ _ hk (h i j)⟩
theorem os_intC {C : Int → Int → Prop} {g : Int → Int → V} {g' : Int → Int → D} (h : ∀ i j, Sc (g i j) (g' i j)) : OpS K (rI C g) fun d e k => ∃ i j, d = .int i ∧ e = .int j ∧ C i j ∧ k (g' i j) := by
  intro H x y d e Q k rx ry hf hq
  obtain ⟨i, j, rfl, rfl, hc, hk⟩ := hf
  exact ⟨i, j, rx.inv_int, ry.inv_int, hc, hq _ _ hk (h i j)⟩
/-- // by any divisor but 0, of up to 9000 bits -/
def CDivX (_ j : Int) : Prop := j ≠ 0 ∧ j.natAbs.log2 < 9000
theorem op_fdivX {X : Cx} : OpR X (binaryOp .FloorDiv) (rI CDivX fun i j => .int (i.fdiv j)) := opI fun i j _ _ _ _ _ hc q => floordiv_int hc.1 q (.inl (PyProof.noPylong_of_log2 hc.2))
theorem op_addU {X : Cx} : OpR X (binaryOp .Add) rAddU := OpR.or op_add (OpR.or op_add_str op_cat)
theorem op_mulU {X : Cx} : OpR X (binaryOp .Mult) rMulU := OpR.or op_mulW op_rep
theorem sl_U {X : Cx} : SlR X (rSlU X.K) := SlR.or sl_list sl_str
variable {Ex : Value → List Slot → Prop} {E : L2.St → XK} {ρ : List Slot} {R : Res → Prop} {ta tb : TE}
theorem e_sub (h : tE K Ex E ta ρ fun a => tE K Ex E tb ρ fun b => ∃ i j, a.dat = .int i ∧ b.dat = .int j ∧ R (.val (.int (i - j)))) : tE K Ex E (tOp (rI0 fun i j => .int (i - j)) ta tb) ρ R := e_op (os_int fun _ _ => sc_int) h
theorem e_mod (h : tE K Ex E ta ρ fun a => tE K Ex E tb ρ fun b => ∃ i j, a.dat = .int i ∧ b.dat = .int j ∧ 0 < j ∧ R (.val (.int (i % j)))) : tE K Ex E (tOp (rI (fun _ j => 0 < j) fun i j => .int (i % j)) ta tb) ρ R := e_op (os_intC fun _ _ => sc_int) h
theorem e_fdiv (h : tE K Ex E ta ρ fun a => tE K Ex E tb ρ fun b => ∃ i j, a.dat = .int i ∧ b.dat = .int j ∧ CDivX i j ∧ R (.val (.int (i.fdiv j)))) : tE K Ex E (tOp (rI CDivX fun i j => .int (i.fdiv j)) ta tb) ρ R := e_op (os_intC fun _ _ => sc_int) h
theorem e_pow (h : tE K Ex E ta ρ fun a => tE K Ex E tb ρ fun b => ∃ i j, a.dat = .int i ∧ b.dat = .int j ∧ CPow i j ∧ R (.val (.int (i ^ j.toNat)))) : tE K Ex E (tOp (rI CPow fun i j => .int (i ^ j.toNat)) ta tb) ρ R := e_op (os_intC fun _ _ => sc_int) h
theorem e_shr (h : tE K Ex E ta ρ fun a => tE K Ex E tb ρ fun b => ∃ i j, a.dat = .int i ∧ b.dat = .int j ∧ 0 ≤ j ∧ R (.val (.int (i / 2 ^ j.toNat)))) : tE K Ex E (tOp (rI (fun _ j => 0 ≤ j) fun i j => .int (i / 2 ^ j.toNat)) ta tb) ρ R := e_op (os_intC fun _ _ => sc_int) h
theorem e_band (h : tE K Ex E ta ρ fun a => tE K Ex E tb ρ fun b => ∃ i j, a.dat = .int i ∧ b.dat = .int j ∧ R (.val (.int (Builtin.bitAnd i j)))) : tE K Ex E (tOp (rI0 fun i j => .int (Builtin.bitAnd i j)) ta tb) ρ R := e_op (os_int fun _ _ => sc_int) h
theorem e_lt (h : tE K Ex E ta ρ fun a => tE K Ex E tb ρ fun b => ∃ i j, a.dat = .int i ∧ b.dat = .int j ∧ R (.val (.bl (decide (i < j))))) : tE K Ex E (tOp (rI0 fun i j => .bl (decide (i < j))) ta tb) ρ R := e_op (os_int fun _ _ => sc_bl) h
theorem e_le (h : tE K Ex E ta ρ fun a => tE K Ex E tb ρ fun b => ∃ i j, a.dat = .int i ∧ b.dat = .int j ∧ R (.val (.bl (decide (i ≤ j))))) : tE K Ex E (tOp (rI0 fun i j => .bl (decide (i ≤ j))) ta tb) ρ R := e_op (os_int fun _ _ => sc_bl) h
theorem e_gt (h : tE K Ex E ta ρ fun a => tE K Ex E tb ρ fun b => ∃ i j, a.dat = .int i ∧ b.dat = .int j ∧ R (.val (.bl (decide (j < i))))) : tE K Ex E (tOp (rI0 fun i j => .bl (decide (j < i))) ta tb) ρ R := e_op (os_int fun _ _ => sc_bl) h
theorem e_ge (h : tE K Ex E ta ρ fun a => tE K Ex E tb ρ fun b => ∃ i j, a.dat = .int i ∧ b.dat = .int j ∧ R (.val (.bl (decide (j ≤ i))))) : tE K Ex E (tOp (rI0 fun i j => .bl (decide (j ≤ i))) ta tb) ρ R := e_op (os_int fun _ _ => sc_bl) h
theorem e_neg (h : tE K Ex E ta ρ fun a => ∃ i, a.dat = .int i ∧ R (.val (.int (-i)))) : tE K Ex E (tUn (rU fun i => .int (-i)) ta) ρ R :=
  e_un (f := fun d k => ∃ i, d = .int i ∧ k (.int (-i))) (fun H x d Q k rx ⟨i, hd, hk⟩ hq => ⟨i, by subst hd; exact rx.inv_int, hq _ _ hk sc_int⟩) h
/-! chains of two comparisons of ints -/
theorem e_chainI {g1 g2 : Int → Int → Bool} {tc : TE}
    (h : tE K Ex E ta ρ fun a => tE K Ex E tb ρ fun b => ∃ i j, a.dat = .int i ∧ b.dat = .int j ∧ (g1 i j = true → tE K Ex E tc ρ fun z => ∃ m, z.dat = .int m ∧ R (.val (.bl (g2 j m)))) ∧ (g1 i j = false → R (.val (.bl false)))) :
    tE K Ex E (tChain (rI0 fun i j => .bl (g1 i j)) (rI0 fun i j => .bl (g2 i j)) ta tb tc) ρ R :=
  e_chain (os_int fun _ _ => sc_bl) (os_int fun _ _ => sc_bl) (h.imp fun a ha => ha.imp fun b ⟨i, j, h1, h2, h3, h4⟩ => ⟨i, j, h1, h2, g1 i j, rfl, fun q => (h3 q).imp fun z ⟨m, h5, h6⟩ => ⟨j, m, h2, h5, h6⟩, h4⟩)
/-! is -/
def isNon : D → Bool
  | .non => true
  | _ => false
theorem isNon_ok {H : Hp} : ∀ {x : V} {d : D}, Rp K H x d → decide (x = .non) = isNon d
  | _, _, .non => rfl
  | _, _, .bl _ => rfl
  | _, _, .int _ => rfl
  | _, _, .str _ => rfl
  | _, _, .ty _ => rfl
  | _, _, .cls _ => rfl
  | _, _, .tup _ _ => rfl
  | _, _, .lst _ _ => rfl
  | _, _, .fz _ _ => rfl
  | _, _, .exc _ _ => rfl
  | _, _, .dk0 _ => rfl
  | _, _, .pin _ => rfl
theorem os_isN : OpS K (fun x y H Q => y = .non ∧ Q (.bl (decide (x = .non))) H) fun d e k => e = .non ∧ k (.bl (isNon d)) := by
  intro H x y d e Q k rx ry hf hq
  obtain ⟨rfl, hk⟩ := hf
  refine ⟨ry.inv_non, ?_⟩
  rw [isNon_ok rx]
  exact hq _ _ hk sc_bl
theorem os_notN : OpS K (fun x y H Q => y = .non ∧ Q (.bl (!decide (x = .non))) H) fun d e k => e = .non ∧ k (.bl (!isNon d)) := by
  intro H x y d e Q k rx ry hf hq
  obtain ⟨rfl, hk⟩ := hf
  refine ⟨ry.inv_non, ?_⟩
  rw [isNon_ok rx]
  exact hq _ _ hk sc_bl
theorem e_isN (h : tE K Ex E ta ρ fun a => tE K Ex E tb ρ fun b => b.dat = .non ∧ R (.val (.bl (isNon a.dat)))) : tE K Ex E (tOp (fun x y H Q => y = .non ∧ Q (.bl (decide (x = .non))) H) ta tb) ρ R := e_op os_isN h
theorem e_notN (h : tE K Ex E ta ρ fun a => tE K Ex E tb ρ fun b => b.dat = .non ∧ R (.val (.bl (!isNon a.dat)))) : tE K Ex E (tOp (fun x y H Q => y = .non ∧ Q (.bl (!decide (x = .non))) H) ta tb) ρ R := e_op os_notN h
theorem e_isB (h : tE K Ex E ta ρ fun a => tE K Ex E tb ρ fun b => ∃ p q, a.dat = .bl p ∧ b.dat = .bl q ∧ R (.val (.bl (decide (p = q))))) : tE K Ex E (tOp (fun x y H Q => ∃ a b, x = .bl a ∧ y = .bl b ∧ Q (.bl (decide (a = b))) H) ta tb) ρ R :=
  e_op (f := fun d e k => ∃ p q, d = .bl p ∧ e = .bl q ∧ k (.bl (decide (p = q)))) (fun H x y d e Q k rx ry ⟨p, q, h1, h2, hk⟩ hq => ⟨p, q, by subst h1; exact rx.inv_bl, by subst h2; exact ry.inv_bl, hq _ _ hk sc_bl⟩) h
theorem e_isntB (h : tE K Ex E ta ρ fun a => tE K Ex E tb ρ fun b => ∃ p q, a.dat = .bl p ∧ b.dat = .bl q ∧ R (.val (.bl (!decide (p = q))))) : tE K Ex E (tOp (fun x y H Q => ∃ a b, x = .bl a ∧ y = .bl b ∧ Q (.bl (!decide (a = b))) H) ta tb) ρ R :=
  e_op (f := fun d e k => ∃ p q, d = .bl p ∧ e = .bl q ∧ k (.bl (!decide (p = q)))) (fun H x y d e Q k rx ry ⟨p, q, h1, h2, hk⟩ hq => ⟨p, q, by subst h1; exact rx.inv_bl, by subst h2; exact ry.inv_bl, hq _ _ hk sc_bl⟩) h
end
/-! ### == and != -/
mutual
def D.plain : D → Bool
  | .exc _ => false
  | .dk0 => false
  | .ty _ => false
  | .cls _ => false
  | .tup xs => plainAll xs
  | .lst xs => plainAll xs
  | .fz xs => plainAll xs
  | .pin _ d => d.plain
  | _ => true
def plainAll : List D → Bool
  | [] => true
  | x :: xs => x.plain && plainAll xs
end
mutual
def D.py : D → PyData
  | .non => .none
  | .bl b => .bool b
  | .int i => .int i
  | .str x => .str x
  | .tup xs => .tuple (pyAll xs)
  | .lst xs => .list (pyAll xs)
  | .fz xs => .list (pyAll xs)
  | .pin _ d => d.py
  | _ => .none
def pyAll : List D → List PyData
  | [] => []
  | x :: xs => x.py :: pyAll xs
end
mutual
/-- a bound of how deep data goes -/
def D.dep : D → Nat
  | .tup xs => depAll xs + 1
  | .lst xs => depAll xs + 1
  | .fz xs => depAll xs + 1
  | .pin _ d => d.dep
  | _ => 0
def depAll : List D → Nat
  | [] => 0
  | x :: xs => max x.dep (depAll xs)
end
def D.eqv (a b : D) : Bool := PyData.eqv a.py b.py
mutual
theorem py_plain : ∀ d : D, d.py.plain = true
  | .non => rfl
  | .bl _ => rfl
  | .int _ => rfl
  | .str _ => rfl
  | .tup xs => by rw [D.py, PyData.plain]; exact py_plainAll xs
  | .lst xs => by rw [D.py, PyData.plain]; exact py_plainAll xs
  | .fz xs => by rw [D.py, PyData.plain]; exact py_plainAll xs
  | .exc _ => rfl
  | .dk0 => rfl
  | .ty _ => rfl
  | .cls _ => rfl
  | .pin _ d => by rw [D.py]; exact py_plain d
theorem py_plainAll : ∀ xs : List D, PyData.plainAll (pyAll xs) = true
  | [] => rfl
  | x :: xs => by rw [pyAll, PyData.plainAll, py_plain x, py_plainAll xs]; rfl
end
mutual
theorem py_dep : ∀ d : D, d.py.depth ≤ d.dep
  | .non => Nat.le_refl _
  | .bl _ => Nat.le_refl _
  | .int _ => Nat.le_refl _
  | .str _ => Nat.le_refl _
  | .tup xs => by rw [D.py, D.dep, PyData.depth]; have := py_depAll xs; omega
  | .lst xs => by rw [D.py, D.dep, PyData.depth]; have := py_depAll xs; omega
  | .fz xs => by rw [D.py, D.dep, PyData.depth]; have := py_depAll xs; omega
  | .exc _ => Nat.le_refl _
  | .dk0 => Nat.le_refl _
  | .ty _ => Nat.le_refl _
  | .cls _ => Nat.le_refl _
  | .pin _ d => by rw [D.py, D.dep]; exact py_dep d
theorem py_depAll : ∀ xs : List D, PyData.depthAll (pyAll xs) ≤ depAll xs
  | [] => Nat.le_refl _
  | x :: xs => by rw [pyAll, depAll, PyData.depthAll]; have := py_dep x; have := py_depAll xs; omega
end
theorem eqv_self (d : D) : D.eqv d d = true := PySem.SeqAt.eqv_refl_plain d.py (py_plain d)
theorem depAll_le {n : Nat} : ∀ {xs : List D}, (∀ x ∈ xs, x.dep ≤ n) → depAll xs ≤ n
  | [], _ => Nat.zero_le _
  | x :: xs, h => by
    rw [depAll]
    have h1 := h x List.mem_cons_self
    have h2 := depAll_le fun y hy => h y (List.mem_cons_of_mem _ hy)
    omega
theorem plainAll_of : ∀ {xs : List D}, (∀ x ∈ xs, x.plain = true) → plainAll xs = true
  | [], _ => rfl
  | x :: xs, h => by
    rw [plainAll, h x List.mem_cons_self, plainAll_of fun y hy => h y (List.mem_cons_of_mem _ hy)]
    rfl
theorem immAll_of : ∀ {xs : List D}, (∀ x ∈ xs, x.imm = true) → immAll xs = true
  | [], _ => rfl
  | x :: xs, h => by
    rw [immAll, h x List.mem_cons_self, immAll_of fun y hy => h y (List.mem_cons_of_mem _ hy)]
    rfl
section
variable {K : PySem.W.Frag} {H : Hp}
mutual
theorem Rp.dp : ∀ {v : V} {d : D}, Rp K H v d → d.plain = true → Dp K H v d.py
  | _, _, .non, _ => .non
  | _, _, .bl b, _ => .bl b
  | _, _, .int i, _ => .int i
  | _, _, .str x, _ => .str x
  | _, _, .tup h r, z => by rw [D.py]; rw [D.plain] at z; exact .tup h (Rps.dp r z)
  | _, _, .lst h r, z => by rw [D.py]; rw [D.plain] at z; exact .lst (.inl (.inl h)) (Rps.dp r z)
  | _, _, .fz h r, z => by rw [D.py]; rw [D.plain] at z; exact .lst h (Rps.dp r z)
  | _, _, .exc _ _, z => by rw [D.plain] at z; cases z
  | _, _, .dk0 _, z => by rw [D.plain] at z; cases z
  | _, _, .ty _, z => by rw [D.plain] at z; cases z
  | _, _, .cls _, z => by rw [D.plain] at z; cases z
  | _, _, .pin h, z => by rw [D.py]; rw [D.plain] at z; exact Rp.dp h z
theorem Rps.dp : ∀ {vs : List V} {ds : List D}, Rps K H vs ds → plainAll ds = true → DpAll K H vs (pyAll ds)
  | _, _, .nil, _ => .nil
  | _, _, .cons h r, z => by
    rw [plainAll, Bool.and_eq_true] at z
    rw [pyAll]
    exact .cons (Rp.dp h z.1) (Rps.dp r z.2)
end
/-- data that may be compared -/
def CmpOk (a b : D) : Prop := a.plain = true ∧ b.plain = true ∧ min a.dep b.dep ≤ 64
def rEqU (K : PySem.W.Frag) : R2 := fun x y H Q => ∃ a b, Rp K H x a ∧ Rp K H y b ∧ CmpOk a b ∧ Q (.bl (D.eqv a b)) H
def rNeU (K : PySem.W.Frag) : R2 := fun x y H Q => ∃ a b, Rp K H x a ∧ Rp K H y b ∧ CmpOk a b ∧ Q (.bl (!D.eqv a b)) H
theorem op_eqU {X : Cx} {k : Nat} (hr : Room k X.A) : OpR X (compareOp .Eq) (rEqU X.K) := by
  intro pins s σ H x y v u Q I rx ry ⟨a, b, ra, rb, ⟨pa, pb, hd⟩, q⟩
  obtain ⟨as, r1⟩ := Dp.reads I a.py x v (ra.dp pa) rx
  obtain ⟨bs, r2⟩ := Dp.reads I b.py y u (rb.dp pb) ry
  have h1 := py_dep a
  have h2 := py_dep b
  have h3 := hr.un
  exact PySem.SeqAt.eq_plain r1 r2 (py_plain a) (py_plain b) (by omega) ⟨.bl _, H, I, rfl, q⟩
theorem op_neU {X : Cx} {k : Nat} (hr : Room k X.A) : OpR X (compareOp .NotEq) (rNeU X.K) := by
  intro pins s σ H x y v u Q I rx ry ⟨a, b, ra, rb, ⟨pa, pb, hd⟩, q⟩
  obtain ⟨as, r1⟩ := Dp.reads I a.py x v (ra.dp pa) rx
  obtain ⟨bs, r2⟩ := Dp.reads I b.py y u (rb.dp pb) ry
  have h1 := py_dep a
  have h2 := py_dep b
  have h3 := hr.un
  exact PySem.SeqAt.ne_plain r1 r2 (py_plain a) (py_plain b) (by omega) ⟨.bl _, H, I, rfl, q⟩
variable {Ex : Value → List Slot → Prop} {E : L2.St → XK} {ρ : List Slot} {R : Res → Prop} {ta tb : TE}
/-- what a comparison gives -/
def CmpD (a b : D) (c : Bool) : Prop := CmpOk a b ∧ D.eqv a b = c
theorem e_eq (h : tE K Ex E ta ρ fun a => tE K Ex E tb ρ fun b => ∃ c, CmpD a.dat b.dat c ∧ R (.val (.bl c))) : tE K Ex E (tOp (rEqU K) ta tb) ρ R :=
  e_op (f := fun d e k => ∃ c, CmpD d e c ∧ k (.bl c)) (fun H x y d e Q k rx ry ⟨c, ⟨hc, he⟩, hk⟩ hq => ⟨d, e, rx, ry, hc, hq _ _ (he ▸ hk) sc_bl⟩) h
theorem e_ne (h : tE K Ex E ta ρ fun a => tE K Ex E tb ρ fun b => ∃ c, CmpD a.dat b.dat c ∧ R (.val (.bl (!c)))) : tE K Ex E (tOp (rNeU K) ta tb) ρ R :=
  e_op (f := fun d e k => ∃ c, CmpD d e c ∧ k (.bl (!c))) (fun H x y d e Q k rx ry ⟨c, ⟨hc, he⟩, hk⟩ hq => ⟨d, e, rx, ry, hc, hq _ (.bl (!D.eqv d e)) (he ▸ hk) sc_bl⟩) h
theorem cmpd_int {i j : Int} : CmpD (.int i) (.int j) (decide (i = j)) := ⟨⟨rfl, rfl, Nat.zero_le _⟩, rfl⟩
theorem cmpd_bl {i j : Bool} : CmpD (.bl i) (.bl j) (decide (i = j)) := ⟨⟨rfl, rfl, Nat.zero_le _⟩, by cases i <;> cases j <;> rfl⟩
theorem cmpd_str {i j : Str} : CmpD (.str i) (.str j) (decide (i = j)) := ⟨⟨rfl, rfl, Nat.zero_le _⟩, rfl⟩
theorem cmpd_same {d : D} (h1 : d.plain = true) (h2 : d.dep ≤ 64) : CmpD d d true := ⟨⟨h1, h1, by omega⟩, eqv_self d⟩
theorem cmp_int {i j : Int} : CmpOk (.int i) (.int j) := ⟨rfl, rfl, Nat.zero_le _⟩
theorem eqv_int {i j : Int} : D.eqv (.int i) (.int j) = decide (i = j) := rfl
theorem eqv_bl {i j : Bool} : D.eqv (.bl i) (.bl j) = decide (i = j) := by cases i <;> cases j <;> rfl
theorem eqv_str {i j : Str} : D.eqv (.str i) (.str j) = decide (i = j) := rfl
/-! ### built-ins -/
def LenD (d : D) (n : Nat) : Prop := match d with
  | .str z => z.length ≤ sizeLine ∧ n = z.length
  | .tup ds => n = ds.length
  | .lst ds => n = ds.length
  | .fz ds => n = ds.length
  | _ => False
abbrev rLen (K : PySem.W.Frag) : List V → Hp → VK → Prop := fun xs H Q => ∃ x n, xs = [x] ∧ LenV K x H n ∧ Q (.int n) H
theorem lenD_ok {x : V} {d : D} {n : Nat} (r : Rp K H x d) (h : LenD d n) : LenV K x H n := by
  cases r with
  | str z => exact h
  | tup s q => exact .inr ⟨_, s, by rw [q.length]; exact h⟩
  | lst s q => exact .inl ⟨_, .inl (.inl s), by rw [q.length]; exact h⟩
  | fz s q => exact .inl ⟨_, s, by rw [q.length]; exact h⟩
  | _ => exact h.elim
theorem e_len (h : tE K Ex E ta ρ fun a => ∃ n, LenD a.dat n ∧ R (.val (.int n))) : tE K Ex E (tCB (rLen K) (tCons ta tNil)) ρ R :=
  fun G0 H0 G σ H Q S X k => h G0 H0 G σ H _ S X fun a ⟨n, hn, hr⟩ v G1 H1 e1 r1 => ⟨v, n, rfl, lenD_ok (r1.rd e1.sub) hn, k _ hr _ G1 H1 e1 (.int _)⟩
def tyD : D → Option String
  | .non => some "NoneType"
  | .bl _ => some "bool"
  | .int _ => some "int"
  | .str _ => some "str"
  | .tup _ => some "tuple"
  | .lst _ => some "list"
  | .fz _ => some "list"
  | .dk0 => some "dict"
  | _ => none
theorem tyD_ok {x : V} {d : D} {n : String} (r : Rp K H x d) (h : tyD d = some n) : TyX K H x (.type n) := by
  cases r with
  | non => cases h; exact .base .non
  | bl b => cases h; exact .base (.bl b)
  | int i => cases h; exact .base (.int i)
  | str z => cases h; exact .base (.str z)
  | ty _ => cases h
  | cls _ => cases h
  | pin _ => cases h
  | tup s q =>
    cases h
    rcases s with (s | ⟨o, s⟩) | ⟨o, its, m, e, c, _⟩
    · exact .base (.tup s)
    · exact .fTuple s
    · exact .kTuple e c
  | lst s q => cases h; exact .base (.lst s)
  | fz s q =>
    cases h
    rcases s with (s | ⟨o, s⟩) | ⟨o, its, m, e, c, _⟩
    · exact .base (.lst s)
    · exact .base (.frz s)
    · exact .kList e c
  | exc _ => cases h
  | dk0 s => cases h; exact .base (.dK s)
/-- isinstance(x, T), T a built-in class -/
theorem e_isi {T : String} (h : tE K Ex E ta ρ fun a => ∃ n b, tyD a.dat = some n ∧ kitB n T = some b ∧ R (.val (.bl b))) : tE K Ex E (tCB (rIsi K) (tCons ta (tCons (tC (.ty T)) tNil))) ρ R :=
  fun G0 H0 G σ H Q S X k => h G0 H0 G σ H _ S X fun a ⟨n, b, hn, hb, hr⟩ v G1 H1 e1 r1 => ⟨v, .ty T, .type n, .type T, b, rfl, .ty T, tyD_ok (r1.rd e1.sub) hn, kit_ty hb, k _ hr _ G1 H1 e1 (.bl _)⟩
theorem e_gcd (h : tE K Ex E ta ρ fun a => tE K Ex E tb ρ fun b => ∃ i j, a.dat = .int i ∧ b.dat = .int j ∧ R (.val (.int ((Nat.gcd i.natAbs j.natAbs : Nat) : Int)))) : tE K Ex E (tCB rGcd (tCons ta (tCons tb tNil))) ρ R :=
  fun G0 H0 G σ H Q S X k => h G0 H0 G σ H _ S X fun a ha v G1 H1 e1 r1 => ha G0 H0 G1 σ H1 _ (S.step e1) X fun b ⟨i, j, h1, h2, hr⟩ u G2 H2 e2 r2 => by
    have q := (r1.step e2).rd e2.sub
    rw [h1] at q
    have q2 := r2.rd e2.sub
    rw [h2] at q2
    exact ⟨i, j, by rw [q.inv_int, q2.inv_int], k _ hr _ G2 H2 (e1.trans e2) (.int _)⟩
abbrev rAbs : List V → Hp → VK → Prop := fun xs H Q => ∃ i, xs = [.int i] ∧ Q (.int (if i < 0 then -i else i)) H
theorem e_abs (h : tE K Ex E ta ρ fun a => ∃ i, a.dat = .int i ∧ R (.val (.int ((i.natAbs : Nat) : Int)))) : tE K Ex E (tCB rAbs (tCons ta tNil)) ρ R :=
  fun G0 H0 G σ H Q S X k => h G0 H0 G σ H _ S X fun a ⟨i, hi, hr⟩ v G1 H1 e1 r1 => by
    have q := r1.rd e1.sub
    rw [hi] at q
    have e : (if i < 0 then -i else i) = ((i.natAbs : Nat) : Int) := by split <;> omega
    exact ⟨i, by rw [q.inv_int], by rw [e]; exact k _ hr _ G1 H1 e1 (.int _)⟩
abbrev rMax2 : List V → Hp → VK → Prop := fun xs H Q => ∃ i j, xs = [.int i, .int j] ∧ Q (.int (if j > i then j else i)) H
theorem e_max2 (h : tE K Ex E ta ρ fun a => tE K Ex E tb ρ fun b => ∃ i j, a.dat = .int i ∧ b.dat = .int j ∧ R (.val (.int (max i j)))) : tE K Ex E (tCB rMax2 (tCons ta (tCons tb tNil))) ρ R :=
  fun G0 H0 G σ H Q S X k => h G0 H0 G σ H _ S X fun a ha v G1 H1 e1 r1 => ha G0 H0 G1 σ H1 _ (S.step e1) X fun b ⟨i, j, h1, h2, hr⟩ u G2 H2 e2 r2 => by
    have q := (r1.step e2).rd e2.sub
    rw [h1] at q
    have q2 := r2.rd e2.sub
    rw [h2] at q2
    have e : (if j > i then j else i) = max i j := by split <;> omega
    exact ⟨i, j, by rw [q.inv_int, q2.inv_int], by rw [e]; exact k _ hr _ G2 H2 (e1.trans e2) (.int _)⟩
/-- int(x) of an int or a bool -/
abbrev rInt1 : List V → Hp → VK → Prop := fun xs H Q => (∃ i, xs = [.int i] ∧ Q (.int i) H) ∨ ∃ k, xs = [.bl k] ∧ Q (.int (if k then 1 else 0)) H
theorem e_intB (h : tE K Ex E ta ρ fun a => ∃ b, a.dat = .bl b ∧ R (.val (.int (if b then 1 else 0)))) : tE K Ex E (tCB rInt1 (tCons ta tNil)) ρ R :=
  fun G0 H0 G σ H Q S X k => h G0 H0 G σ H _ S X fun a ⟨b, hb, hr⟩ v G1 H1 e1 r1 => by
    have q := r1.rd e1.sub
    rw [hb] at q
    exact .inr ⟨b, by rw [q.inv_bl], k _ hr _ G1 H1 e1 (.int _)⟩
abbrev rStrI : List V → Hp → VK → Prop := fun xs H Q => ∃ i, xs = [.int i] ∧ i.natAbs.log2 < 1920 ∧ Q (.str (toString i)) H
theorem e_strI (h : tE K Ex E ta ρ fun a => ∃ i : Int, a.dat = .int i ∧ i.natAbs.log2 < 1920 ∧ R (.val (.str (toString i)))) : tE K Ex E (tCB rStrI (tCons ta tNil)) ρ R :=
  fun G0 H0 G σ H Q S X k => h G0 H0 G σ H _ S X fun a ⟨i, hi, hl, hr⟩ v G1 H1 e1 r1 => by
    have q := r1.rd e1.sub
    rw [hi] at q
    exact ⟨i, by rw [q.inv_int], hl, k _ hr _ G1 H1 e1 (.str _)⟩
theorem rps_bl : ∀ {vs : List V} {bs : List Bool}, Rps K H vs (bs.map D.bl) → vs = bs.map V.bl
  | _, [], .nil => rfl
  | _, b :: bs, .cons h r => by
    rw [List.map_cons, h.inv_bl, rps_bl r]
theorem e_all (h : tE K Ex E ta ρ (vR fun d => ∃ bs : List Bool, d = .lst (bs.map D.bl) ∧ R (.val (.bl (bs.all id))))) : tE K Ex E (tCB (rAll K) (tCons ta tNil)) ρ R :=
  fun G0 H0 G σ H Q S X k => (v_of h) G0 H0 G σ H _ S X fun d ⟨bs, hd, hr⟩ v G1 H1 e1 r1 => by
    subst hd
    obtain ⟨a, xs, rfl, h1, h2⟩ := r1.inv_lst
    have e := rps_bl h2
    subst e
    exact ⟨a, bs, rfl, .inl (.inl (e1.sub _ _ h1)), k _ hr _ G1 H1 e1 (.bl _)⟩
/-- {} -/
theorem e_dk0 (h : R (.val .dk0)) : tE K Ex E tDNewK ρ R := fun G0 H0 G σ H Q S X k p np => k _ h _ (upd G p (.dK [])) _ (Ev.laid S.ev.sub np) (.dk0 upd_same)
end
/-! ### a def by name -/
structure Dfn (P : Program) (w : World) (K : PySem.W.Frag) (mg : Str → Option Value) (base : Heap) (CXx : CXT) (x : Str) (ps : List Str) (k : Nat) (fs : FSpec) : Prop where
  ex : ∃ (f : Addr) (fd : FuncData), mg x = some (.ref f) ∧ PySem.W.keepIn K (.ref f) = true ∧ Binds K fd ps [] ∧ FnOk P w K mg base CXx k f fd ps (spD K fs)
section
variable {X : Cx} {CXx : CXT} {ps : List Str} {k : Nat} {fs : FSpec} {x : Str} {p pos : Pos} {e : Expr} {es : List Expr} {t : TA} {E : XK}
theorem pe_dfnX (d : Dfn X.prog X.w X.K X.mg X.base CXx x ps k fs) (hr : Room k X.A) (hx : Passes CXx X E) (ha : PA X (e :: es) t) (hg : Gl X x := by rfl) (hdb : (x == ("__debug__" : Str)) = false := by decide)
    (he : starEach (e :: es) X.env = (false, eval e X.env) :: starEach es X.env := by rfl) (hpl : (backTo pos (starEach es X.env)).any (·.1) = false := by rfl) : PE X (.Call (.Name x p) (e :: es) [] pos) (tCall (spD X.K fs) [] E t) := by
  obtain ⟨f, fd, gm, kp, b, F⟩ := d.ex
  exact pe_call F hr hg gm kp b .nil hx ha hdb he hpl
theorem pe_dfn (d : Dfn X.prog X.w X.K X.mg X.base CX0 x ps k fs) (hr : Room k X.A) (ha : PA X (e :: es) t) (hg : Gl X x := by rfl) (hdb : (x == ("__debug__" : Str)) = false := by decide)
    (he : starEach (e :: es) X.env = (false, eval e X.env) :: starEach es X.env := by rfl) (hpl : (backTo pos (starEach es X.env)).any (·.1) = false := by rfl) : PE X (.Call (.Name x p) (e :: es) [] pos) (tCall (spD X.K fs) [] E0 t) :=
  pe_dfnX d hr pass0 ha hg hdb he hpl
theorem pt_tru {a : Expr} {ta : TE} (ha : PE X a ta) (he : ∀ whole, isTrue a X.env whole = (do let v ← whole; standAt a.pos; holding [v] (truthy v)) := by intro _; rfl) : PT X a (tTru X.K ta) := pt_truth ha he
end
end Y
end

section
namespace PySem.W
open PySem PySem.Calls PyProof.Rows Builtin Builtin.ObjectAttr Builtin.Getset_descriptor
section
variable {prog : Program} {w : World} {A : Around} {E : Value → Shared → Prop} {s : Shared} {K : Frag} {R : Result → Shared → Prop} {C : Addr} {v : Value}
/-- an own class's name: it was kept in the class's third slot when the class was made, so nothing is written -/
theorem ocn_get {tp : Value} {o : Obj} (inK : K.In s.heap) (lk : K.lookup C = some o) (sl : o.slots[2]? = some (some v)) (ty : typeIn K (.ref C) = some (.type "type")) (q : R (.ok (.ret v)) s) :
    codeAny (model prog w) A (.call (.builtin "getset_descriptor.__get__") ⟨[.builtin "type.__name__", .ref C, tp], []⟩) R s := by
  obtain ⟨hh, gg, dd, tt, oo⟩ := s
  have La : Looks (model prog w) hh (typeOf (.ref C)) (.type "type") := looks_typeIn inK ty
  have Lb : Looks (model prog w) hh (isSubtype (.type "type") (.type "type")) true := Looks.of_pure (by rw [isSubtype_type]; kernel_rfl)
  refine (codeAny_call_builtin KF.slot_gs.plain KF.entry_gs) (KF.slot_gs.check _ _ _ _ _ _ _ _ ktyn_type (KF.args_gs _ _ _) ?_)
  unfold Builtin.«getset_descriptor.__get__» descrGet; rw [dga_obj]
  apply wpAny_bind; apply wpAny_pure
  unfold descrGetter descrCheckInstance descrNameAndClass isInstance; simp only [ktyn_owner]
  repeat lk
  apply And.intro (Code.quiet_builtin _ (by decide +kernel)); apply codeAny_builtin ktyn_entry
  unfold Builtin.«type.__name__»; dsimp only
  unfold keptObject; dsimp only
  unfold slotAt
  refine wpAny_bind (wpAny_bind (wpAny_loadPart_at (inK _ _ lk) (wpAny_pure ?_)))
  rw [sl]
  first | exact wpAny_pure q | exact wpAny_bind (wpAny_pure (wpAny_pure q))
/-- C.__name__ of an own class at C -/
theorem ocn_attr {o : Obj} {expr : Bool} {Q : Value → Shared → Prop} (inK : K.In s.heap) (lk : K.lookup C = some o) (sl : o.slots[2]? = some (some v)) (ty : typeIn K (.ref C) = some (.type "type"))
    (rd : readsIn K C (.type "type") = true) (fc : findCls K (.ref C) (.type "type") "__name__" = some (.get (.builtin "getset_descriptor.__get__") (.builtin "type.__name__") (.ref C) (.type "type"))) (hi : handedIn v = true)
    (q : ∀ t, Q v { s with toks := t }) : wpAny (model prog w) A (getAttr (.ref C) "__name__" expr) Q E s := by
  apply cls_read inK rd fc
  show wpAny _ _ (do ret (← holding [Value.builtin "type.__name__"] (call (.builtin "getset_descriptor.__get__") [.builtin "type.__name__", .ref C, .type "type"]))) _ _ _
  refine wpAny_bind (wpAny_holding (wpAny_call (ocn_get (s := { s with toks := s.toks + 1 }) inK lk sl ty ?_)))
  refine wpAny_pure ?_
  show wpAny _ _ (handedOut v) _ _ _
  rw [handedOut_of hi]
  exact wpAny_pure (q _)
variable {x D : Addr} {ox : Obj} {od : Option Obj}
/-- e.__class__ of an exception of an own class -/
theorem oxc_attr {expr : Bool} {Q : Value → Shared → Prop} (cc : L2.ExcC K D) (inK : K.In s.heap) (I : InstAt s.heap x ox D od) (q : ∀ t, Q (.ref D) { s with toks := t }) : wpAny (model prog w) A (getAttr (.ref x) "__class__" expr) Q E s := by
  have isC : (clsIn K D).isSome = true := by obtain ⟨cd, hc, _⟩ := any_some cc.hd; rw [hc]; rfl
  have fo : findObj K D od "__class__" = some (.bind (.builtin "getset_descriptor.__get__") (.builtin "object.__class__")) := findObj_dataE isC cc.ha cc.hn cc.ht
  obtain ⟨hp, gg, dd, t, oo⟩ := s
  have La := I.type (M := model prog w)
  have Lb := looks_findIn (M := model prog w) inK cc.hg
  have Lc := looks_findIn (M := model prog w) inK cc.hk
  have Ld := looks_find (M := model prog w) inK I fo
  have isE : Looks (model prog w) hp (isInstance (.ref x) (.type "BaseException")) true := La.andThen (looks_subIn inK cc.hs)
  have n0 : (expr && onTheHeap (Value.builtin "BaseException.__getattribute__")) = false := by cases expr <;> rfl
  have n1 : (onTheHeap (Value.ref D) && Value.builtin "BaseException.__getattribute__" == Value.builtin "object.__getattribute__") = false := by
    rw [show (Value.builtin "BaseException.__getattribute__" == Value.builtin "object.__getattribute__") = false by decide +kernel]; rfl
  unfold getAttr getAttrBy
  apply wpAny_bind; apply wpAny_mkText; apply wpAny_holding; apply wpAny_bind; apply La.at; apply wpAny_bind; apply Lb.at
  show wpAny _ _ (if (onTheHeap (Value.ref D) && Value.builtin "BaseException.__getattribute__" == Value.builtin "object.__getattribute__") = true then _ else _) _ _ _
  rw [n1, if_neg Bool.false_ne_true]; unfold getAttrByItsOwn hookBefore
  apply wpAny_bind; rw [if_pos (show onTheHeap (Value.ref D) = true by rfl)]; apply Lc.at
  apply wpAny_bind; apply wpAny_attempt; apply wpAny_holding
  unfold callGetattribute; rw [n0, if_neg Bool.false_ne_true]
  unfold boundAndCalled; rw [PySem.F.excAttr_ValueError.ga.bind (.ref x)]
  apply wpAny_bind; apply wpAny_pure
  show wpAny _ _ (call (.builtin "BaseException.__getattribute__") [.ref x, .str "__class__" t]) _ _ _
  apply wpAny_call; apply codeAny_call_builtin PySem.F.excAttr_ValueError.ga.plain PySem.F.entry_bexc_ga
  refine @PySem.W.check_slot (model prog w) _ _ ⟨hp, gg, dd, t + 1, oo⟩ "BaseException.__getattribute__" "BaseException" "__getattribute__" (.ref x) [.str "__class__" t] [] _ (by decide +kernel) (by decide +kernel) isE (PySem.F.args_bexc_ga (.ref x) (.str "__class__" t)) ?_
  unfold Builtin.«object.__getattribute__»
  refine wpAny_bind (wpAny_of_eq (a := ((Value.ref x : Value), [Value.str "__class__" t])) (by first | rfl | (simp only [slotArgs]; rfl)) ?_)
  apply wpAny_bind; apply wpAny_pure; apply wpAny_bind; apply La.at; apply wpAny_bind; apply Ld.at
  show wpAny _ _ (holding [Value.builtin "object.__class__"] (call (.builtin "getset_descriptor.__get__") [.builtin "object.__class__", .ref x, .ref D]) >>= ret) _ _ _
  refine wpAny_bind (wpAny_holding (wpAny_call (class_get (s := ⟨hp, gg, dd, t + 1, oo⟩) (ox := ox) (od := od) inK I cc.hm ?_)))
  apply wpAny_pure
  show wpAny _ _ (handedOut (.ref D)) _ _ _
  rw [handedOut_of (v := .ref D) (by rfl)]
  first | exact wpAny_pure (q _) | exact wpAny_pure (wpAny_pure (q _))
end
end PySem.W
namespace Y
open PySem PySem.Spec PyProof.Rows L2
/-- what an own error's class tells as its name -/
structure NmC (K : PySem.W.Frag) (C : Addr) (nm : Str) : Prop where
  e : ExcC K C
  at_ : ∃ (o : Obj) (tk : Tok), K.lookup C = some o ∧ o.slots[2]? = some (some (.str nm tk))
  ty : PySem.W.typeIn K (.ref C) = some (.type "type")
  rd : PySem.W.readsIn K C (.type "type") = true
  fc : PySem.W.findCls K (.ref C) (.type "type") "__name__" = some (.get (.builtin "getset_descriptor.__get__") (.builtin "type.__name__") (.ref C) (.type "type"))
/-- e.__class__.__name__, e an error that is being made -/
def tClsN (K : PySem.W.Frag) (te : TE) : TE := fun σ H Q => te σ H fun x H1 => ∃ (a C : Addr) (nm : Str), x = .ref a ∧ H1 a = some (exo a C none) ∧ NmC K C nm ∧ Q (.str nm) H1
theorem pe_clsName {X : Cx} {e : Expr} {te : TE} {p1 p2 : Pos} (he : PE X e te) (hb1 : attributeBase e "__class__" X.env (eval e X.env) = eval e X.env := by rfl)
    (hb2 : attributeBase (.Attribute e "__class__" p1) "__name__" X.env (eval (.Attribute e "__class__" p1) X.env) = eval (.Attribute e "__class__" p1) X.env := by rfl) :
    PE X (.Attribute (.Attribute e "__class__" p1) "__name__" p2) (tClsN X.K te) := by
  refine ⟨fun pins s σ H Q I h => ?_⟩
  refine attr_of hb2 (attr_of hb1 (thn (he.run pins s σ H _ I h) fun u s1 ⟨x, H1, I1, rx, a, C, nm, ex, ea, nc, q⟩ => ?_))
  subst ex
  obtain rfl : u = Value.ref a := rx
  obtain ⟨t1, ho⟩ := exo_at I1.hok ea
  refine PySem.W.oxc_attr (od := none) nc.e I1.kIn ⟨ho, rfl, rfl, trivial⟩ fun t => ?_
  obtain ⟨o, tk, lk, sl⟩ := nc.at_
  refine PySem.W.ocn_attr (I1.tok t).kIn lk sl nc.ty nc.rd nc.fc (by rfl) fun t2 => ?_
  exact ⟨.str nm, H1, (I1.tok t).tok t2, ⟨tk, rfl⟩, q⟩
end Y
end

section
namespace Y
open PySem PySem.Spec PyProof.Rows L2
/-! ### errors that are caught and kept -/
section
variable {X : Cx} {pins : List (Addr × Obj)} {σ : L2.St} {H : Hp} {s : Shared}
theorem Inv.track {a C : Addr} {dx : Option Addr} {oe : Obj} {vs : Array Value} (I : Inv X ((a, oe) :: pins) σ H s) (n0 : X.s_0.heap.get? a = none) (np : ∀ p ∈ X.pn ++ pins, p.1 ≠ a) (z : Zc (.ref C) dx oe) (d : oe.data = .fields vs) : Inv X pins σ (upd H a (ExcO C dx a)) s := by
  have mem : (a, oe) ∈ X.pn ++ (a, oe) :: pins := List.mem_append_right _ List.mem_cons_self
  obtain ⟨ha, hn, hL, hF, hc⟩ := I.pin (a, oe) mem
  have ne : ∀ b o, X.s_0.heap.get? b = some o → b ≠ a := fun b o e q => by
    subst q
    rw [n0] at e
    cases e
  have nH : ∀ b o, H b = some o → b ≠ a := fun b o e q => by
    subst q
    rw [hn] at e
    cases e
  refine ⟨I.ok, I.os, I.bare, ⟨I.base.keep, I.base.slot, fun b o e q r => ?_, I.base.there, fun b xs e => ?_, fun b o xs e => ?_, fun b ps e => ?_⟩, I.loc, I.cell, ?_, fun x c e => ?_, fun p hp => ?_, ?_, I.len⟩
  · rw [upd_ne (ne b o e)]
    exact I.base.free b o e q r
  · have q := I.base.tups b xs e
    rw [upd_ne (nH _ _ q)]
    exact q
  · have q := I.base.frzs b o xs e
    rw [upd_ne (nH _ _ q)]
    exact q
  · obtain ⟨more, q⟩ := I.base.tbls b ps e
    exact ⟨more, by rw [upd_ne (nH _ _ q)]; exact q⟩
  · rw [upd_ne (Ne.symm hL)]
    exact I.free
  · rw [upd_ne]
    · exact I.freeC x c e
    · intro q
      subst q
      obtain ⟨v, o, ho, hd⟩ := I.cell x _ e
      have ha' : s.heap.get? c = some oe := ha
      rw [ha'] at ho
      have z2 := Option.some.inj ho
      subst z2
      exact hc v hd
  · have hp' : p ∈ X.pn ++ (a, oe) :: pins := by
      rcases List.mem_append.mp hp with h | h
      · exact List.mem_append_left _ h
      · exact List.mem_append_right _ (List.mem_cons_of_mem _ h)
    obtain ⟨h1, h2, h3, h4, h5⟩ := I.pin p hp'
    exact ⟨h1, by rw [upd_ne (np p hp)]; exact h2, h3, h4, h5⟩
  · intro b o e
    by_cases hb : b = a
    · subst hb
      rw [upd_same] at e
      have q := Option.some.inj e
      subst q
      exact ⟨⟨oe, vs, ha, z, d⟩, ⟨oe, ha⟩, fun _ _ ⟨o1, v1, q1, r1⟩ k => ⟨o1, v1, k o1 q1, r1⟩⟩
    · rw [upd_ne hb] at e
      refine (I.hok b o e).stay (fun _ _ _ q => q) (fun c q => ?_) fun c xs q => ?_
      · rw [upd_ne (nH _ _ q)]
        exact q
      · rw [upd_ne (nH _ _ q)]
        exact q
end
/-- what «except c as n: y = n» wishes of an error of the body: n in slot i, y in slot j; the error is kept -/
def wKeep (K : PySem.W.Frag) (c : Value) (i j : Nat) (D : Ends) : WX := fun cls d σ H =>
  ∃ C, cls = .ref C ∧ PySem.W.exmOne K cls c = some true ∧ ∀ a, H a = none → D.nx ((σ.set j (some (.ref a))).set i none) (upd H a (ExcO C d a))
section
variable {X : Cx} {x n y : Str} {c : Value} {i j : Nat} {body : List Stmt} {np p1 p2 p3 pos pos' : Pos} {tb : WX → TS}
theorem ps_try_keep (st1 : X.stack = X.env :: X.outer) (fr1 : X.env.frame = some X.env.locals) (nd1 : X.N.Nodup) (hi : X.N[i]? = some n) (hj : X.N[j]? = some y) (hij : i ≠ j) (lc1 : X.env.kindOf n = some .local) (ly : X.env.kindOf y = some .local) (nm : Names X x c) (nex : X.ex = [])
    (hn1 : (n == ("__debug__" : Str)) = false := by decide) (hn2 : (n == ("__classdict__" : Str)) = false := by decide)
    (hw1 : swapsWith (.Name n p2) (some (.Name y p1)) p3.line X.env = pure false)
    (bd : ∀ (W : WX) (pn : List (Addr × Obj)) (xe : Value → Shared → Prop), Takes (X.tr pn xe) W → PassesOwn (model X.prog X.w) X.A X.env xe → PSs (X.tr pn xe) body (tb W)) :
    PS X (.Try body [.ExceptHandler (some (.Name x np)) (some n) [.Assign [.Name y p1] (.Name n p2) p3] pos'] [] [] pos) (fun D σ H => tb (wKeep X.K c i j D) D σ H) := by
  refine ⟨fun pins s σ H D I h => ?_⟩
  have ok := I.ok
  have frames1 : X.A.frames = some (X.env :: X.outer) := ok.frames.trans (congrArg some st1)
  refine wpAny_Try_except ?_
  refine wpAny_mono ((bd (wKeep X.K c i j D) (X.pn ++ pins) (fun e s₁ => wpAny (model X.prog X.w) X.A (noteFrame e X.env)
    (fun _ s₂ => wpAny (model X.prog X.w) X.A (setFlight e none) (fun _ s₃ => wpAny (model X.prog X.w) X.A
      (handleBy e X.env [.ExceptHandler (some (.Name x np)) (some n) [.Assign [.Name y p1] (.Name n p2) p3] pos']) (SP X pins D) X.xe s₃) X.xe s₂) X.xe s₁)
    (fun u s' xx => ?_) PassesOwn.looking).run [] s σ H D (I.toTry _) h) (fun f s1 hsp => ?_) (fun _ _ he => he)
  · obtain ⟨a, B, sI, pn2, σ1, H1, cls, d, rfl, J0, keepB, up0, sky0, na, os1, ag1, C, rfl, hx, hyes⟩ := xx
    have J : Inv X pins σ1 H1 sI := J0.ofTry ok
    have sky1 : Sky B (X.env :: X.outer) a (Zc (.ref C) d) X.env.locals s'.heap := st1 ▸ sky0
    show wpAny (model X.prog X.w) X.A (noteFrame (.ref a) X.env) _ _ _
    refine Sky.land Zc.steady frames1 fr1 sky1 fun h3 fl3 up3 => ?_
    have J3 : Inv X pins σ1 H1 { s' with heap := h3 } := J.landed keepB fl3.1 (up0.trans up3) os1 ag1
    obtain ⟨oe3, vs3, he3, hz3, hd3⟩ := fl3.there
    -- the error's place is no frame's, and nothing stood there
    have nfr : a ∉ frs (X.env :: X.outer) := fun hm => by
      obtain ⟨_, o', e', hnf⟩ := fl3.2.2.1.mem hm
      rw [he3] at e'
      have q := Option.some.inj e'
      subst q
      exact hnf _ hd3
    have nL : a ≠ X.env.locals := fun q => nfr (List.mem_filterMap.mpr ⟨X.env, List.mem_cons_self, q ▸ fr1⟩)
    have nF : a ∉ X.fs := fun hm => by
      obtain ⟨e, he, q⟩ := List.mem_filterMap.mp hm
      exact nfr (List.mem_filterMap.mpr ⟨e, List.mem_cons_of_mem _ he, q⟩)
    have nI : sI.heap.get? a = none := by
      cases q : sI.heap.get? a with
      | none => rfl
      | some o =>
        have z := keepB a o q (st1 ▸ nfr)
        rw [fl3.2.1] at z
        cases z
    have n0 : X.s_0.heap.get? a = none := by
      cases q : X.s_0.heap.get? a with
      | none => rfl
      | some o =>
        obtain ⟨o', z⟩ := J.base.there a o q (by rw [nex]; exact fun z => nomatch z)
        rw [nI] at z
        cases z
    have npin : ∀ p ∈ X.pn ++ pins, p.1 ≠ a := fun p hp q => by
      have z := (J.pin p hp).1
      rw [q, nI] at z
      cases z
    have S3 := J3.suite he3 hd3 na nL nF
    refine wpAny_handleBy_cons (codeAny_handlers_test ?_) (by intro q; cases q)
    have lookT : PySem.W.Looks (model X.prog X.w) h3 (typeOf (.ref a)) (.ref C) := fun A Q E s k q => wpAny_typeOf_ref (k _ _ he3) (hz3.1.symm ▸ q)
    have look := PySem.W.exm_one (M := model X.prog X.w) (J3.kIn) lookT hx
    have named : ∀ {Q : Value → Shared → Prop} {E : Value → Shared → Prop}, Q c { s' with heap := h3 } →
        wpAny (model X.prog X.w) (X.A.mark (some (.ref a))) (eval (.Name x np) X.env) Q E { s' with heap := h3 } := fun {Q E} q => by
      obtain ⟨hg, hdb, hm | ⟨hm, hv, hnn⟩⟩ := nm
      · exact ld_glob (X := X.suite a ((a, oe3) :: (X.pn ++ pins))) S3 hg hm q hdb
      · exact ld_blt (X := X.suite a ((a, oe3) :: (X.pn ++ pins))) S3 hg hm hv q hnn hdb
    refine named (look.here ?_)
    refine codeAny_handlers_suite_as ?_
    refine HandSPX.lands_againZ fl3 fun h4 fl4 up4 => ?_
    have J4 : Inv X pins σ1 H1 { s' with heap := h4 } := J.landed keepB fl4.1 ((up0.trans up3).trans up4) os1 ag1
    obtain ⟨oe4, vs4, he4, hz4, hd4⟩ := fl4.there
    have S4 := J4.suite he4 hd4 na nL nF
    refine store_ok (X := X.suite a ((a, oe4) :: (X.pn ++ pins))) (v := .ref a) S4 nd1 hi (.inl lc1) rfl (fun s5 S5 => ?_) (.inr lc1)
    -- the suite: y = n
    have suite : PSs (X.suite a ((a, oe4) :: (X.pn ++ pins))) [.Assign [.Name y p1] (.Name n p2) p3] (tAsg (tVar i) (gName j)) :=
      pss_one (ps_set (X := X.suite a ((a, oe4) :: (X.pn ++ pins))) (i := j) nd1 hj (.inl ly) (pe_var hi (.inl lc1) hn1 hn2) hw1 (.inr ly))
    have hil : i < σ1.length := by
      rw [J.len]
      exact (List.getElem?_eq_some_iff.mp hi).1
    refine wpAny_mono (suite.run [] s5 _ H1 { nx := fun σ6 H6 => σ6 = (σ1.set i (some (.ref a))).set j (some (.ref a)) ∧ H6 = H1, rt := fun _ _ => False } S5 ⟨.ref a, get_set_eq hil, rfl, rfl⟩) (fun f s6 hsp => ?_) (fun _ _ z => False.elim z)
    cases f with
    | next =>
      obtain ⟨σ6, H6, S6, rfl, rfl⟩ := hsp
      have S7 : Inv X ((a, oe4) :: pins) ((σ1.set i (some (.ref a))).set j (some (.ref a))) H6 s6 :=
        ⟨ok, S6.os, S6.bare, S6.base, S6.loc, S6.cell, S6.free, S6.freeC, fun p hp => S6.pin p (by
          rw [List.append_nil]
          rcases List.mem_append.mp hp with q | q
          · exact List.mem_cons_of_mem _ (List.mem_append_left _ q)
          · rcases List.mem_cons.mp q with q | q
            · exact q ▸ List.mem_cons_self
            · exact List.mem_cons_of_mem _ (List.mem_append_right _ q)), S6.hok, S6.len⟩
      refine gone_ok S7 nd1 hi lc1 fun s7 J7 => ?_
      have J8 := Inv.track J7 n0 npin hz4 hd4
      have eσ : ((σ1.set i (some (V.ref a))).set j (some (.ref a))).set i none = (σ1.set j (some (.ref a))).set i none := by
        rw [List.set_comm _ _ hij, List.set_set]
      rw [eσ] at J8
      exact ⟨_, _, J8, hyes a na⟩
    | brk =>
      obtain ⟨_, _, _, q⟩ := hsp
      exact q.elim
    | cont =>
      obtain ⟨_, _, _, q⟩ := hsp
      exact q.elim
    | ret u =>
      obtain ⟨_, _, _, _, _, q⟩ := hsp
      exact q.elim
  · cases f with
    | next =>
      obtain ⟨σ', H', J, q⟩ := hsp
      exact wpAny_execs_nil ⟨σ', H', J.ofTry ok, q⟩
    | brk =>
      obtain ⟨σ', H', J, q⟩ := hsp
      exact ⟨σ', H', J.ofTry ok, q⟩
    | cont =>
      obtain ⟨σ', H', J, q⟩ := hsp
      exact ⟨σ', H', J.ofTry ok, q⟩
    | ret u =>
      obtain ⟨v, σ', H', J, r, q⟩ := hsp
      exact ⟨v, σ', H', J.ofTry ok, r, q⟩
end
/-- an error's own dict is shared -/
theorem Sig.dx {K : PySem.W.Frag} {G0 H0 G : Hp} {ρ : List Slot} {σ : L2.St} {H : Hp} {dx : Option Addr} (S : Sig K G0 H0 G ρ σ H) (h : DxOk dx H) : ∃ G', Same G G' ∧ Sig K G0 H0 G' ρ σ H ∧ DxOk dx G' := by
  cases dx with
  | none => exact ⟨G, Same.refl _, S, DxOk.none⟩
  | some d =>
    obtain ⟨fs, hd⟩ := h d rfl
    have gs : Same G (upd G d (.xd fs)) := fun b o e => by
      by_cases hb : b = d
      · subst hb
        have z := S.ev.sub _ _ e
        rw [hd] at z
        rw [upd_same]
        exact z
      · rw [upd_ne hb]
        exact e
    have sb : Same (upd G d (.xd fs)) H := fun b o e => by
      by_cases hb : b = d
      · subst hb
        rw [upd_same] at e
        rw [hd]
        exact e
      · rw [upd_ne hb] at e
        exact S.ev.sub _ _ e
    refine ⟨_, gs, S.step ⟨Same.refl _, gs, sb, fun b xs e g => ?_⟩, fun d' e => ?_⟩
    · rw [upd_ne fun z => by subst z; rw [hd] at e; cases e]
      exact g
    · cases e
      exact ⟨fs, upd_same⟩
/-- isinstance of such an error -/
def rIsX (K : PySem.W.Frag) : List V → Hp → VK → Prop := fun xs H Q => ∃ (a C : Addr) (dx : Option Addr) (c : V) (cv : Value) (b : Bool), xs = [.ref a, c] ∧ H a = some (ExcO C dx a) ∧ DxOk dx H ∧ ExcC K C ∧ (∀ u, RelV c u → u = cv) ∧ PySem.W.kitOne K (.ref C) cv = some b ∧ Q (.bl b) H
theorem call_isX {X : Cx} : CallR X (.builtin "isinstance") (rIsX X.K) := by
  intro pins s σ H xs us Q I r ⟨a, C, dx, c, cv, b, e0, ha, hdx, cc, hcv, e, q⟩
  subst e0
  cases r with
  | cons rx rr =>
    cases rr with
    | cons rt rr =>
      cases rr
      cases rx
      have ec := hcv _ rt
      subst ec
      obtain ⟨⟨oe, vs, hg, hz, hv⟩, _, _⟩ := I.hok a _ ha
      have J : ∃ od, PySem.W.InstAt s.heap a oe C od := by
        obtain ⟨oc, od, oda, osl⟩ := oe
        obtain ⟨h1, h2⟩ := hz
        dsimp only at h1 h2 hv
        subst h1 h2 hv
        cases od with
        | none => exact ⟨none, hg, rfl, rfl, trivial⟩
        | some d =>
          obtain ⟨fs, hd⟩ := hdx d rfl
          obtain ⟨mA, ⟨o, _, _, ho, _⟩, _⟩ := I.hok d _ hd
          exact ⟨some o, hg, rfl, rfl, ho⟩
      obtain ⟨od, J⟩ := J
      have isC : (PySem.W.clsIn X.K C).isSome = true := by
        obtain ⟨cd, hc, _⟩ := PySem.W.any_some cc.hd
        rw [hc]
        rfl
      exact PySem.W.kia_one (PySem.W.kitx_exc isC cc.hg cc.hk cc.hs cc.ha cc.hn cc.ht cc.hm) I.kIn J e (fun z => nomatch z) fun tk => ⟨.bl b, H, I.kept (t' := tk) fun _ _ z => z, rfl, q⟩
section
variable {K : PySem.W.Frag} {Ex : Value → List Slot → Prop} {E : L2.St → XK} {ρ : List Slot} {De : DE} {R : Res → Prop} {ta : TE}
theorem e_isX {c : V} {cv : Value} (hcv : ∀ u, RelV c u → u = cv) (h : tE K Ex E ta ρ fun a => ∃ C b, a.dat = .exc C ∧ ExcC K C ∧ PySem.W.kitOne K (.ref C) cv = some b ∧ R (.val (.bl b))) : tE K Ex E (tCB (rIsX K) (tCons ta (tCons (tC c) tNil))) ρ R :=
  fun G0 H0 G σ H Q S X k => h G0 H0 G σ H _ S X fun a ⟨C, b, hd, cc, hk, hr⟩ v G1 H1 e1 r1 => by
    have q := r1.rd e1.sub
    rw [hd] at q
    obtain ⟨l, dx, rfl, hl, hd⟩ := q.inv_exc
    exact ⟨l, C, dx, c, cv, b, rfl, hl, hd, cc, hcv, hk, k _ hr _ G1 H1 e1 (.bl _)⟩
theorem s_tryK {tb : WX → TS} {c : Value} {i j : Nat} (h : ∀ W : WX, tS K (fun e ρ' => ∃ C, e = .ref C ∧ PySem.W.exmOne K e c = some true ∧ De.nx ((ρ'.set j (.val (.exc C))).set i .emp)) (fun σ e d H => W e d σ H) (tb W) ρ De) :
    tS K Ex E (fun D σ H => tb (wKeep K c i j D) D σ H) ρ De :=
  fun G0 H0 G σ H D S X k => h (wKeep K c i j D) G0 H0 G σ H D S (fun e ρ' ⟨C, hC, hx, hn⟩ G1 σ' H' dx S1 hd => by
    subst hC
    obtain ⟨G', _, S', hdg⟩ := S1.dx hd
    refine ⟨C, rfl, hx, fun a na => ?_⟩
    have ev := Ev.laid (o := ExcO C dx a) S'.ev.sub na
    exact k.nx _ (upd G' a (ExcO C dx a)) _ _ hn (((S'.step ev).setVal (.exc upd_same (hdg.mono ev.gs))).setEmp)) k
end
/-! ### what the top holds -/
/-- built-ins that no name of the text hides -/
structure Bl (mg : Str → Option Value) : Prop where
  bLen : mg "len" = none
  bIsi : mg "isinstance" = none
  bRange : mg "range" = none
  bInt : mg "int" = none
  bStr : mg "str" = none
  bList : mg "list" = none
  bTuple : mg "tuple" = none
  bBool : mg "bool" = none
  bAbs : mg "abs" = none
  bMax : mg "max" = none
  bMin : mg "min" = none
  bAll : mg "all" = none
  bAny : mg "any" = none
  bEnum : mg "enumerate" = none
  bZip : mg "zip" = none
  bRepr : mg "repr" = none
  bSum : mg "sum" = none
  bSorted : mg "sorted" = none
  bVE : mg "ValueError" = none
/-- an own error's class: its name; what is raised and caught of it -/
structure Cl (mg : Str → Option Value) (x : Str) (C : Addr) : Prop where
  g : mg x = some (.ref C)
/-- what the errors' own __init__ does: its class's name stands in kind -/
def spWE (K : PySem.W.Frag) : Sp := fun vs H Q _ => ∃ (a C : Addr) (nm : Str) (why : V), vs = [.ref a, why] ∧ OexC K C ∧ NmC K C nm ∧ PySem.W.findIn K (.ref C) "kind" = some none ∧ H a = some (exo a C none) ∧
  ∀ dx, H dx = none → dx ≠ a → Q .non (upd (upd H dx (exd dx [("kind", .str nm)])) a (exo a C (some dx)))
/-- the errors' own __init__ -/
structure InitOk (P : Program) (w : World) (K : PySem.W.Frag) (mg : Str → Option Value) (base : Heap) (fI : Addr) : Prop where
  ty : PySem.W.typeIn K (.ref fI) = some (.type "function")
  ok : ∃ fd, Binds K fd ["self", "why"] [] ∧ FnOk P w K mg base CX0 1 fI fd ["self", "why"] (spWE K)
structure ClR (P : Program) (w : World) (K : PySem.W.Frag) (mg : Str → Option Value) (base : Heap) (C : Addr) : Prop where
  x : OexC K C
  n : ∃ nm, NmC K C nm
  kd : PySem.W.findIn K (.ref C) "kind" = some none
  t : PySem.W.typeIn K (.ref C) = some (.type "type")
  i : ∃ fI, PySem.W.findIn K (.ref C) "__init__" = some (some (.ref fI)) ∧ InitOk P w K mg base fI
theorem ClR.e {P : Program} {w : World} {K : PySem.W.Frag} {mg : Str → Option Value} {base : Heap} {C : Addr} (c : ClR P w K mg base C) : ExcC K C := let ⟨_, n⟩ := c.n; n.e
theorem ClR.r {P : Program} {w : World} {X : Cx} {mg : Str → Option Value} {base : Heap} {C : Addr} (c : ClR P w X.K mg base C) : Raises X (.ref C) := raises_own c.e.hs c.t
/-- a statement of a class's body -/
def clsStmt (s : Stmt) (i : Nat) : Stmt := match s with
  | .ClassDef _ _ _ body _ _ _ _ _ _ _ => body.getD i (.Pass ⟨0, 0, 0, 0⟩)
  | _ => .Pass ⟨0, 0, 0, 0⟩
/-- raise C('..') -/
theorem ps_rz {X : Cx} {C : Addr} {x m : Str} {k j : Nat} {p p2 pos pos' : Pos} {E : XK} (hc : X.calm = true) (tk : Takes X (fun cls d _ H => E cls d H)) (r : ClR X.prog X.w X.K X.mg X.base C) (gC : X.mg x = some (.ref C)) (hr : Room (k + 2) X.A) (hg : Gl X x := by rfl)
    (hdb : (x == ("__debug__" : Str)) = false := by decide) : PS X (.Raise (some (.Call (.Name x p) [.Constant (.str m) j p2] [] pos)) none pos') (tRz E C) := by
  obtain ⟨fI, iC, tI, fd, hb, F⟩ := r.i
  obtain ⟨nm, hn⟩ := r.n
  refine ⟨fun pins s σ H D I h => ?_⟩
  refine (ps_raise hc tk (pmk_oex (dvs := []) r.x iC tI F (hr.mono (by omega)) hb .nil pass0 hg gC (pa_cons pe_str pa_nil) hdb)).run pins s σ H D I ?_
  refine ⟨Nat.le_of_ble_eq_true rfl, fun a na => ⟨a, C, nm, .str m, rfl, r.x, hn, r.kd, upd_same, fun dx nd ne => ⟨rfl, dx, [("kind", .str nm)], upd_same, ?_, ?_, ?_⟩⟩⟩
  · rw [upd_ne ne, upd_same]
  · rw [upd_ne ne] at nd
    exact nd
  · rw [upd_ne ne] at nd
    refine h (some dx) _ (fun b o e => ?_) fun d e => ?_
    · have h1 : b ≠ dx := ne_of_none e nd
      have h2 : b ≠ a := ne_of_none e na
      rw [upd_ne h1, del_ne h2, upd_ne h2, upd_ne h1, upd_ne h2]
      exact e
    · cases e
      exact ⟨_, upd_same⟩
section
variable {X : Cx} {ps : List Str} {k : Nat} {fs : FSpec} {x : Str} {p pos : Pos} {e : Expr} {es : List Expr} {t : TA} {E : XK} {W : WX}
/-- a call of a def that may raise, where it doesn't -/
theorem pe_dfnN (d : Dfn X.prog X.w X.K X.mg X.base (L2.CX X.prog X.w) x ps k fs) (hr : Room k X.A) (ha : PA X (e :: es) t) (hg : Gl X x := by rfl) (hdb : (x == ("__debug__" : Str)) = false := by decide)
    (he : starEach (e :: es) X.env = (false, eval e X.env) :: starEach es X.env := by rfl) (hpl : (backTo pos (starEach es X.env)).any (·.1) = false := by rfl) : PE X (.Call (.Name x p) (e :: es) [] pos) (tCall (spD X.K fs) [] E0 t) :=
  pe_dfnX d hr (fun _ _ _ _ _ _ _ ⟨_, _, _, _, _, _, _, _, _, _, _, _, z⟩ => z.elim) ha hg hdb he hpl
/-- .. in a try's body -/
theorem pe_dfnS (d : Dfn X.prog X.w X.K X.mg X.base (L2.CX X.prog X.w) x ps k fs) (hr : Room k X.A) (tk : Takes X W) (ha : PA X (e :: es) t) (hg : Gl X x := by rfl) (hdb : (x == ("__debug__" : Str)) = false := by decide)
    (he : starEach (e :: es) X.env = (false, eval e X.env) :: starEach es X.env := by rfl) (hpl : (backTo pos (starEach es X.env)).any (·.1) = false := by rfl) : PE X (.Call (.Name x p) (e :: es) [] pos) (tCallS (spD X.K fs) (WE W) t) := by
  obtain ⟨f, fd, gm, kp, b, F⟩ := d.ex
  exact pe_callS F hr hg gm kp b (fun σ => passAt tk σ) ha hdb he hpl
end
end Y
end

section
namespace Y
open PySem PySem.Spec PyProof.Rows L2
def isIntD : D → Bool
  | .int _ => true
  | .bl _ => true
  | _ => false
def isBoolD : D → Bool
  | .bl _ => true
  | _ => false
def isTupD : D → Bool
  | .tup _ => true
  | _ => false
def isStrD : D → Bool
  | .str _ => true
  | _ => false
def isListD : D → Bool
  | .lst _ => true
  | .fz _ => true
  | _ => false
theorem kitInt : ∀ d : D, (tyD d).isSome = true → ∃ n, tyD d = some n ∧ kitB n "int" = some (isIntD d)
  | .non, _ => ⟨"NoneType", rfl, show kitB "NoneType" "int" = some false by decide +kernel⟩
  | .bl _, _ => ⟨"bool", rfl, show kitB "bool" "int" = some true by decide +kernel⟩
  | .int _, _ => ⟨"int", rfl, show kitB "int" "int" = some true by decide +kernel⟩
  | .str _, _ => ⟨"str", rfl, show kitB "str" "int" = some false by decide +kernel⟩
  | .tup _, _ => ⟨"tuple", rfl, show kitB "tuple" "int" = some false by decide +kernel⟩
  | .lst _, _ => ⟨"list", rfl, show kitB "list" "int" = some false by decide +kernel⟩
  | .fz _, _ => ⟨"list", rfl, show kitB "list" "int" = some false by decide +kernel⟩
  | .dk0, _ => ⟨"dict", rfl, show kitB "dict" "int" = some false by decide +kernel⟩
  | .exc _, h => nomatch h
  | .ty _, h => nomatch h
  | .cls _, h => nomatch h
theorem kitBool : ∀ d : D, (tyD d).isSome = true → ∃ n, tyD d = some n ∧ kitB n "bool" = some (isBoolD d)
  | .non, _ => ⟨"NoneType", rfl, show kitB "NoneType" "bool" = some false by decide +kernel⟩
  | .bl _, _ => ⟨"bool", rfl, show kitB "bool" "bool" = some true by decide +kernel⟩
  | .int _, _ => ⟨"int", rfl, show kitB "int" "bool" = some false by decide +kernel⟩
  | .str _, _ => ⟨"str", rfl, show kitB "str" "bool" = some false by decide +kernel⟩
  | .tup _, _ => ⟨"tuple", rfl, show kitB "tuple" "bool" = some false by decide +kernel⟩
  | .lst _, _ => ⟨"list", rfl, show kitB "list" "bool" = some false by decide +kernel⟩
  | .fz _, _ => ⟨"list", rfl, show kitB "list" "bool" = some false by decide +kernel⟩
  | .dk0, _ => ⟨"dict", rfl, show kitB "dict" "bool" = some false by decide +kernel⟩
  | .exc _, h => nomatch h
  | .ty _, h => nomatch h
  | .cls _, h => nomatch h
theorem kitTup : ∀ d : D, (tyD d).isSome = true → ∃ n, tyD d = some n ∧ kitB n "tuple" = some (isTupD d)
  | .non, _ => ⟨"NoneType", rfl, show kitB "NoneType" "tuple" = some false by decide +kernel⟩
  | .bl _, _ => ⟨"bool", rfl, show kitB "bool" "tuple" = some false by decide +kernel⟩
  | .int _, _ => ⟨"int", rfl, show kitB "int" "tuple" = some false by decide +kernel⟩
  | .str _, _ => ⟨"str", rfl, show kitB "str" "tuple" = some false by decide +kernel⟩
  | .tup _, _ => ⟨"tuple", rfl, show kitB "tuple" "tuple" = some true by decide +kernel⟩
  | .lst _, _ => ⟨"list", rfl, show kitB "list" "tuple" = some false by decide +kernel⟩
  | .fz _, _ => ⟨"list", rfl, show kitB "list" "tuple" = some false by decide +kernel⟩
  | .dk0, _ => ⟨"dict", rfl, show kitB "dict" "tuple" = some false by decide +kernel⟩
  | .exc _, h => nomatch h
  | .ty _, h => nomatch h
  | .cls _, h => nomatch h
theorem kitStr : ∀ d : D, (tyD d).isSome = true → ∃ n, tyD d = some n ∧ kitB n "str" = some (isStrD d)
  | .non, _ => ⟨"NoneType", rfl, show kitB "NoneType" "str" = some false by decide +kernel⟩
  | .bl _, _ => ⟨"bool", rfl, show kitB "bool" "str" = some false by decide +kernel⟩
  | .int _, _ => ⟨"int", rfl, show kitB "int" "str" = some false by decide +kernel⟩
  | .str _, _ => ⟨"str", rfl, show kitB "str" "str" = some true by decide +kernel⟩
  | .tup _, _ => ⟨"tuple", rfl, show kitB "tuple" "str" = some false by decide +kernel⟩
  | .lst _, _ => ⟨"list", rfl, show kitB "list" "str" = some false by decide +kernel⟩
  | .fz _, _ => ⟨"list", rfl, show kitB "list" "str" = some false by decide +kernel⟩
  | .dk0, _ => ⟨"dict", rfl, show kitB "dict" "str" = some false by decide +kernel⟩
  | .exc _, h => nomatch h
  | .ty _, h => nomatch h
  | .cls _, h => nomatch h
theorem kitList : ∀ d : D, (tyD d).isSome = true → ∃ n, tyD d = some n ∧ kitB n "list" = some (isListD d)
  | .non, _ => ⟨"NoneType", rfl, show kitB "NoneType" "list" = some false by decide +kernel⟩
  | .bl _, _ => ⟨"bool", rfl, show kitB "bool" "list" = some false by decide +kernel⟩
  | .int _, _ => ⟨"int", rfl, show kitB "int" "list" = some false by decide +kernel⟩
  | .str _, _ => ⟨"str", rfl, show kitB "str" "list" = some false by decide +kernel⟩
  | .tup _, _ => ⟨"tuple", rfl, show kitB "tuple" "list" = some false by decide +kernel⟩
  | .lst _, _ => ⟨"list", rfl, show kitB "list" "list" = some true by decide +kernel⟩
  | .fz _, _ => ⟨"list", rfl, show kitB "list" "list" = some true by decide +kernel⟩
  | .dk0, _ => ⟨"dict", rfl, show kitB "dict" "list" = some false by decide +kernel⟩
  | .exc _, h => nomatch h
  | .ty _, h => nomatch h
  | .cls _, h => nomatch h
section
variable {K : PySem.W.Frag} {Ex : Value → List Slot → Prop} {E : L2.St → XK} {ρ : List Slot} {R : Res → Prop} {ta : TE}
theorem e_isInt (h : tE K Ex E ta ρ fun a => (tyD a.dat).isSome = true ∧ R (.val (.bl (isIntD a.dat)))) : tE K Ex E (tCB (rIsi K) (tCons ta (tCons (tC (.ty "int")) tNil))) ρ R :=
  e_isi (h.imp fun a ⟨h1, h2⟩ => let ⟨n, h3, h4⟩ := kitInt a.dat h1; ⟨n, _, h3, h4, h2⟩)
theorem e_isBool (h : tE K Ex E ta ρ fun a => (tyD a.dat).isSome = true ∧ R (.val (.bl (isBoolD a.dat)))) : tE K Ex E (tCB (rIsi K) (tCons ta (tCons (tC (.ty "bool")) tNil))) ρ R :=
  e_isi (h.imp fun a ⟨h1, h2⟩ => let ⟨n, h3, h4⟩ := kitBool a.dat h1; ⟨n, _, h3, h4, h2⟩)
theorem e_isTup (h : tE K Ex E ta ρ fun a => (tyD a.dat).isSome = true ∧ R (.val (.bl (isTupD a.dat)))) : tE K Ex E (tCB (rIsi K) (tCons ta (tCons (tC (.ty "tuple")) tNil))) ρ R :=
  e_isi (h.imp fun a ⟨h1, h2⟩ => let ⟨n, h3, h4⟩ := kitTup a.dat h1; ⟨n, _, h3, h4, h2⟩)
theorem e_isStr (h : tE K Ex E ta ρ fun a => (tyD a.dat).isSome = true ∧ R (.val (.bl (isStrD a.dat)))) : tE K Ex E (tCB (rIsi K) (tCons ta (tCons (tC (.ty "str")) tNil))) ρ R :=
  e_isi (h.imp fun a ⟨h1, h2⟩ => let ⟨n, h3, h4⟩ := kitStr a.dat h1; ⟨n, _, h3, h4, h2⟩)
theorem e_isList (h : tE K Ex E ta ρ fun a => (tyD a.dat).isSome = true ∧ R (.val (.bl (isListD a.dat)))) : tE K Ex E (tCB (rIsi K) (tCons ta (tCons (tC (.ty "list")) tNil))) ρ R :=
  e_isi (h.imp fun a ⟨h1, h2⟩ => let ⟨n, h3, h4⟩ := kitList a.dat h1; ⟨n, _, h3, h4, h2⟩)
end
theorem vr_val {R : D → Prop} {d : D} (h : R d) : vR R (.val d) := h
theorem vr_own {R : D → Prop} {ds : List D} (h : R (.lst ds)) : vR R (.own ds) := h
theorem as_val {k : Slot → Prop} {d : D} (h : k (.val d)) : asgR k (.val d) := h
theorem as_own {k : Slot → Prop} {ds : List D} (h : k (.own ds)) : asgR k (.own ds) := h
theorem SS.same : ∀ {ρ ρ1 ρ2 : List Slot} {i : Nat} {s : Slot}, SS ρ i s ρ1 → SS ρ i s ρ2 → ρ2 = ρ1
  | _, _, _, _, _, .zero, .zero => rfl
  | _, _, _, _, _, .succ a, .succ b => by rw [SS.same a b]
theorem ss_go {ρ ρ1 : List Slot} {i : Nat} {s : Slot} {P : List Slot → Prop} (h1 : SS ρ i s ρ1) (h2 : P ρ1) : ∀ ρ', SS ρ i s ρ' → P ρ' := fun ρ' h => by
  rw [h1.same h]
  exact h2
/-- a test's two ways -/
theorem br2 {p : Prop} [Decidable p] {A B : Prop} (h1 : p → A) (h2 : ¬ p → B) : (decide p = true → A) ∧ (decide p = false → B) := ⟨fun h => h1 (of_decide_eq_true h), fun h => h2 (of_decide_eq_false h)⟩
theorem br2n {p : Prop} [Decidable p] {A B : Prop} (h1 : ¬ p → A) (h2 : p → B) : ((!decide p) = true → A) ∧ ((!decide p) = false → B) := ⟨fun h => h1 (by simpa using h), fun h => h2 (by simpa using h)⟩
theorem brT {A B : Prop} (h : A) : (true = true → A) ∧ (true = false → B) := ⟨fun _ => h, fun z => Bool.noConfusion z⟩
theorem brF {A B : Prop} (h : B) : (false = true → A) ∧ (false = false → B) := ⟨fun z => Bool.noConfusion z, fun _ => h⟩
theorem brF' {A B : Prop} (h : A) : (false = false → A) ∧ (false = true → B) := ⟨fun _ => h, fun z => Bool.noConfusion z⟩
theorem brT' {A B : Prop} (h : B) : (true = false → A) ∧ (true = true → B) := ⟨fun z => Bool.noConfusion z, fun _ => h⟩
theorem g_nameS {K : PySem.W.Frag} {W : Nat → Prop} {ρ ρ' : List Slot} {i : Nat} {d : D} {k : List Slot → Prop} (hw : W i) (s : SS ρ i (.val d) ρ') (h : k ρ') : tG K W (gName i) d ρ k := g_name hw (s.eq ▸ h)
section
variable {K : PySem.W.Frag} {Ex : Value → List Slot → Prop} {E : L2.St → XK} {ρ ρ' ρ2 : List Slot} {De : DE}
theorem s_seqJ {t u : TS} (J : List Slot → Prop) (h : tS K Ex E t ρ { De with nx := J }) (h2 : ∀ ρ', J ρ' → tS K Ex E u ρ' De) : tS K Ex E (tSeq t u) ρ De := s_seq (h.imp h2 (fun _ q => q) (fun _ q => q) fun _ q => q)
theorem s_parS {i j : Nat} {ta : TA} (h : tVs K Ex E ta ρ fun ds => ∃ d e, ds = [d, e] ∧ ∀ ρ', SS ρ i (.val d) ρ' → ∀ ρ2, SS ρ' j (.val e) ρ2 → De.nx ρ2) (hi : i < ρ.length) (hj : j < ρ.length) : tS K Ex E (tPar i j ta) ρ De := by
  have key : ∀ (l : List Slot) (j : Nat) (s : Slot), j < l.length → SS l j s (l.set j s) := by
    intro l
    induction l with
    | nil => intro j s hj; simp at hj
    | cons x r ih =>
      intro j s hj
      cases j with
      | zero => exact .zero
      | succ j => exact .succ (ih j s (by simpa using hj))
  refine s_par (fun G0 H0 G σ H Q S X k => h G0 H0 G σ H Q S X fun ds ⟨d, e, hd, hq⟩ => k ds ⟨d, e, hd, ?_⟩)
  exact hq _ (key ρ i _ hi) _ (key _ j _ (by rw [List.length_set]; exact hj))
theorem s_appendS {i : Nat} {te : TE} {ds : List D} (hi : ρ[i]? = some (.own ds)) (h : tE K Ex E te ρ (vR fun d => ds.length < sizeLine ∧ ∀ ρ', SS ρ i (.own (ds ++ [d])) ρ' → De.nx ρ')) : tS K Ex E (tDrop (tBM K "list" rAppend (tVar i) (tCons te tNil))) ρ De := by
  have key : ∀ (l : List Slot) (j : Nat) (s : Slot), j < l.length → SS l j s (l.set j s) := by
    intro l
    induction l with
    | nil => intro j s hj; simp at hj
    | cons x r ih =>
      intro j s hj
      cases j with
      | zero => exact .zero
      | succ j => exact .succ (ih j s (by simpa using hj))
  have imp : ∀ r, vR (fun d => ds.length < sizeLine ∧ ∀ ρ', SS ρ i (.own (ds ++ [d])) ρ' → De.nx ρ') r → vR (fun d => ds.length < sizeLine ∧ De.nx (ρ.set i (.own (ds ++ [d])))) r := fun r => by
    cases r with
    | val d => exact fun q => ⟨q.1, q.2 _ (key _ _ _ (List.getElem?_eq_some_iff.mp hi).1)⟩
    | own es => exact fun q => ⟨q.1, q.2 _ (key _ _ _ (List.getElem?_eq_some_iff.mp hi).1)⟩
    | bor es => exact fun q => q
  exact s_append hi (h.imp imp)
theorem s_dropS {t : TS} {i : Nat} (s : SS ρ i .emp ρ') (h : tS K Ex E t ρ' De) : tS K Ex E t ρ De := s_drop i (s.eq ▸ h)
theorem s_freezeS {t : TS} {i : Nat} {ds : List D} (hi : ρ[i]? = some (.own ds)) (s : SS ρ i (.val (.lst ds)) ρ') (h : tS K Ex E t ρ' De) : tS K Ex E t ρ De := s_freeze hi (s.eq ▸ h)
end
theorem add_int {R : Res → Prop} {i j : Int} (h : R (.val (.int (i + j)))) : AddD (.int i) (.int j) R := .inl ⟨i, j, rfl, rfl, h⟩
theorem add_lst {R : Res → Prop} {ds es : List D} (hl : ds.length + es.length ≤ sizeLine) (h : R (.own (ds ++ es))) : AddD (.lst ds) (.lst es) R := .inr (.inr ⟨ds, es, rfl, rfl, hl, h⟩)
theorem add_str {R : Res → Prop} {x y : Str} (hl : x.length + y.length ≤ sizeLine) (h : R (.val (.str (x ++ y)))) : AddD (.str x) (.str y) R := .inr (.inl ⟨x, y, rfl, rfl, hl, h⟩)
theorem mul_int {R : Res → Prop} {i j : Int} (hc : CMulW i j) (h : R (.val (.int (i * j)))) : MulD (.int i) (.int j) R := .inl ⟨i, j, rfl, rfl, hc, h⟩
/-- numbers of a size that products bear -/
def Sm (n : Nat) (i : Int) : Prop := i.natAbs < 2 ^ n
theorem Sm.le {n m : Nat} {i : Int} (h : Sm n i) (k : n ≤ m) : Sm m i := Nat.lt_of_lt_of_le h (Nat.pow_le_pow_right (by decide) k)
theorem Sm.mul {n m : Nat} {i j : Int} (h : Sm n i) (k : Sm m j) : Sm (n + m) (i * j) := wide_lt h k
theorem Sm.add {n : Nat} {i j : Int} (h : Sm n i) (k : Sm n j) : Sm (n + 1) (i + j) := by
  unfold Sm at *
  rw [Nat.pow_succ]
  omega
theorem Sm.sub {n : Nat} {i j : Int} (h : Sm n i) (k : Sm n j) : Sm (n + 1) (i - j) := by
  unfold Sm at *
  rw [Nat.pow_succ]
  omega
theorem Sm.neg {n : Nat} {i : Int} (h : Sm n i) : Sm n (-i) := by
  unfold Sm at *
  omega
theorem Sm.mod {n : Nat} {i j : Int} (h : Sm n j) (k : 0 < j) : Sm n (i % j) := by
  unfold Sm at *
  have h1 := Int.emod_nonneg i (show j ≠ 0 by omega)
  have h2 := Int.emod_lt_of_pos i k
  omega
theorem Sm.nat {n : Nat} {a : Nat} (h : a < 2 ^ n) : Sm n (a : Int) := h
theorem Sm.abs {n : Nat} {i : Int} (h : Sm n i) : Sm n ((i.natAbs : Nat) : Int) := h
theorem mulOk {i j : Int} {n m : Nat} (hi : Sm n i) (hj : Sm m j) (h0 : 0 < n) (h1 : 0 < m) (h : n + m ≤ 1000000) : CMulW i j := wide_mul hi hj h0 h1 h
theorem divOk {i j : Int} {n : Nat} (h : j ≠ 0) (hj : Sm n j) (h0 : 0 < n) (h1 : n ≤ 9000) : CDivX i j := ⟨h, Nat.lt_of_lt_of_le (PySem.Flt.log2_lt_of h0 hj) h1⟩
theorem small_len {ds : List D} (h : ds.length ≤ 100) : ds.length ≤ sizeLine := Nat.le_trans h (by decide)
theorem small_lt {n : Nat} (h : n ≤ 1000) : n < sizeLine := Nat.lt_of_le_of_lt h (by decide)
/-- a def by name, of which some defaults fill up -/
structure DfnD (P : Program) (w : World) (K : PySem.W.Frag) (mg : Str → Option Value) (base : Heap) (CXx : CXT) (x : Str) (ps : List Str) (dvs : List V) (k : Nat) (fs : FSpec) : Prop where
  ex : ∃ (f : Addr) (fd : FuncData) (ds : List Value), mg x = some (.ref f) ∧ PySem.W.keepIn K (.ref f) = true ∧ Vals dvs ds ∧ Binds K fd ps ds ∧ FnOk P w K mg base CXx k f fd ps (spD K fs)
section
variable {X : Cx} {CXx : CXT} {ps : List Str} {dvs : List V} {k : Nat} {fs : FSpec} {x : Str} {p pos : Pos} {e : Expr} {es : List Expr} {t : TA} {E : XK}
theorem pe_dfnXD (d : DfnD X.prog X.w X.K X.mg X.base CXx x ps dvs k fs) (hr : Room k X.A) (hx : Passes CXx X E) (ha : PA X (e :: es) t) (hg : Gl X x := by rfl) (hdb : (x == ("__debug__" : Str)) = false := by decide)
    (he : starEach (e :: es) X.env = (false, eval e X.env) :: starEach es X.env := by rfl) (hpl : (backTo pos (starEach es X.env)).any (·.1) = false := by rfl) : PE X (.Call (.Name x p) (e :: es) [] pos) (tCall (spD X.K fs) dvs E t) := by
  obtain ⟨f, fd, ds, gm, kp, hv, b, F⟩ := d.ex
  exact pe_call F hr hg gm kp b hv hx ha hdb he hpl
theorem pe_dfnND (d : DfnD X.prog X.w X.K X.mg X.base (L2.CX X.prog X.w) x ps dvs k fs) (hr : Room k X.A) (ha : PA X (e :: es) t) (hg : Gl X x := by rfl) (hdb : (x == ("__debug__" : Str)) = false := by decide)
    (he : starEach (e :: es) X.env = (false, eval e X.env) :: starEach es X.env := by rfl) (hpl : (backTo pos (starEach es X.env)).any (·.1) = false := by rfl) : PE X (.Call (.Name x p) (e :: es) [] pos) (tCall (spD X.K fs) dvs E0 t) :=
  pe_dfnXD d hr (fun _ _ _ _ _ _ _ ⟨_, _, _, _, _, _, _, _, _, _, _, _, z⟩ => z.elim) ha hg hdb he hpl
end
theorem brA {c : Bool} {A B : Prop} (e : c = true) (h : A) : (c = true → A) ∧ (c = false → B) := ⟨fun _ => h, fun z => absurd z (by rw [e]; decide)⟩
theorem brB {c : Bool} {A B : Prop} (e : c = false) (h : B) : (c = true → A) ∧ (c = false → B) := ⟨fun z => absurd z (by rw [e]; decide), fun _ => h⟩
theorem brA' {c : Bool} {A B : Prop} (e : c = false) (h : A) : (c = false → A) ∧ (c = true → B) := ⟨fun _ => h, fun z => absurd z (by rw [e]; decide)⟩
theorem brB' {c : Bool} {A B : Prop} (e : c = true) (h : B) : (c = false → A) ∧ (c = true → B) := ⟨fun z => absurd z (by rw [e]; decide), fun _ => h⟩
theorem br2' {p : Prop} [Decidable p] {A B : Prop} (h1 : ¬ p → A) (h2 : p → B) : (decide p = false → A) ∧ (decide p = true → B) := ⟨fun h => h1 (of_decide_eq_false h), fun h => h2 (of_decide_eq_true h)⟩
theorem br2n' {p : Prop} [Decidable p] {A B : Prop} (h1 : p → A) (h2 : ¬ p → B) : ((!decide p) = false → A) ∧ ((!decide p) = true → B) := ⟨fun h => h1 (by simpa using h), fun h => h2 (by simpa using h)⟩
theorem Sm.add2 {n m : Nat} {i j : Int} (h : Sm n i) (k : Sm m j) : Sm (max n m + 1) (i + j) := Sm.add (Sm.le h (Nat.le_max_left _ _)) (Sm.le k (Nat.le_max_right _ _))
theorem Sm.sub2 {n m : Nat} {i j : Int} (h : Sm n i) (k : Sm m j) : Sm (max n m + 1) (i - j) := Sm.sub (Sm.le h (Nat.le_max_left _ _)) (Sm.le k (Nat.le_max_right _ _))
theorem mul_rep {R : Res → Prop} {d : D} {m : Nat} (hm : m ≤ 1000) (h : R (.own (List.replicate m d))) : MulD (.lst [d]) (.int (m : Int)) R := by
  refine .inr ⟨[d], m, rfl, rfl, by omega, by omega, ?_, ?_⟩
  · show 1 * ((m : Nat) : Int).toNat ≤ sizeLine
    exact Nat.le_trans (by omega : 1 * ((m : Nat) : Int).toNat ≤ 1000) (by decide)
  · rw [show ((m : Nat) : Int).toNat = m from rfl]
    have e : (List.replicate m [d]).flatten = List.replicate m d := by
      clear h hm
      induction m with
      | zero => rfl
      | succ n ih => rw [List.replicate_succ, List.flatten_cons, ih]; rfl
    rw [e]
    exact h
theorem ixd_any {ds : List D} {i : Int} (h0 : 0 ≤ i) (h1 : i < ds.length) : ∃ d, d ∈ ds ∧ atI ds i = some d := by
  obtain ⟨n, rfl⟩ := Int.eq_ofNat_of_zero_le h0
  have hn : n < ds.length := by
    have z : ((n : Nat) : Int) < ((ds.length : Nat) : Int) := h1
    omega
  exact ⟨ds[n], List.getElem_mem hn, atI_nat (List.getElem?_eq_getElem hn)⟩
theorem small_len' {n : Nat} (h : n ≤ 1000) : n ≤ sizeLine := Nat.le_trans h (by decide)

end Y
end

section
namespace Y
open PySem PySem.Spec PyProof.Rows L2
section
variable {K : PySem.W.Frag} {Ex : Value → List Slot → Prop} {E : L2.St → XK} {ρ : List Slot} {R : Res → Prop}
theorem t_yes {R : Bool → Prop} (h : R true) : tT K Ex E tYes ρ R := fun G0 H0 G σ H Q S X k => k true h G H (Ev.refl S.ev.sub)
/-- [f(x) for x in xs if p(x)] -/
theorem e_lcF {wi : TI} {g : TG} {tt : TT} {te : TE} {vs : List Nat} (f : D → D) (p : D → Bool) (h : tIc K Ex E wi ρ fun ds => ds.length ≤ sizeLine ∧
      (∀ d ∈ ds, tG K (· ∈ vs) g d (wipeS ρ vs) fun ρ2 => tT K (fun _ _ => False) E tt ρ2 fun b => b = p d ∧ (b = true → tE K (fun _ _ => False) E te ρ2 (vR fun y => y = f d))) ∧
      R (.own ((ds.filter p).map f))) : tE K Ex E (tLc wi g tt te vs) ρ R := by
  refine e_lc fun G0 H0 G σ H Q S X k => h G0 H0 G σ H Q S X fun ds ⟨h1, h2, h3⟩ J G' H' e w => k ds ⟨h1, fun i outs => outs = ((ds.take i).filter p).map f, by simp, fun i d outs hd ho => ?_, fun outs ho _ => ?_⟩ J G' H' e w
  · have step : ds.take (i + 1) = ds.take i ++ [d] := by rw [List.take_add_one, hd]; rfl
    have q := h2 d (List.mem_of_getElem? hd)
    intro G0 H0 G σ H v Q S r kk
    refine q G0 H0 G σ H v Q S r fun ρ' σ' ht S' hj => kk ρ' σ' ?_ S' hj
    intro G0 H0 G σ H Q S X kk2
    refine ht G0 H0 G σ H Q S X fun b ⟨hb, he⟩ G2 H2 e2 => kk2 b ⟨fun hb1 => (he hb1).imp fun r hr => ?_, fun hb0 => ?_⟩ G2 H2 e2
    · have pd : p d = true := by rw [← hb, hb1]
      have fin : ∀ y, y = f d → outs ++ [y] = ((ds.take (i + 1)).filter p).map f := fun y hy => by
        rw [step, List.filter_append, List.map_append, ho, hy]
        simp [pd]
      cases r with
      | val y => exact fin y hr
      | own es => exact fin _ hr
      | bor es => exact hr
    · have pd : p d = false := by rw [← hb, hb0]
      show outs = ((ds.take (i + 1)).filter p).map f
      rw [step, List.filter_append, List.map_append, ho]
      simp [pd]
  · have ho' : outs = ((ds.take ds.length).filter p).map f := ho
    rw [List.take_length] at ho'
    rw [ho']
    exact h3
/-- [f(x) for x in xs] -/
theorem e_lcM {wi : TI} {g : TG} {te : TE} {vs : List Nat} (f : D → D) (h : tIc K Ex E wi ρ fun ds => ds.length ≤ sizeLine ∧
      (∀ d ∈ ds, tG K (· ∈ vs) g d (wipeS ρ vs) fun ρ2 => tE K (fun _ _ => False) E te ρ2 (vR fun y => y = f d)) ∧ R (.own (ds.map f))) : tE K Ex E (tLc wi g tYes te vs) ρ R :=
  e_lcF f (fun _ => true) fun G0 H0 G σ H Q S X k => h G0 H0 G σ H Q S X fun ds ⟨h1, h2, h3⟩ J G' H' e w =>
    k ds ⟨h1, fun d hd G0 H0 G σ H v Q S r kk => h2 d hd G0 H0 G σ H v Q S r fun ρ' σ' ht S' hj => kk ρ' σ' (t_yes ⟨rfl, fun _ => ht⟩) S' hj, by
      rw [List.filter_eq_self.mpr fun _ _ => rfl]
      exact h3⟩ J G' H' e w
end
end Y
namespace Y
open PySem PySem.Spec PyProof.Rows L2
/-- a try whose error is kept -/
def tTryK (K : PySem.W.Frag) (c : Value) (i j : Nat) (tb : WX → TS) : TS := fun D σ H => tb (wKeep K c i j D) D σ H
theorem s_tryKK {K : PySem.W.Frag} {Ex : Value → List Slot → Prop} {E : L2.St → XK} {ρ : List Slot} {De : DE} {tb : WX → TS} {c : Value} {i j : Nat} (h : ∀ W : WX, tS K (fun e ρ' => ∃ C, e = .ref C ∧ PySem.W.exmOne K e c = some true ∧ De.nx ((ρ'.set j (.val (.exc C))).set i .emp)) (WE W) (tb W) ρ De) :
    tS K Ex E (tTryK K c i j tb) ρ De := s_tryK h
/-! the rules with the written part named: within blocks and try's bodies -/
section
variable {X : Cx} {K : PySem.W.Frag} {k : Nat}
theorem op_eqK (hr : Room k X.A) (hK : X.K = K := by rfl) : OpR X (compareOp .Eq) (rEqU K) := by subst hK; exact op_eqU hr
theorem op_neK (hr : Room k X.A) (hK : X.K = K := by rfl) : OpR X (compareOp .NotEq) (rNeU K) := by subst hK; exact op_neU hr
theorem ix_K (hK : X.K = K := by rfl) : IxR X (rIx K) := by subst hK; exact ix_seq
theorem sl_K (hK : X.K = K := by rfl) : SlR X (rSlU K) := by subst hK; exact sl_U
theorem call_lenK (hK : X.K = K := by rfl) : CallR X (.builtin "len") (rLen K) := by subst hK; exact call_len
theorem call_isiK (hK : X.K = K := by rfl) : CallR X (.builtin "isinstance") (rIsi K) := by subst hK; exact call_isi
theorem call_isXK (hK : X.K = K := by rfl) : CallR X (.builtin "isinstance") (rIsX K) := by subst hK; exact call_isX
theorem call_listK (hK : X.K = K := by rfl) : CallR X (.type "list") (rListU K) := by subst hK; exact call_list_of
theorem cr_allK (hc : X.calm = true) (hK : X.K = K := by rfl) : CallR X (.builtin "all") (rAll K) := by subst hK; exact cr_all hc
theorem pi_listK {tg l : Expr} {tl : TE} (hl : PE X l tl) (hK : X.K = K := by rfl) : PI X tg l (iList K tl) := by subst hK; exact pi_list hl
theorem pi_tupK {tg l : Expr} {tl : TE} (hl : PE X l tl) (hK : X.K = K := by rfl) : PI X tg l (iTup K tl) := by subst hK; exact pi_tup hl
theorem pt_truK {a : Expr} {ta : TE} (ha : PE X a ta) (hK : X.K = K := by rfl) (he : ∀ whole, isTrue a X.env whole = (do let v ← whole; standAt a.pos; holding [v] (truthy v)) := by intro _; rfl) : PT X a (tTru K ta) := by subst hK; exact pt_truth ha he
variable {CXx : CXT} {ps : List Str} {fs : FSpec} {x : Str} {p pos : Pos} {e : Expr} {es : List Expr} {t : TA} {E : XK} {W : WX} {P : Program} {w : World} {mg : Str → Option Value} {base : Heap} {dvs : List V}
theorem pe_dK (d : Dfn P w K mg base CX0 x ps k fs) (hr : Room k X.A) (ha : PA X (e :: es) t) (hP : X.prog = P := by rfl) (hw : X.w = w := by rfl) (hK : X.K = K := by rfl) (hmg : X.mg = mg := by rfl) (hb : X.base = base := by rfl) (hg : Gl X x := by rfl) (hdb : (x == ("__debug__" : Str)) = false := by decide)
    (he : starEach (e :: es) X.env = (false, eval e X.env) :: starEach es X.env := by rfl) (hpl : (backTo pos (starEach es X.env)).any (·.1) = false := by rfl) : PE X (.Call (.Name x p) (e :: es) [] pos) (tCall (spD K fs) [] E0 t) := by
  subst hP hw hK hmg hb
  exact pe_dfn d hr ha hg hdb he hpl
theorem pe_dNK (d : Dfn P w K mg base (L2.CX P w) x ps k fs) (hr : Room k X.A) (ha : PA X (e :: es) t) (hP : X.prog = P := by rfl) (hw : X.w = w := by rfl) (hK : X.K = K := by rfl) (hmg : X.mg = mg := by rfl) (hb : X.base = base := by rfl) (hg : Gl X x := by rfl) (hdb : (x == ("__debug__" : Str)) = false := by decide)
    (he : starEach (e :: es) X.env = (false, eval e X.env) :: starEach es X.env := by rfl) (hpl : (backTo pos (starEach es X.env)).any (·.1) = false := by rfl) : PE X (.Call (.Name x p) (e :: es) [] pos) (tCall (spD K fs) [] E0 t) := by
  subst hP hw hK hmg hb
  exact pe_dfnN d hr ha hg hdb he hpl
theorem pe_dNDK (d : DfnD P w K mg base (L2.CX P w) x ps dvs k fs) (hr : Room k X.A) (ha : PA X (e :: es) t) (hP : X.prog = P := by rfl) (hw : X.w = w := by rfl) (hK : X.K = K := by rfl) (hmg : X.mg = mg := by rfl) (hb : X.base = base := by rfl) (hg : Gl X x := by rfl) (hdb : (x == ("__debug__" : Str)) = false := by decide)
    (he : starEach (e :: es) X.env = (false, eval e X.env) :: starEach es X.env := by rfl) (hpl : (backTo pos (starEach es X.env)).any (·.1) = false := by rfl) : PE X (.Call (.Name x p) (e :: es) [] pos) (tCall (spD K fs) dvs E0 t) := by
  subst hP hw hK hmg hb
  exact pe_dfnND d hr ha hg hdb he hpl
theorem pe_dXK (d : Dfn P w K mg base (L2.CX P w) x ps k fs) (hr : Room k X.A) (hx : Passes (L2.CX P w) X E) (ha : PA X (e :: es) t) (hP : X.prog = P := by rfl) (hw : X.w = w := by rfl) (hK : X.K = K := by rfl) (hmg : X.mg = mg := by rfl) (hb : X.base = base := by rfl) (hg : Gl X x := by rfl) (hdb : (x == ("__debug__" : Str)) = false := by decide)
    (he : starEach (e :: es) X.env = (false, eval e X.env) :: starEach es X.env := by rfl) (hpl : (backTo pos (starEach es X.env)).any (·.1) = false := by rfl) : PE X (.Call (.Name x p) (e :: es) [] pos) (tCall (spD K fs) [] E t) := by
  subst hP hw hK hmg hb
  exact pe_dfnX d hr hx ha hg hdb he hpl
theorem pe_dSK (d : Dfn P w K mg base (L2.CX P w) x ps k fs) (hr : Room k X.A) (tk : Takes X W) (ha : PA X (e :: es) t) (hP : X.prog = P := by rfl) (hw : X.w = w := by rfl) (hK : X.K = K := by rfl) (hmg : X.mg = mg := by rfl) (hb : X.base = base := by rfl) (hg : Gl X x := by rfl) (hdb : (x == ("__debug__" : Str)) = false := by decide)
    (he : starEach (e :: es) X.env = (false, eval e X.env) :: starEach es X.env := by rfl) (hpl : (backTo pos (starEach es X.env)).any (·.1) = false := by rfl) : PE X (.Call (.Name x p) (e :: es) [] pos) (tCallS (spD K fs) (WE W) t) := by
  subst hP hw hK hmg hb
  exact pe_dfnS d hr tk ha hg hdb he hpl
theorem ps_tryK {x n y : Str} {c : Value} {i j : Nat} {body : List Stmt} {np p1 p2 p3 pos pos' : Pos} {tb : WX → TS} (st1 : X.stack = X.env :: X.outer) (fr1 : X.env.frame = some X.env.locals) (nd1 : X.N.Nodup) (hi : X.N[i]? = some n) (hj : X.N[j]? = some y) (hij : i ≠ j) (lc1 : X.env.kindOf n = some .local) (ly : X.env.kindOf y = some .local) (nm : Names X x c) (nex : X.ex = [])
    (hn1 : (n == ("__debug__" : Str)) = false) (hn2 : (n == ("__classdict__" : Str)) = false) (hw1 : swapsWith (.Name n p2) (some (.Name y p1)) p3.line X.env = pure false)
    (bd : ∀ (W : WX) (pn : List (Addr × Obj)) (xe : Value → Shared → Prop), Takes (X.tr pn xe) W → PassesOwn (model X.prog X.w) X.A X.env xe → PSs (X.tr pn xe) body (tb W)) (hK : X.K = K := by rfl) :
    PS X (.Try body [.ExceptHandler (some (.Name x np)) (some n) [.Assign [.Name y p1] (.Name n p2) p3] pos'] [] [] pos) (tTryK K c i j tb) := by
  subst hK
  exact ps_try_keep st1 fr1 nd1 hi hj hij lc1 ly nm nex hn1 hn2 hw1 bd
end
end Y
end

section
set_option maxHeartbeats 4000000
namespace Y
open PySem PySem.Spec PyProof.Rows L2
/-! ### the law's own def, as its caller calls it: nothing guards there, so containers may be shown -/
def AtCaller (P : Program) (w : World) (K : PySem.W.Frag) (mg : Str → Option Value) (base : Heap) (fa : Addr) (fd : FuncData) (ps : List Str) (sp : Sp) : Prop :=
  ∀ (s : Shared) (H : Hp) (args : Args) (us : List Value) (vs : List V) (Q : VK) (E : XK), Env0 P w K mg base callerA [] s H → BindsTo s fd args (ps.zip us) → Vals vs us → sp vs H Q E →
    codeAny (model P w) callerA (.call (.ref fa) args) (CR CX0 [] P w H s Q E) s
section
variable {P : Program} {w : World} {K : PySem.W.Frag} {mg : Str → Option Value} {base : Heap}
theorem at_of {k : Nat} {x qual : Str} {st : Stmt} {fa : Addr} {fd : FuncData} {N ps : List Str} {sp : Sp} (F : Fun K x qual st fa fd) (S : FnScope N ps (defScope st)) (hr : Room (k + 1) callerA) (ln : ∀ vs H Q E, sp vs H Q E → vs.length = ps.length)
    (hb : ∀ (cdv : Value) (s : Shared) (H : Hp) (vs : List V) (Q : VK) (E : XK), Room k (callerA.deeper (envOfC qual (defScope st) s.heap.objs.size fa cdv)) → sp vs H Q E →
      ∃ t, PSs (cxOf CX0 P w K mg base N qual (defScope st) fa cdv callerA [] s H E) (defBody st) t ∧ t { nx := fun _ H' => Q .non H', rt := Q } (start N vs) H) :
    AtCaller P w K mg base fa fd ps sp := by
  obtain ⟨oc, od, kV, doc, pm, an, cdv, ct, osl, rfl, lk, hcd⟩ := F.ex
  intro s H args us vs Q E en bnd rel hq
  have same : ∀ b o, base.get? b = some o → s.heap.get? b = some o := fun b o e => (en.bs b o e).1
  have kx := en.mod.kin.keeps same
  have kinds : ∀ y ∈ ps.zip us, (defScope st).names.lookup y.1 = some .local ∨ ((defScope st).names.lookup y.1 = some .cell ∧ ((cellsFrom (s.heap.objs.size + 1) (defScope st).names []).lookup y.1).isSome = true) := by
    rintro ⟨n, v⟩ hy
    cases S.par n (List.of_mem_zip hy).1 with
    | inl z => exact .inl z
    | inr z => exact .inr ⟨z, PySem.W.cellsFrom_some _ _ _ (.inl z)⟩
  apply codeAny_call_function hr.depth (kx _ _ lk) rfl S.co S.gen rfl (PySem.W.codeRec_of kx hcd)
  apply bnd
  apply wpAny_newFunctionEnv_cells S.kind kinds
  intro env henv s1 x
  subst henv
  refine ⟨(en.mod.nolimit.keeps same).keeps x.toInCall.keep, codeAny_func ?_⟩
  obtain ⟨t, pt, ht⟩ := hb cdv s H vs Q E (hr.deeper _) hq
  have I0 := inv_start (CX := CX0) (w := w) (qual := qual) (f := fa) (cd := cdv) (E := E) S hr.hd en (ln _ _ _ _ hq) rel x
  refine wpAny_mono (pt.run [] s1 (start N vs) H _ I0 ht) (fun fl s2 z => ?_) fun _ _ z => z
  cases fl with
  | ret u => exact let ⟨v, _, H2, J, r2, q2⟩ := z; ⟨v, H2, J.os, J.bare, J.base, J.hok, r2, q2⟩
  | next => exact let ⟨_, H2, J, q2⟩ := z; ⟨V.non, H2, J.os, J.bare, J.base, J.hok, (rfl : RelV V.non Value.none), q2⟩
  | brk => exact let ⟨_, _, _, q2⟩ := z; q2.elim
  | cont => exact let ⟨_, _, _, q2⟩ := z; q2.elim
end
section
variable {P : Program} {w : World} {K : PySem.W.Frag} {mg mb : Str → Option Value} {fa a : Addr} {fd : FuncData} {x : Str} {sp : Sp} {s : Shared} {vs : List Value} {ns : List Int}
/-- what the caller wants of the law's answer -/
abbrev Kept (s : Shared) (r : Result) (s' : Shared) : Prop := r = .ok (.ret (.bool true)) ∧ OldK s.heap s'.heap ∧ s'.os = s.os ∧ AllBare s'.gens
/-- over an abstract heap that knows the script at most -/
theorem at_core {H : Hp} (kx : K.In s.heap) (hns : s.heap.Ns mainGlobals mg) (hb : s.heap.Ns builtinsNs mb) (hbb : ∀ y : Str, y ≠ "__name__" → mb y = bootBuiltins y) (lim : s.heap.NoLimit) (hg : s.gens = #[])
    (ha : s.heap.get? a = some { cls := .type "list", data := .seq vs.toArray }) (F : ∀ base : Heap, K.In base → base.Ns mainGlobals mg → AtCaller P w K mg base fa fd [x] sp)
    (bnd : ∀ (t : Shared) (u : Value), BindsTo t fd ⟨[u], []⟩ [(x, u)]) (only : Only H) (hok : HOk P w H s.heap) (mine : ∀ b, H b ≠ none → b = a) (out : H a ≠ none → K.lookup a = none)
    (hs : sp [.ref a] H (fun v _ => v = .bl true) fun _ _ _ => False) : codeAny (model P w) callerA (.call (.ref fa) ⟨[.ref a], []⟩) (Kept s) s := by
  have hid : ∀ {b : Addr} {o : Obj}, s.heap.get? b = some o → H b = none → (hidT s.heap H).get? b = some o := fun e n => hidT_get e n
  have free : ∀ {b : Addr} {o : Obj} {es : Array DictEntry} {ep : Nat}, s.heap.get? b = some o → o.data = .dict es ep → H b = none := by
    intro b o es ep e d
    by_cases q : H b = none
    · exact q
    · obtain rfl := mine b q
      rw [ha] at e
      cases e
      cases (show Data.seq vs.toArray _ = Data.dict es ep from d)
  have nsT : ∀ {b : Addr} {m : Str → Option Value}, s.heap.Ns b m → (hidT s.heap H).Ns b m := by
    rintro b m ⟨o, es, ep, e, d, r⟩
    exact ⟨o, es, ep, hid e (free e d), d, r⟩
  have kT : K.In (hidT s.heap H) := by
    intro b o e
    refine hid (kx b o e) ?_
    by_cases q : H b = none
    · exact q
    · obtain rfl := mine b q
      rw [out q] at e
      cases e
  obtain ⟨mc, l1, l2⟩ := lim
  have md : Mod K mg (hidT s.heap H) := ⟨kT, nsT hns, ⟨mb, nsT hb, hbb⟩, ⟨mc, nsT l1, l2⟩⟩
  have no : ∀ {b : Addr} {C : Prop}, b ∈ ([] : List Addr) → C := fun q => by cases q
  have en : Env0 P w K mg (hidT s.heap H) callerA [] s H := ⟨rfl, md, fun _ _ e => of_hidT e, Nat.le_of_eq (hidT_size _ _), trivial, fun _ q => no q, hok, .of_eq hg⟩
  have run := F _ kT (nsT hns) s H ⟨[.ref a], []⟩ [.ref a] [.ref a] _ _ en (bnd s (.ref a)) (.cons rfl .nil) hs
  refine codeAny_mono run fun r s' z => ?_
  match r, z with
  | .error _, z => exact False.elim z
  | .ok .next, z => exact False.elim z
  | .ok .brk, z => exact False.elim z
  | .ok .cont, z => exact False.elim z
  | .ok (.ret u), ⟨v, H2, os, bare, un, hok2, rel, e1⟩ =>
    obtain rfl : v = .bl true := e1
    obtain rfl : u = Value.bool true := rel
    refine ⟨rfl, OldK.of_keep fun b o e => ?_, os, bare⟩
    rcases only b with q | ⟨ob, xs, q⟩
    · exact un.keep b o e q (fun z => no z) (fun z => no z)
    · obtain ⟨e2, _⟩ := hok b _ q
      obtain ⟨e3, _⟩ := hok2 b _ (un.frzs b ob _ q)
      rw [e] at e2
      cases e2
      exact e3
theorem law_at (kx : K.In s.heap) (hns : s.heap.Ns mainGlobals mg) (hb : s.heap.Ns builtinsNs mb) (hbb : ∀ y : Str, y ≠ "__name__" → mb y = bootBuiltins y) (lim : s.heap.NoLimit) (hg : s.gens = #[])
    (ha : s.heap.get? a = some { cls := .type "list", data := .seq vs.toArray }) (hi : IntsAre vs ns) (hl : ns.length ≤ sizeLine) (F : ∀ base : Heap, K.In base → base.Ns mainGlobals mg → AtCaller P w K mg base fa fd [x] sp)
    (bnd : ∀ (t : Shared) (u : Value), BindsTo t fd ⟨[u], []⟩ [(x, u)]) (hs : ∀ H : Hp, Only H → SqL K H a (ns.map V.int) → sp [.ref a] H (fun v _ => v = .bl true) fun _ _ _ => False) :
    codeAny (model P w) callerA (.call (.ref fa) ⟨[.ref a], []⟩) (Kept s) s := by
  have rv := vals_ints hi
  cases hk : K.lookup a with
  | some o =>
    have e := (kx a o hk).symm.trans ha
    cases e
    have on : Only fun _ => none := fun _ => .inl rfl
    have sq : SqL K (fun _ => none) a (ns.map V.int) := .inr ⟨_, vs.toArray, _, hk, rfl, rfl, rfl, by rw [List.size_toArray, hi.length]; exact hl, by simpa using rv⟩
    exact at_core kx hns hb hbb lim hg ha F bnd on (fun b u z => nomatch z) (fun b z => (z rfl).elim) (fun z => (z rfl).elim) (hs _ on sq)
  | none =>
    let Hs : Hp := fun b => if b = a then some (.frz { cls := .type "list", data := .seq vs.toArray } (.lst (ns.map V.int))) else none
    have at1 : Hs a = some (.frz { cls := .type "list", data := .seq vs.toArray } (.lst (ns.map V.int))) := if_pos rfl
    have at0 : ∀ b, b ≠ a → Hs b = none := fun b n => if_neg n
    have on : Only Hs := fun b => (Decidable.em (b = a)).elim (fun e => .inr ⟨_, _, e ▸ at1⟩) fun n => .inl (at0 b n)
    have ok : HOk P w Hs s.heap := by
      intro b u z
      by_cases n : b = a
      · subst n
        rw [at1] at z
        cases z
        exact ⟨ha, by rw [List.length_map]; exact hl, vs, _, rv, ha⟩
      · rw [at0 b n] at z
        cases z
    exact at_core kx hns hb hbb lim hg ha F bnd on ok (fun b z => Classical.byContradiction fun n => z (at0 b n)) (fun _ => hk) (hs _ on (.inl (.inr ⟨_, at1⟩)))
/-- the end of a head, as walk_of makes it, for a law whose def is known at its caller -/
theorem walk_at_caller {l : PySem.W.OpenLaw} {n : Nat} {q : Program} {loose : List Str} {XP : (Str → Option Value) → Heap → Prop} {YP : World → Heap → Prop} {d : DefRec} {K : Params → PySem.W.Frag} {sp : World → Sp} {x : Str}
    (hn : l.most = some n) (hn2 : n ≤ sizeLine) (hdf : d.params.defaults = []) (hY : ∀ (w : World) (h : Heap), YP w h → (K w.params).In h)
    (F : ∀ (w : World) (mg : Str → Option Value) (fa : Addr) (h : Heap), (K w.params).In h → h.Ns mainGlobals mg → mg d.name = some (.ref fa) →
      ∃ fd : FuncData, (∀ (s : Shared) (u : Value), BindsTo s fd ⟨[u], []⟩ [(x, u)]) ∧ ∀ base : Heap, (K w.params).In base → base.Ns mainGlobals mg → AtCaller l.prog w (K w.params) mg base fa fd [x] (sp w))
    (hs : ∀ (w : World) (H : Hp) (a : Addr) (ns : List Int), ns.length ≤ n → Only H → SqL (K w.params) H a (ns.map V.int) → sp w [.ref a] H (fun v _ => v = .bl true) fun _ _ _ => False) :
    PySem.W.WalkO q loose XP YP l.row.toRowW d [] (fun f vs => PySem.call f vs) := by
  apply Att.attach_call hn hdf
  intro w s₀ s mg mb fa o pm cd doc a vs ns G Y _ _ _ hmg hobj hints hlen hg
  obtain ⟨fd, bnd, f⟩ := F w mg fa _ (hY w _ Y) G.T.g hmg
  exact law_at (hY w _ Y) G.T.g G.T.b G.T.builtins G.T.nolimit hg hobj hints (Nat.le_trans hlen hn2) f bnd fun H h1 h2 => hs w H a ns hlen h1 h2
end
end Y
end

section
set_option maxHeartbeats 4000000
namespace Y
open PySem PySem.Spec PyProof.Rows L2
/-! ### how data is shown -/
mutual
theorem py_noDict : ∀ d : D, d.py.hasDict = false
  | .non => rfl
  | .bl _ => rfl
  | .int _ => rfl
  | .str _ => rfl
  | .tup xs => by rw [D.py, PyData.hasDict]; exact py_noDictAll xs
  | .lst xs => by rw [D.py, PyData.hasDict]; exact py_noDictAll xs
  | .fz xs => by rw [D.py, PyData.hasDict]; exact py_noDictAll xs
  | .exc _ => rfl
  | .dk0 => rfl
  | .ty _ => rfl
  | .cls _ => rfl
  | .pin _ d => by rw [D.py]; exact py_noDict d
theorem py_noDictAll : ∀ xs : List D, PyData.hasDictAll (pyAll xs) = false
  | [] => rfl
  | x :: xs => by rw [pyAll, PyData.hasDictAll, py_noDict x, py_noDictAll xs]; rfl
end
def shD : D → Str
  | .dk0 => "{}"
  | d => d.py.shown
/-- data that may be shown -/
def ShowOk (d : D) : Prop := d = .dk0 ∨ (d.plain = true ∧ d.py.showable = true ∧ d.dep ≤ 64 ∧ d.py.shown.length ≤ sizeLine)
def rRepr (K : PySem.W.Frag) : List V → Hp → VK → Prop := fun xs H Q => ∃ x d, xs = [x] ∧ Rp K H x d ∧ ShowOk d ∧ Q (.str (shD d)) H
theorem call_repr {X : Cx} {K : PySem.W.Frag} {k : Nat} (hr : Room k X.A) (hG : X.A.guards = some [] := by rfl) (hK : X.K = K := by rfl) : CallR X (.builtin "repr") (rRepr K) := by
  subst hK
  intro pins s σ H xs us Q I r ⟨x, d, e, rp, ok, q⟩
  subst e
  obtain ⟨u, rfl, ru⟩ := vals1 r
  have un := hr.un
  rcases ok with rfl | ⟨pl, sh, dp, sz⟩
  · cases rp with
    | dk0 h =>
      have hu : u = .ref _ := ru
      subst hu
      obtain ⟨_, hs, vs, kv, o, es, ep, h1, h2⟩ := I.hok _ _ h
      have e1 : vs = [] := by
        cases kv
        rfl
      subst e1
      have e2 : es.toList = [] := by
        have z := h2.2.2.2.1
        revert z
        generalize es.toList = l
        intro z
        cases z
        rfl
      have rd : Reads s.heap (.ref _) (.dict []) _ := .dict (kvs := []) h1 h2.1.1 h2.2.1 (by rw [e2]; exact .nil) (by rw [e2]; exact .nil)
      refine repr_of_reads' rd rfl (fun _ hm => ?_) hG (by show X.A.units + (_ + 1) < cLine; simp only [PyData.depth, PyData.depthKv]; omega) (fun _ _ e => e) (fun h' u' tk kp => ⟨.str _, H, I.kept kp, ⟨_, rfl⟩, q⟩) (Nat.le_of_ble_eq_true rfl)
      rcases List.mem_cons.mp (show sysModules ∈ _ :: ([] ++ []) from hm) with z | z
      · rw [← z, beq_self_eq_true] at hs
        cases hs
      · cases z
  · have qs : Q (.str d.py.shown) H := by
      cases d <;> first | exact q | (cases pl)
    have pd := py_dep d
    obtain ⟨as, rd⟩ := Dp.reads I d.py x u (rp.dp pl) ru
    have fin : ∀ h' u' tk, (∀ b o, s.heap.get? b = some o → h'.get? b = some o) → EP X pins σ Q (.str d.py.shown u') { s with heap := h', toks := tk } := fun h' u' tk kp => ⟨.str _, H, I.kept kp, ⟨_, rfl⟩, qs⟩
    have nd := py_noDict d
    revert fin nd pd sz sh rd
    generalize d.py = p
    intro sh sz pd rd fin nd
    cases rd with
    | none => exact PySem.P.repr_of_none (fin s.heap _ _ fun _ _ e => e)
    | bool b => exact PySem.P.repr_of_bool (fin s.heap _ _ fun _ _ e => e)
    | int i t => exact PySem.P.repr_of_int (of_decide_eq_true sh) (fin s.heap _ _ fun _ _ e => e)
    | str x t => exact PySem.P.repr_of_str (fin s.heap _ _ fun _ _ e => e) sz
    | list h1 h2 h3 h4 => exact repr_of_reads' (.list h1 h2 h3 h4) sh (PyData.noDict_hsm nd) hG (by omega) (fun _ _ e => e) fin sz
    | tuple h1 h2 h3 h4 => exact repr_of_reads' (.tuple h1 h2 h3 h4) sh (PyData.noDict_hsm nd) hG (by omega) (fun _ _ e => e) fin sz
    | dict h1 h2 h3 h4 h5 => cases nd
section
variable {K : PySem.W.Frag} {Ex : Value → List Slot → Prop} {E : L2.St → XK} {ρ : List Slot} {ta : TE} {R : Res → Prop}
theorem e_repr (h : tE K Ex E ta ρ (vR fun d => ShowOk d ∧ R (.val (.str (shD d))))) : tE K Ex E (tCB (rRepr K) (tCons ta tNil)) ρ R :=
  fun G0 H0 G σ H Q S X k => (v_of h) G0 H0 G σ H _ S X fun d ⟨ok, hr⟩ v G1 H1 e1 r1 => ⟨v, d, rfl, r1.mono e1.sub, ok, k _ hr _ G1 H1 e1 (.str _)⟩
/-- tuple(xs), xs a list -/
def rTupL (K : PySem.W.Frag) : List V → Hp → VK → Prop := fun xs H Q => ∃ p ys, xs = [.ref p] ∧ ((SqL K H p ys ∧ ∀ l, H l = none → Q (.ref l) (upd H l (.tup ys))) ∨ (SqT K H p ys ∧ Q (.ref p) H))
theorem call_tupLK {X : Cx} (hK : X.K = K := by rfl) : CallR X (.type "tuple") (rTupL K) := by subst hK; exact call_tuple_of
theorem e_tupL (h : tE K Ex E ta ρ fun a => ∃ ds, listD a.dat = some ds ∧ R (.val (.tup ds))) : tE K Ex E (tCB (rTupL K) (tCons ta tNil)) ρ R :=
  fun G0 H0 G σ H Q S X k => h G0 H0 G σ H _ S X fun a ⟨ds, hd, hr⟩ v G1 H1 e1 r1 => by
    obtain ⟨l, xs, rfl, s, q1⟩ := r1.listSq e1.sub hd
    exact ⟨l, xs, rfl, .inl ⟨s, fun p np => k _ hr _ (upd G1 p (.tup xs)) _ (e1.trans (Ev.laid e1.sub np)) (.tup (.inl (.inl upd_same)) (q1.mono (Ev.laid (o := .tup xs) e1.sub np).gs))⟩⟩
theorem Rps.rev {G : Hp} : ∀ {vs : List V} {ds : List D}, Rps K G vs ds → Rps K G vs.reverse ds.reverse
  | _, _, .nil => .nil
  | _, _, .cons h r => by
    rw [List.reverse_cons, List.reverse_cons]
    exact (Rps.rev r).append (.cons h .nil)
theorem e_revL (h : tE K Ex E ta ρ fun a => ∃ ds, listD a.dat = some ds ∧ R (.own ds.reverse)) : tE K Ex E (tRevL K ta) ρ R :=
  fun G0 H0 G σ H Q S X k => h G0 H0 G σ H _ S X fun a ⟨ds, hd, hr⟩ v G1 H1 e1 r1 => by
    obtain ⟨l, xs, rfl, s, q1⟩ := r1.listSq e1.sub hd
    exact ⟨l, xs, rfl, s, fun p np => k _ hr _ G1 _ (e1.trans (Ev.own e1.sub np)) ⟨p, _, rfl, e1.hs.free np, e1.sub.free np, upd_same, q1.rev⟩⟩
theorem pe_revLK {X : Cx} {K : PySem.W.Frag} {e : Expr} {te : TE} {k : Nat} {p1 p2 p3 pos : Pos} (he : PE X e te) (hK : X.K = K := by rfl) : PE X (.Subscript e (.Slice none none (some (.UnaryOp .USub (.Constant (.int 1) k p1) p2)) p3) pos) (tRevL K te) := by subst hK; exact pe_revL he
theorem op_catAK {X : Cx} {K : PySem.W.Frag} (hK : X.K = K := by rfl) : OpR X (binaryOp .Add) (rCatA K) := by subst hK; exact op_catA
/-- t + u, tuples -/
theorem e_catA {tb : TE} (h : tE K Ex E ta ρ fun a => tE K Ex E tb ρ fun b => ∃ ds es, a.dat = .tup ds ∧ b.dat = .tup es ∧ ds.length + es.length ≤ sizeLine ∧ R (.val (.tup (ds ++ es)))) : tE K Ex E (tOp (rCatA K) ta tb) ρ R :=
  fun G0 H0 G σ H Q S X k => h G0 H0 G σ H _ S X fun a ha v G1 H1 e1 r1 => ha G0 H0 G1 σ H1 _ (S.step e1) X fun b ⟨ds, es, ea, eb, hl, hr⟩ u G2 H2 e2 r2 => by
    have e := e1.trans e2
    have val : ∀ {r : Res} {x : V} {G : Hp} {xs : List D}, ROk K G G2 H2 x r → r.dat = .tup xs → Rp K G2 x (.tup xs) := fun {r x G xs} q z => by
      cases r with
      | val d =>
        have z' : d = .tup xs := z
        subst z'
        exact q
      | own ds => cases (show D.lst ds = .tup xs from z)
      | bor ds => cases (show D.lst ds = .tup xs from z)
    obtain ⟨l, xs, rfl, s1, p1⟩ := (val (r1.step e2) ea).inv_tup
    obtain ⟨m, ys, rfl, s2, p2⟩ := (val r2 eb).inv_tup
    refine ⟨l, m, xs, ys, rfl, rfl, same_seqT e2.sub s1, same_seqT e2.sub s2, by rw [p1.length, p2.length]; exact hl, fun z => ?_, fun _ z => ?_, fun _ _ p np => ?_⟩
    · subst z
      cases p1
      exact k _ hr _ G2 H2 e (show Rp K G2 _ (.tup _) from .tup s2 p2)
    · subst z
      cases p2
      rw [List.append_nil] at hr
      exact k _ hr _ G2 H2 e (show Rp K G2 _ (.tup _) from .tup s1 p1)
    · exact k _ hr _ (upd G2 p (.tup (xs ++ ys))) _ (e.trans (Ev.laid e2.sub np)) (show Rp K _ _ (.tup _) from .tup (.inl (.inl upd_same)) ((p1.append p2).mono (Ev.laid (o := .tup (xs ++ ys)) e2.sub np).gs))
end
section
variable {P : Program} {w : World} {K : PySem.W.Frag} {mg : Str → Option Value} {base : Heap}
theorem fnAt {k : Nat} {x qual : Str} {st : Stmt} {f : Addr} {fd : FuncData} {N ps : List Str} {fs : FSpec} (F : Fun K x qual st f fd) (S : FnScope N ps (defScope st)) (hr : Room (k + 1) callerA) (len : ∀ ds R Ex, fs ds R Ex → ds.length = ps.length)
    (hb : ∀ (cdv : Value) (s : Shared) (H : Hp) (E : XK), Room k (callerA.deeper (envOfC qual (defScope st) s.heap.objs.size f cdv)) →
      ∃ t, PSs (cxOf CX0 P w K mg base N qual (defScope st) f cdv callerA [] s H E).nox (defBody st) t ∧ ∀ ds R Ex, fs ds R Ex → tS K (fun c _ => Ex c) (fun _ => E) t (slots0 N ds) (endDE R)) : AtCaller P w K mg base f fd ps (spD K fs) :=
  at_of F S hr (fun vs H Q E ⟨G, ds, R, Ex, s, r, h, _⟩ => by rw [r.length]; exact len ds R Ex h) fun cdv s H vs Q E hr ⟨G, ds, R, Ex, sm, r, h, hq, hx⟩ => by
    obtain ⟨t, h1, h2⟩ := hb cdv s H E hr
    exact ⟨t, h1.nox, run_body sm r (h2 ds R Ex h) hq hx⟩
end
end Y
end

section
namespace Wd
open PySem PySem.Spec PyProof.Rows L2 Y
def isWholeD : D → Bool
  | .int _ => true
  | _ => false
abbrev fs_is_whole : FSpec := fun ds R _ => ∃ d, ds = [d] ∧ (tyD d).isSome = true ∧ R (.val (.bl (isWholeD d)))
/-- a part -/
abbrev pt (a b : Int) : D := .tup [.int a, .int b]
def partL : D → D → Bool
  | .int a, .int b => decide (0 < b) && decide (Nat.gcd a.natAbs b.natAbs = 1)
  | _, _ => false
def isPartD : D → Bool
  | .tup [x, y] => partL x y
  | _ => false
/-- things of whose parts the types are known -/
def tyOk : D → Bool
  | .tup [x, y] => (tyD x).isSome && (tyD y).isSome
  | d => (tyD d).isSome
abbrev fs_is_part : FSpec := fun ds R _ => ∃ d, ds = [d] ∧ tyOk d = true ∧ R (.val (.bl (isPartD d)))
abbrev fs_is_more : FSpec := fun ds R _ => ∃ a b c d : Int, ds = [pt a b, pt c d] ∧ (Sm 400 a ∧ Sm 400 b ∧ Sm 400 c ∧ Sm 400 d) ∧ R (.val (.bl (decide (c * b < a * d))))
abbrev fs_law_gcd : FSpec := fun ds R _ => ∃ a b : Nat, ds = [.int a, .int b] ∧ R (.val (.int ((Nat.gcd a b : Nat) : Int)))
/-- a / b in lowest terms, 0 < b -/
def ng (a b : Int) : Int := ((Nat.gcd a.natAbs b.natAbs : Nat) : Int)
def prt (a b : Int) : D := pt (a / ng a b) (b / ng a b)
abbrev fs_law_part : FSpec := fun ds R _ => ∃ a b : Int, ds = [.int a, .int b] ∧ 0 < b ∧ Sm 900 b ∧ R (.val (prt a b))
abbrev fs_law_row : FSpec := fun ds R _ => ∃ (ns : List Int) (m : Nat), ds = [.fz (ns.map D.int), .int m] ∧ ns.length ≤ 63 ∧ m ≤ 100 ∧ ∀ rows : List Int, rows.length = ns.length + m → (∀ x ∈ rows, 0 ≤ x ∧ x < 10 ^ 40) → R (.own (rows.map D.int))
def Cell (x : Int) : Prop := 0 ≤ x ∧ x < 10 ^ 40
theorem whole_of {x : D} (h : (!isWholeD x) = false) : ∃ a, x = .int a := by
  cases x <;> first | exact ⟨_, rfl⟩ | (exfalso; revert h; decide) | (exfalso; exact Bool.noConfusion h)
theorem part_no1 {x y : D} (h : (!isWholeD x) = true) : partL x y = false := by
  cases x <;> first | rfl | (exfalso; exact Bool.noConfusion h)
theorem part_no2 {x y : D} (h : (!isWholeD y) = true) : partL x y = false := by
  cases x <;> first | rfl | (cases y <;> first | rfl | (exfalso; exact Bool.noConfusion h))
theorem tup_of {d : D} (h : (!isTupD d) = false) : ∃ xs, d = .tup xs := by
  cases d <;> first | exact ⟨_, rfl⟩ | (exfalso; exact Bool.noConfusion h)
theorem part_no {d : D} (h : (!isTupD d) = true) : isPartD d = false := by
  cases d <;> first | rfl | (exfalso; exact Bool.noConfusion h)
theorem tk {d : D} (q : tyOk d = true) : (tyD d).isSome = true := by
  unfold tyOk at q
  split at q
  · rfl
  · exact q
theorem prt_eq {a b : Int} (hb : 0 < b) : ng a b ≠ 0 ∧ 0 < ng a b ∧ ng a b ≤ b := by
  unfold ng
  have h1 : 0 < Nat.gcd a.natAbs b.natAbs := Nat.gcd_pos_of_pos_right _ (by omega)
  have h2 : Nat.gcd a.natAbs b.natAbs ≤ b.natAbs := Nat.le_of_dvd (by omega) (Nat.gcd_dvd_right _ _)
  omega
theorem ng_pos {a b : Int} (hb : b ≠ 0) : 0 < ng a b := by
  unfold ng
  have h1 : 0 < Nat.gcd a.natAbs b.natAbs := Nat.gcd_pos_of_pos_right _ (by omega)
  omega
theorem ng_le {a b : Int} (hb : b ≠ 0) : ng a b ≤ (b.natAbs : Int) := by
  unfold ng
  have h2 : Nat.gcd a.natAbs b.natAbs ≤ b.natAbs := Nat.le_of_dvd (by omega) (Nat.gcd_dvd_right _ _)
  omega
/-! sets of widths, over anything -/
def posD : D → Bool
  | .tup [.int a, _] => decide (0 ≤ a)
  | _ => false
def isWidthD (d : D) : Bool := isPartD d && posD d
def isPairD : D → Bool
  | .tup [x, y] => isWidthD x && (isNon y || isPartD y)
  | _ => false
def moreD : D → D → Bool
  | .tup [.int a, .int b], .tup [.int c, .int d] => decide (c * b < a * d)
  | _, _ => false
def aboveD (high width : D) : Bool := isNon high || moreD high width
def reachesD (high low : D) : Bool := isNon high || !moreD low high
def isSpansL : D → List D → Bool
  | _, [] => true
  | e, .tup [low, high] :: r => !(reachesD e low || !aboveD high low) && isSpansL high r
  | _, _ :: _ => false
def isSpansD : D → Bool
  | .lst xs => xs.all isPairD && isSpansL (pt (-1) 1) xs
  | _ => false
/-- things of whose parts the types are known, two and three deep -/
def ok2 : D → Bool
  | .tup [x, y] => tyOk x && tyOk y
  | d => (tyD d).isSome
def ok3 : D → Bool
  | .lst xs => xs.all ok2
  | .fz _ => false
  | d => (tyD d).isSome
def szT : D → Prop
  | .tup [.int a, .int b] => Sm 400 a ∧ Sm 400 b
  | _ => True
def szP : D → Prop
  | .tup [x, y] => szT x ∧ szT y
  | _ => True
def sz3 : D → Prop
  | .lst xs => xs.length ≤ 1000 ∧ ∀ x ∈ xs, szP x
  | _ => True
def prtOrNon (d : D) : Prop := d = .non ∨ ∃ a b, d = pt a b ∧ Sm 400 a ∧ Sm 400 b
abbrev fs_is_width : FSpec := fun ds R _ => ∃ d, ds = [d] ∧ tyOk d = true ∧ R (.val (.bl (isWidthD d)))
abbrev fs_is_above : FSpec := fun ds R _ => ∃ h c d, ds = [h, pt c d] ∧ prtOrNon h ∧ Sm 400 c ∧ Sm 400 d ∧ R (.val (.bl (aboveD h (pt c d))))
abbrev fs_reaches : FSpec := fun ds R _ => ∃ h c d, ds = [h, pt c d] ∧ prtOrNon h ∧ Sm 400 c ∧ Sm 400 d ∧ R (.val (.bl (reachesD h (pt c d))))
abbrev fs_is_pair : FSpec := fun ds R _ => ∃ d, ds = [d] ∧ ok2 d = true ∧ R (.val (.bl (isPairD d)))
def isPairsD : D → Bool
  | .lst xs => xs.all isPairD
  | _ => false
abbrev fs_is_pairs : FSpec := fun ds R _ => ∃ d, ds = [d] ∧ ok3 d = true ∧ sz3 d ∧ R (.val (.bl (isPairsD d)))
abbrev fs_is_spans : FSpec := fun ds R _ => ∃ d, ds = [d] ∧ ok3 d = true ∧ sz3 d ∧ R (.val (.bl (isSpansD d)))
/-- has, of pairs -/
def hasL (w : D) (xs : List D) : Bool := xs.any fun p => match p with
  | .tup [low, high] => !moreD low w && aboveD high w
  | _ => false
abbrev fs_has : FSpec := fun ds R _ => ∃ xs c d, ds = [.lst xs, pt c d] ∧ (∀ x ∈ xs, isPairD x = true ∧ szP x) ∧ Sm 400 c ∧ Sm 400 d ∧ R (.val (.bl (hasL (pt c d) xs)))
/-- what a pair looks like -/
theorem part_is {y : D} (hy : isPartD y = true) : ∃ a b, y = pt a b := by
  unfold isPartD at hy
  split at hy
  · unfold partL at hy
    split at hy
    · exact ⟨_, _, rfl⟩
    · cases hy
  · cases hy
theorem pair_of {x : D} (h : isPairD x = true) (z : szP x) : ∃ a b hi, x = .tup [pt a b, hi] ∧ prtOrNon hi ∧ Sm 400 a ∧ Sm 400 b := by
  unfold isPairD at h
  split at h
  · rename_i x y
    rw [Bool.and_eq_true, Bool.or_eq_true] at h
    obtain ⟨h1, h2⟩ := h
    unfold isWidthD at h1
    rw [Bool.and_eq_true] at h1
    obtain ⟨a, b, rfl⟩ := part_is h1.1
    refine ⟨a, b, y, rfl, ?_, z.1.1, z.1.2⟩
    rcases h2 with h2 | h2
    · left
      cases y <;> first | rfl | cases h2
    · obtain ⟨c, d, rfl⟩ := part_is h2
      exact .inr ⟨c, d, rfl, z.2.1, z.2.2⟩
  · cases h
end Wd
end

section
namespace Wd
open PySem PySem.Spec PyProof.Rows L2 Y
/-! ### the law's own grid and spans -/
abbrev PQ := Int × Int
def toP (p : PQ) : D := pt p.1 p.2
def nxD : Option PQ → D
  | none => .non
  | some p => toP p
abbrev SpT := PQ × Option PQ
def toS (s : SpT) : D := .tup [toP s.1, nxD s.2]
structure POk (p : PQ) : Prop where
  top : 0 ≤ p.1
  bot : 0 < p.2
  low : Nat.gcd p.1.natAbs p.2.natAbs = 1
  s1 : Sm 100 p.1
  s2 : Sm 100 p.2
def ltP (p q : PQ) : Prop := p.1 * q.2 < q.1 * p.2
structure GridOk (g : List PQ) : Prop where
  one : 1 ≤ g.length
  most : g.length ≤ 15
  ok : ∀ p ∈ g, POk p
  inc : g.Pairwise ltP
  hd : g.head? = some (0, 1)
def stepS (acc : List SpT) (p : PQ) (nx : Option PQ) (b : Bool) : List SpT :=
  if b then (match acc.getLast? with
    | some s => if s.2 = some p then acc.dropLast ++ [(s.1, nx)] else acc ++ [(p, nx)]
    | none => acc ++ [(p, nx)]) else acc
def spansF (acc : List SpT) : List PQ → List Bool → List SpT
  | p :: r, b :: bs => spansF (stepS acc p r.head? b) r bs
  | _, _ => acc
abbrev fs_law_marks : FSpec := fun ds R _ => ∃ (g : List PQ) (n : Int), ds = [.lst (g.map toP), .int n] ∧ g.length ≤ 15 ∧ ∀ bs : List Bool, bs.length = g.length → R (.own (bs.map D.bl))
abbrev fs_law_grid : FSpec := fun ds R _ => ∃ rows : List Int, ds = [.lst (rows.map D.int)] ∧ 18 ≤ rows.length ∧ (∀ x ∈ rows, 0 ≤ x ∧ x < 10 ^ 40) ∧ ∀ g, GridOk g → R (.own (g.map toP))
abbrev fs_law_spans : FSpec := fun ds R _ => ∃ (g : List PQ) (bs : List Bool), ds = [.lst (g.map toP), .lst (bs.map D.bl)] ∧ g.length ≤ 15 ∧ bs.length = g.length ∧ R (.own ((spansF [] g bs).map toS))
theorem cmp_nx {o : Option PQ} {p : PQ} : CmpD (nxD o) (toP p) (decide (o = some p)) := by
  cases o with
  | none => exact ⟨⟨rfl, rfl, Nat.zero_le _⟩, rfl⟩
  | some q =>
    refine ⟨⟨rfl, rfl, Nat.le_of_ble_eq_true rfl⟩, ?_⟩
    show (decide (q.1 = p.1) && (decide (q.2 = p.2) && true)) = _
    rw [Bool.and_true, ← Bool.decide_and]
    refine decide_eq_decide.mpr ⟨fun ⟨h1, h2⟩ => by rw [Prod.ext h1 h2], fun h => ?_⟩
    injection h with h
    rw [h]
    exact ⟨rfl, rfl⟩
theorem plain_toP {p : PQ} : (toP p).plain = true := rfl
theorem plain_nx : ∀ {o : Option PQ}, (nxD o).plain = true
  | none => rfl
  | some _ => rfl
theorem plain_toS {s : SpT} : (toS s).plain = true := by
  show ((toP s.1).plain && ((nxD s.2).plain && true)) = true
  rw [plain_toP, plain_nx]
  rfl
theorem plain_spans : ∀ {l : List SpT}, plainAll (l.map toS) = true
  | [] => rfl
  | s :: l => by
    show ((toS s).plain && plainAll (l.map toS)) = true
    rw [plain_toS, plain_spans]
    rfl
theorem cmp_nil {l : List SpT} : CmpD (.lst (l.map toS)) (.lst []) l.isEmpty := by
  refine ⟨⟨plain_spans, rfl, Nat.le_trans (Nat.min_le_right _ _) (by decide)⟩, ?_⟩
  cases l with
  | nil => rfl
  | cons s l => rfl
theorem stepS_len (acc : List SpT) (p : PQ) (nx : Option PQ) (b : Bool) : (stepS acc p nx b).length ≤ acc.length + 1 := by
  unfold stepS
  split
  · split
    · split
      · rw [List.length_append, List.length_dropLast]
        simp only [List.length_cons, List.length_nil]
        omega
      · simp
    · simp
  · omega
theorem prt_low {t u : Int} (hu : 0 < u) : ∃ G a b : Int, 0 < G ∧ t = G * a ∧ u = G * b ∧ 0 < b ∧ t / ng t u = a ∧ u / ng t u = b ∧ Nat.gcd a.natAbs b.natAbs = 1 ∧ a.natAbs ≤ t.natAbs ∧ b.natAbs ≤ u.natAbs := by
  have g0 := ng_pos (a := t) (b := u) (by omega)
  obtain ⟨a, ha⟩ : ng t u ∣ t := by
    unfold ng
    exact Int.ofNat_dvd_left.mpr (Nat.gcd_dvd_left _ _)
  obtain ⟨b, hb⟩ : ng t u ∣ u := by
    unfold ng
    exact Int.ofNat_dvd_left.mpr (Nat.gcd_dvd_right _ _)
  have e1 : t / ng t u = a := by
    conv => lhs; lhs; rw [ha]
    exact Int.mul_ediv_cancel_left _ (by omega)
  have e2 : u / ng t u = b := by
    conv => lhs; lhs; rw [hb]
    exact Int.mul_ediv_cancel_left _ (by omega)
  have b0 : 0 < b := by
    rw [← e2]
    exact Int.ediv_pos_of_pos_of_dvd hu (by omega) ⟨b, hb⟩
  have na : t.natAbs = (ng t u).natAbs * a.natAbs := by rw [← Int.natAbs_mul, ← ha]
  have nb : u.natAbs = (ng t u).natAbs * b.natAbs := by rw [← Int.natAbs_mul, ← hb]
  have ngn : (ng t u).natAbs = Nat.gcd t.natAbs u.natAbs := by
    unfold ng
    omega
  have gp : 0 < (ng t u).natAbs := by omega
  refine ⟨ng t u, a, b, g0, ha, hb, b0, e1, e2, ?_, ?_, ?_⟩
  · have z : Nat.gcd t.natAbs u.natAbs = (ng t u).natAbs * Nat.gcd a.natAbs b.natAbs := by
      rw [← Nat.gcd_mul_left, ← na, ← nb]
    rw [← ngn] at z
    exact Nat.eq_of_mul_eq_mul_left gp (by omega)
  · rw [na]
    exact Nat.le_mul_of_pos_left _ gp
  · rw [nb]
    exact Nat.le_mul_of_pos_left _ gp
theorem grid_step {g : List PQ} {t t' u : Int} (hu : 0 < u) (su : Sm 100 u) (st : Sm 100 t') (h0 : 0 ≤ t) (h1 : t < t') (hg : ∀ p ∈ g, POk p ∧ p.1 * u ≤ t * p.2) (hi : g.Pairwise ltP) :
    (∀ p ∈ g ++ [(t' / ng t' u, u / ng t' u)], POk p ∧ p.1 * u ≤ t' * p.2) ∧ (g ++ [(t' / ng t' u, u / ng t' u)]).Pairwise ltP := by
  obtain ⟨G, a, b, G0, ha, hb, b0, e1, e2, hgcd, na, nb⟩ := prt_low (t := t') hu
  rw [e1, e2]
  have a0 : 0 < a := by
    rcases Int.lt_trichotomy 0 a with h | h | h
    · exact h
    · rw [← h, Int.mul_zero] at ha
      omega
    · have := Int.mul_neg_of_pos_of_neg G0 h
      omega
  refine ⟨fun p hp => ?_, List.pairwise_append.mpr ⟨hi, List.pairwise_singleton _ _, fun p hp q hq => ?_⟩⟩
  · rcases List.mem_append.mp hp with hp | hp
    · refine ⟨(hg p hp).1, Int.le_trans (hg p hp).2 ?_⟩
      exact Int.mul_le_mul_of_nonneg_right (by omega) (Int.le_of_lt (hg p hp).1.bot)
    · rw [List.mem_singleton] at hp
      subst hp
      refine ⟨⟨Int.le_of_lt a0, b0, hgcd, Nat.lt_of_le_of_lt na st, Nat.lt_of_le_of_lt nb su⟩, ?_⟩
      show a * u ≤ t' * b
      rw [ha, hb, ← Int.mul_assoc, Int.mul_comm a G]
      exact Int.le_refl _
  · rw [List.mem_singleton] at hq
    subst hq
    show p.1 * b < a * p.2
    have k1 := (hg p hp).2
    have k2 : t * p.2 < t' * p.2 := Int.mul_lt_mul_of_pos_right h1 (hg p hp).1.bot
    have k3 : G * (p.1 * b) < G * (a * p.2) := by
      have x1 : G * (p.1 * b) = p.1 * u := by rw [hb]; simp only [Int.mul_assoc, Int.mul_left_comm]
      have x2 : G * (a * p.2) = t' * p.2 := by rw [ha, Int.mul_assoc]
      omega
    exact Int.lt_of_mul_lt_mul_left k3 (Int.le_of_lt G0)
theorem cell_at {rows : List Int} (hx : ∀ x ∈ rows, 0 ≤ x ∧ x < 10 ^ 40) {i : Int} (h0 : 0 ≤ i) (h1 : i < rows.length) : ∃ c, Cell c ∧ atI (rows.map D.int) i = some (.int c) := by
  obtain ⟨d, hm, ha⟩ := ixd_any (ds := rows.map D.int) h0 (by rw [List.length_map]; exact h1)
  obtain ⟨c, hc, rfl⟩ := List.mem_map.mp hm
  exact ⟨c, hx c hc, ha⟩
theorem cell_sm {c : Int} (h : Cell c) : Sm 133 c := by
  obtain ⟨h0, h1⟩ := h
  unfold Sm
  omega
theorem ixN_last {n : Nat} : ixN (n + 1) (-1) = some n := by
  unfold ixN
  rw [if_neg (by omega), if_pos (by omega)]
  congr 1
  omega
theorem at_last {xs : List D} {d : D} : atI (xs ++ [d]) (-1) = some d := by
  unfold atI
  rw [List.length_append, show [d].length = 1 from rfl, ixN_last]
  show (xs ++ [d])[xs.length]? = some d
  rw [List.getElem?_append_right (Nat.le_refl _), Nat.sub_self]
  rfl
theorem stepS_nil {p : PQ} {nx : Option PQ} : stepS [] p nx true = [(p, nx)] := rfl
theorem stepS_last {l : List SpT} {s : SpT} {p : PQ} {nx : Option PQ} : stepS (l ++ [s]) p nx true = if s.2 = some p then l ++ [(s.1, nx)] else (l ++ [s]) ++ [(p, nx)] := by
  unfold stepS
  rw [if_pos rfl, List.getLast?_concat, List.dropLast_concat]
theorem set_last {xs : List D} {d e : D} : (xs ++ [d]).set xs.length e = xs ++ [e] := by
  rw [List.set_append_right _ _ (Nat.le_refl _), Nat.sub_self]
  rfl
end Wd
end

section
namespace Wd
open PySem PySem.Spec PyProof.Rows L2 Y
/-! ### what the spans hold -/
instance {p q : PQ} : Decidable (ltP p q) := by unfold ltP; infer_instance
def leP (p q : PQ) : Prop := p.1 * q.2 ≤ q.1 * p.2
theorem le_of_nlt {p q : PQ} (h : ¬ ltP p q) : leP q p := by unfold ltP leP at *; omega
theorem nlt_of_le {p q : PQ} (h : leP q p) : ¬ ltP p q := by unfold ltP leP at *; omega
theorem lt_le {p q : PQ} (h : ltP p q) : leP p q := by unfold ltP leP at *; omega
theorem lt_trans' {p q r : PQ} (hp : 0 < p.2) (hq : 0 < q.2) (hr : 0 < r.2) (h1 : leP p q) (h2 : ltP q r) : ltP p r := by
  unfold leP ltP at *
  have k1 : p.1 * q.2 * r.2 ≤ q.1 * p.2 * r.2 := Int.mul_le_mul_of_nonneg_right h1 (Int.le_of_lt hr)
  have k2 : q.1 * r.2 * p.2 < r.1 * q.2 * p.2 := Int.mul_lt_mul_of_pos_right h2 hp
  have k3 : q.2 * (p.1 * r.2) < q.2 * (r.1 * p.2) := by
    have x1 : q.2 * (p.1 * r.2) = p.1 * q.2 * r.2 := by simp only [Int.mul_assoc, Int.mul_left_comm]
    have x2 : q.2 * (r.1 * p.2) = r.1 * q.2 * p.2 := by simp only [Int.mul_assoc, Int.mul_left_comm]
    have x3 : q.1 * p.2 * r.2 = q.1 * r.2 * p.2 := by rw [Int.mul_assoc, Int.mul_assoc, Int.mul_comm p.2]
    omega
  exact Int.lt_of_mul_lt_mul_left k3 (Int.le_of_lt hq)
theorem le_trans' {p q r : PQ} (hp : 0 < p.2) (hq : 0 < q.2) (hr : 0 < r.2) (h1 : leP p q) (h2 : leP q r) : leP p r := by
  unfold leP at *
  have k1 : p.1 * q.2 * r.2 ≤ q.1 * p.2 * r.2 := Int.mul_le_mul_of_nonneg_right h1 (Int.le_of_lt hr)
  have k2 : q.1 * r.2 * p.2 ≤ r.1 * q.2 * p.2 := Int.mul_le_mul_of_nonneg_right h2 (Int.le_of_lt hp)
  have k3 : q.2 * (p.1 * r.2) ≤ q.2 * (r.1 * p.2) := by
    have x1 : q.2 * (p.1 * r.2) = p.1 * q.2 * r.2 := by simp only [Int.mul_assoc, Int.mul_left_comm]
    have x2 : q.2 * (r.1 * p.2) = r.1 * q.2 * p.2 := by simp only [Int.mul_assoc, Int.mul_left_comm]
    have x3 : q.1 * p.2 * r.2 = q.1 * r.2 * p.2 := by rw [Int.mul_assoc, Int.mul_assoc, Int.mul_comm p.2]
    omega
  exact Int.le_of_mul_le_mul_left k3 hq
theorem lt_lt' {p q r : PQ} (hp : 0 < p.2) (hq : 0 < q.2) (hr : 0 < r.2) (h1 : ltP p q) (h2 : leP q r) : ltP p r := by
  by_cases h : ltP p r
  · exact h
  · exact absurd h1 (nlt_of_le (le_trans' hq hr hp h2 (le_of_nlt h)))
/-- w stands in s -/
def below (w : PQ) : Option PQ → Bool
  | none => true
  | some h => decide (ltP w h)
def inS (w : PQ) (s : SpT) : Bool := !decide (ltP w s.1) && below w s.2
def hasS (w : PQ) (l : List SpT) : Bool := l.any (inS w)
theorem more_toP {p q : PQ} : moreD (toP p) (toP q) = decide (ltP q p) := rfl
theorem above_nx {o : Option PQ} {w : PQ} : aboveD (nxD o) (toP w) = below w o := by
  cases o <;> rfl
theorem has_map {w : PQ} : ∀ {l : List SpT}, hasL (toP w) (l.map toS) = hasS w l
  | [] => rfl
  | s :: l => by
    show ((!moreD (toP s.1) (toP w) && aboveD (nxD s.2) (toP w)) || hasL (toP w) (l.map toS)) = (inS w s || hasS w l)
    rw [has_map, more_toP, above_nx]
    rfl
def cellsHas (w : PQ) : List PQ → List Bool → Bool
  | p :: r, b :: bs => (b && inS w (p, r.head?)) || cellsHas w r bs
  | _, _ => false
/-- what is put together so far -/
structure Acc (acc : List SpT) : Prop where
  pos : ∀ s ∈ acc, 0 < s.1.2 ∧ ∀ h, s.2 = some h → 0 < h.2 ∧ ltP s.1 h
theorem acc_step {acc : List SpT} {p : PQ} {nx : Option PQ} {b : Bool} (A : Acc acc) (hp : 0 < p.2) (hn : ∀ h, nx = some h → 0 < h.2 ∧ ltP p h) : Acc (stepS acc p nx b) := by
  cases b with
  | false => exact A
  | true =>
    rcases List.eq_nil_or_concat acc with rfl | ⟨l, s, rfl⟩
    · refine ⟨fun s hs => ?_⟩
      rw [stepS_nil, List.mem_singleton] at hs
      subst hs
      exact ⟨hp, hn⟩
    · rw [List.concat_eq_append] at A ⊢
      rw [stepS_last]
      have As := A.pos s (by simp)
      split
      · rename_i hh
        have k := As.2 p hh
        refine ⟨fun t ht => ?_⟩
        rcases List.mem_append.mp ht with ht | ht
        · exact A.pos t (List.mem_append_left _ ht)
        · rw [List.mem_singleton] at ht
          subst ht
          refine ⟨As.1, fun h e => ⟨(hn h e).1, ?_⟩⟩
          exact lt_trans' As.1 hp (hn h e).1 (lt_le k.2) (hn h e).2
      · refine ⟨fun t ht => ?_⟩
        rcases List.mem_append.mp ht with ht | ht
        · exact A.pos t ht
        · rw [List.mem_singleton] at ht
          subst ht
          exact ⟨hp, hn⟩
theorem has_step {acc : List SpT} {p w : PQ} {nx : Option PQ} {b : Bool} (A : Acc acc) (hw : 0 < w.2) (hp : 0 < p.2) (hn : ∀ h, nx = some h → 0 < h.2 ∧ ltP p h) : hasS w (stepS acc p nx b) = (hasS w acc || (b && inS w (p, nx))) := by
  cases b with
  | false =>
    rw [Bool.false_and, Bool.or_false]
    rfl
  | true =>
    rw [Bool.true_and]
    rcases List.eq_nil_or_concat acc with rfl | ⟨l, s, rfl⟩
    · rw [stepS_nil]
      show (inS w (p, nx) || false) = (false || inS w (p, nx))
      rw [Bool.or_false, Bool.false_or]
    · rw [List.concat_eq_append] at A ⊢
      rw [stepS_last]
      have As := A.pos s (by simp)
      have app : ∀ (x : List SpT) (t : SpT), hasS w (x ++ [t]) = (hasS w x || inS w t) := fun x t => by
        unfold hasS
        rw [List.any_append]
        show (x.any (inS w) || (inS w t || false)) = _
        rw [Bool.or_false]
      split
      · rename_i hh
        have k := As.2 p hh
        rw [app, app, Bool.or_assoc]
        congr 1
        unfold inS
        rw [hh]
        show (!decide (ltP w s.1) && below w nx) = ((!decide (ltP w s.1) && decide (ltP w p)) || (!decide (ltP w p) && below w nx))
        by_cases h1 : ltP w p
        · have e1 : below w nx = true := by
            cases nx with
            | none => rfl
            | some h => exact decide_eq_true (lt_trans' hw hp (hn h rfl).1 (lt_le h1) (hn h rfl).2)
          rw [decide_eq_true h1, e1]
          simp
        · have e1 : ¬ ltP w s.1 := fun z => h1 (lt_trans' hw As.1 hp (lt_le z) k.2)
          rw [decide_eq_false h1, decide_eq_false e1]
          simp
      · rw [app]
theorem has_spans {w : PQ} (hw : 0 < w.2) : ∀ (g : List PQ) (bs : List Bool) (acc : List SpT), (∀ p ∈ g, 0 < p.2) → g.Pairwise ltP → Acc acc → hasS w (spansF acc g bs) = (hasS w acc || cellsHas w g bs)
  | [], bs, acc, _, _, _ => by
    cases bs <;> exact (Bool.or_false _).symm
  | p :: r, [], acc, _, _, _ => (Bool.or_false _).symm
  | p :: r, b :: bs, acc, hp, hi, A => by
    rw [List.pairwise_cons] at hi
    have hn : ∀ h, r.head? = some h → 0 < h.2 ∧ ltP p h := fun h e => by
      have hm : h ∈ r := List.mem_of_head? e
      exact ⟨hp h (List.mem_cons_of_mem _ hm), hi.1 h hm⟩
    have p0 := hp p (List.mem_cons_self ..)
    show hasS w (spansF (stepS acc p r.head? b) r bs) = (hasS w acc || ((b && inS w (p, r.head?)) || cellsHas w r bs))
    rw [has_spans hw r bs _ (fun q hq => hp q (List.mem_cons_of_mem _ hq)) hi.2 (acc_step A p0 hn), has_step A hw p0 hn, Bool.or_assoc]
theorem acc_nil : Acc [] := ⟨fun s hs => by cases hs⟩
/-- below all of them -/
theorem cells_lt {w : PQ} : ∀ (g : List PQ) (bs : List Bool), (∀ p ∈ g, ltP w p) → cellsHas w g bs = false
  | [], bs, _ => by cases bs <;> rfl
  | p :: r, [], _ => rfl
  | p :: r, b :: bs, h => by
    show ((b && (!decide (ltP w p) && _)) || cellsHas w r bs) = false
    rw [decide_eq_true (h p (List.mem_cons_self ..)), cells_lt r bs fun q hq => h q (List.mem_cons_of_mem _ hq)]
    simp
/-- in the cell behind l -/
theorem cells_in {w p : PQ} {r : List PQ} {b : Bool} {br : List Bool} (hw : 0 < w.2) (h1 : leP p w) (h2 : ∀ q, r.head? = some q → ltP w q) : ∀ (l : List PQ) (bl : List Bool), l.length = bl.length → (∀ q ∈ l ++ p :: r, 0 < q.2) → (l ++ p :: r).Pairwise ltP → cellsHas w (l ++ p :: r) (bl ++ b :: br) = b
  | [], [], _, hp, hi => by
    rw [List.nil_append] at hi hp
    rw [List.pairwise_cons] at hi
    show ((b && (!decide (ltP w p) && below w r.head?)) || cellsHas w r br) = b
    have e1 : below w r.head? = true := by
      cases e : r.head? with
      | none => rfl
      | some q => exact decide_eq_true (h2 q e)
    have e2 : cellsHas w r br = false := by
      refine cells_lt r br fun q hq => ?_
      cases r with
      | nil => cases hq
      | cons q0 r =>
        have k := h2 q0 rfl
        rcases List.mem_cons.mp hq with rfl | hq
        · exact k
        · have hi2 := hi.2
          rw [List.pairwise_cons] at hi2
          exact lt_trans' hw (hp q0 (by simp)) (hp q (by simp [hq])) (lt_le k) (hi2.1 q hq)
    rw [decide_eq_false (nlt_of_le h1), e1, e2]
    simp
  | q :: l, c :: bl, hl, hp, hi => by
    rw [List.cons_append] at hi hp
    rw [List.pairwise_cons] at hi
    have ih := cells_in (b := b) (br := br) hw h1 h2 l bl (by simpa using hl) (fun x hx => hp x (List.mem_cons_of_mem _ hx)) hi.2
    show ((c && (!decide (ltP w q) && below w (l ++ p :: r).head?)) || cellsHas w (l ++ p :: r) (bl ++ b :: br)) = b
    have e1 : below w (l ++ p :: r).head? = false := by
      cases l with
      | nil => exact decide_eq_false (nlt_of_le h1)
      | cons q1 l =>
        have hi2 := hi.2
        rw [List.cons_append, List.pairwise_cons] at hi2
        have k : ltP q1 p := hi2.1 p (by simp)
        exact decide_eq_false (nlt_of_le (le_trans' (hp q1 (by simp)) (hp p (by simp)) hw (lt_le k) h1))
    rw [ih, e1]
    simp
  | [], _ :: _, hl, _, _ => by cases hl
  | _ :: _, [], hl, _, _ => by cases hl
end Wd
end

section
namespace Wd
open PySem PySem.Spec PyProof.Rows L2 Y
/-! ### the spans are a set of widths -/
def wfS : Option PQ → List SpT → Bool
  | _, [] => true
  | none, _ :: _ => false
  | some e, s :: r => decide (ltP e s.1) && below s.1 s.2 && wfS s.2 r
theorem spans_wf : ∀ (l : List SpT) (e : Option PQ), isSpansL (nxD e) (l.map toS) = wfS e l
  | [], e => by cases e <;> rfl
  | s :: r, none => rfl
  | s :: r, some e => by
    show (!((!moreD (toP s.1) (toP e)) || !aboveD (nxD s.2) (toP s.1)) && isSpansL (nxD s.2) (r.map toS)) = _
    rw [spans_wf r s.2, more_toP, above_nx]
    show _ = (decide (ltP e s.1) && below s.1 s.2 && wfS s.2 r)
    cases decide (ltP e s.1) <;> cases below s.1 s.2 <;> rfl
theorem spansF_app (l : List SpT) (s : SpT) : ∀ (g : List PQ) (bs : List Bool) (t : List SpT), spansF (l ++ (t ++ [s])) g bs = l ++ spansF (t ++ [s]) g bs := by
  intro g
  induction g generalizing s with
  | nil => intro bs t; cases bs <;> rfl
  | cons p r ih =>
    intro bs t
    cases bs with
    | nil => rfl
    | cons b bs =>
      show spansF (stepS (l ++ (t ++ [s])) p r.head? b) r bs = l ++ spansF (stepS (t ++ [s]) p r.head? b) r bs
      cases b with
      | false => exact ih s bs t
      | true =>
        rw [← List.append_assoc, stepS_last, stepS_last]
        split
        · rw [List.append_assoc]
          exact ih _ bs t
        · have z := ih (p, r.head?) bs (t ++ [s])
          simp only [List.append_assoc] at z ⊢
          exact z
/-- p is at the end of s, or behind it -/
def Behind (s : SpT) (g : List PQ) : Prop := (s.2 = none → g = []) ∧ ∀ h, s.2 = some h → ∀ p ∈ g, h = p ∨ ltP h p
theorem behind_nx {q p : PQ} {r : List PQ} (hi : r.Pairwise ltP) : Behind (q, r.head?) r := by
  refine ⟨fun z => ?_, fun h e x hx => ?_⟩
  · cases r with
    | nil => rfl
    | cons a r => cases z
  · cases r with
    | nil => cases hx
    | cons a r =>
      have e' : some a = some h := e
      injection e' with e'
      subst e'
      rcases List.mem_cons.mp hx with rfl | hx
      · exact .inl rfl
      · exact .inr ((List.pairwise_cons.mp hi).1 x hx)
theorem wf_spans : ∀ (g : List PQ) (bs : List Bool) (s : SpT) (e : PQ), (∀ p ∈ g, 0 < p.2) → g.Pairwise ltP → 0 < s.1.2 → (∀ h, s.2 = some h → 0 < h.2) → Behind s g → ltP e s.1 → below s.1 s.2 = true → wfS (some e) (spansF [s] g bs) = true
  | [], bs, s, e, _, _, _, _, _, h1, h2 => by
    have z : spansF [s] [] bs = [s] := by cases bs <;> rfl
    rw [z]
    show (decide (ltP e s.1) && below s.1 s.2 && true) = true
    rw [decide_eq_true h1, h2]
    rfl
  | p :: r, [], s, e, _, _, _, _, _, h1, h2 => by
    show (decide (ltP e s.1) && below s.1 s.2 && true) = true
    rw [decide_eq_true h1, h2]
    rfl
  | p :: r, b :: bs, s, e, hp, hi, s0, sh, hb, h1, h2 => by
    have hi' := List.pairwise_cons.mp hi
    have hp' : ∀ q ∈ r, 0 < q.2 := fun q hq => hp q (List.mem_cons_of_mem _ hq)
    have p0 := hp p (List.mem_cons_self ..)
    have nx0 : ∀ h, r.head? = some h → 0 < h.2 := fun h z => hp' h (List.mem_of_head? z)
    show wfS (some e) (spansF (stepS ([] ++ [s]) p r.head? b) r bs) = true
    cases b with
    | false =>
      refine wf_spans r bs s e hp' hi'.2 s0 sh ⟨fun z => ?_, fun h z x hx => hb.2 h z x (List.mem_cons_of_mem _ hx)⟩ h1 h2
      cases hb.1 z
    | true =>
      rw [stepS_last]
      obtain ⟨h, e2⟩ : ∃ h, s.2 = some h := by
        cases e3 : s.2 with
        | none => cases hb.1 e3
        | some h => exact ⟨h, rfl⟩
      have hh0 := sh h e2
      have l1 : ltP s.1 h := by
        rw [e2] at h2
        exact of_decide_eq_true h2
      split
      · rename_i hh
        rw [e2] at hh
        injection hh with hh
        subst hh
        refine wf_spans r bs (s.1, r.head?) e hp' hi'.2 s0 nx0 (behind_nx (p := h) hi'.2) h1 ?_
        cases e4 : r.head? with
        | none => rfl
        | some q => exact decide_eq_true (lt_trans' s0 hh0 (nx0 q e4) (lt_le l1) (hi'.1 q (List.mem_of_head? e4)))
      · rename_i hh
        have l2 : ltP h p := by
          rcases hb.2 h e2 p (List.mem_cons_self ..) with z | z
          · rw [e2, z] at hh
            exact absurd rfl hh
          · exact z
        have z : spansF ([] ++ [s] ++ [(p, r.head?)]) r bs = s :: spansF [(p, r.head?)] r bs := spansF_app [s] (p, r.head?) r bs []
        rw [z]
        show (decide (ltP e s.1) && below s.1 s.2 && wfS s.2 (spansF [(p, r.head?)] r bs)) = true
        rw [decide_eq_true h1, h2, e2, wf_spans r bs (p, r.head?) h hp' hi'.2 p0 nx0 (behind_nx (p := p) hi'.2) l2 ?_]
        · rfl
        · cases e4 : r.head? with
          | none => rfl
          | some q => exact decide_eq_true (hi'.1 q (List.mem_of_head? e4))
theorem wf_all : ∀ (g : List PQ) (bs : List Bool) (e : PQ), (∀ p ∈ g, 0 < p.2) → g.Pairwise ltP → (∀ p ∈ g, ltP e p) → wfS (some e) (spansF [] g bs) = true
  | [], bs, e, _, _, _ => by cases bs <;> rfl
  | p :: r, [], e, _, _, _ => rfl
  | p :: r, b :: bs, e, hp, hi, he => by
    have hi' := List.pairwise_cons.mp hi
    have hp' : ∀ q ∈ r, 0 < q.2 := fun q hq => hp q (List.mem_cons_of_mem _ hq)
    cases b with
    | false => exact wf_all r bs e hp' hi'.2 fun q hq => he q (List.mem_cons_of_mem _ hq)
    | true =>
      refine wf_spans r bs (p, r.head?) e hp' hi'.2 (hp p (List.mem_cons_self ..)) (fun h z => hp' h (List.mem_of_head? z)) (behind_nx (p := p) hi'.2) (he p (List.mem_cons_self ..)) ?_
      cases e4 : r.head? with
      | none => rfl
      | some q => exact decide_eq_true (hi'.1 q (List.mem_of_head? e4))
/-- each end is one of the grid's -/
theorem spans_mem {G : List PQ} : ∀ (g : List PQ) (bs : List Bool) (acc : List SpT), (∀ p ∈ g, p ∈ G) → (∀ s ∈ acc, s.1 ∈ G ∧ ∀ h, s.2 = some h → h ∈ G) → ∀ s ∈ spansF acc g bs, s.1 ∈ G ∧ ∀ h, s.2 = some h → h ∈ G
  | [], bs, acc, _, ha => by cases bs <;> exact ha
  | p :: r, [], acc, _, ha => ha
  | p :: r, b :: bs, acc, hg, ha => by
    refine spans_mem r bs (stepS acc p r.head? b) (fun q hq => hg q (List.mem_cons_of_mem _ hq)) ?_
    have nx0 : ∀ h, r.head? = some h → h ∈ G := fun h z => hg h (List.mem_cons_of_mem _ (List.mem_of_head? z))
    have p0 := hg p (List.mem_cons_self ..)
    cases b with
    | false => exact ha
    | true =>
      rcases List.eq_nil_or_concat acc with rfl | ⟨l, s, rfl⟩
      · intro t ht
        rw [stepS_nil, List.mem_singleton] at ht
        subst ht
        exact ⟨p0, nx0⟩
      · rw [List.concat_eq_append] at ha ⊢
        rw [stepS_last]
        have As := ha s (by simp)
        split
        · intro t ht
          rcases List.mem_append.mp ht with ht | ht
          · exact ha t (List.mem_append_left _ ht)
          · rw [List.mem_singleton] at ht
            subst ht
            exact ⟨As.1, nx0⟩
        · intro t ht
          rcases List.mem_append.mp ht with ht | ht
          · exact ha t ht
          · rw [List.mem_singleton] at ht
            subst ht
            exact ⟨p0, nx0⟩
theorem spans_len : ∀ (g : List PQ) (bs : List Bool) (acc : List SpT), (spansF acc g bs).length ≤ acc.length + g.length
  | [], bs, acc => by cases bs <;> exact Nat.le_refl _
  | p :: r, [], acc => Nat.le_add_right _ _
  | p :: r, b :: bs, acc => by
    have h1 := spans_len r bs (stepS acc p r.head? b)
    have h2 := stepS_len acc p r.head? b
    show (spansF (stepS acc p r.head? b) r bs).length ≤ _
    rw [List.length_cons]
    omega
end Wd
end

section
namespace Wd
open PySem PySem.Spec PyProof.Rows L2 Y
/-- w is in the cell k of the grid g -/
structure InCell (g : List PQ) (k : Nat) (w : PQ) : Prop where
  pos : 0 < w.2
  s1 : Sm 400 w.1
  s2 : Sm 400 w.2
  lo : ∀ p, g[k]? = some p → leP p w
  hi : ∀ q, g[k + 1]? = some q → ltP w q
abbrev fs_law_probes : FSpec := fun ds R _ => ∃ g : List PQ, ds = [.lst (g.map toP)] ∧ GridOk g ∧ ∀ ws : List PQ, ws.length = 2 * g.length → (∀ j w, ws[j]? = some w → InCell g (j / 2) w) → R (.own (ws.map toP))
abbrev fs_law_right : FSpec := fun ds R _ => ∃ (g : List PQ) (bs : List Bool), ds = [.lst (g.map toP), .lst (bs.map D.bl)] ∧ GridOk g ∧ bs.length = g.length ∧ R (.val (.bl true))
/-- has tells just the marks -/
theorem has_cell {g : List PQ} {bs : List Bool} {k : Nat} {w : PQ} {b : Bool} (G : GridOk g) (hl : bs.length = g.length) (c : InCell g k w) (hb : bs[k]? = some b) : hasL (toP w) ((spansF [] g bs).map toS) = b := by
  have hp : ∀ p ∈ g, 0 < p.2 := fun p h => (G.ok p h).bot
  rw [has_map, has_spans c.pos g bs [] hp G.inc acc_nil]
  show (false || cellsHas w g bs) = b
  rw [Bool.false_or]
  obtain ⟨hk, hbk⟩ := List.getElem?_eq_some_iff.mp hb
  have hkg : k < g.length := by omega
  have e1 : g = g.take k ++ g[k] :: g.drop (k + 1) := by
    rw [← List.drop_eq_getElem_cons hkg, List.take_append_drop]
  have e2 : bs = bs.take k ++ b :: bs.drop (k + 1) := by
    rw [← hbk, ← List.drop_eq_getElem_cons hk, List.take_append_drop]
  have z := cells_in (b := b) (br := bs.drop (k + 1)) c.pos (c.lo g[k] (List.getElem?_eq_getElem hkg)) (fun q hq => c.hi q (by rw [List.head?_drop] at hq; exact hq)) (g.take k) (bs.take k) (by rw [List.length_take, List.length_take]; omega) (by rw [← e1]; exact hp) (by rw [← e1]; exact G.inc)
  rw [← e1, ← e2] at z
  exact z
theorem has_none {g : List PQ} {bs : List Bool} {w : PQ} (G : GridOk g) (hw : 0 < w.2) (h : ∀ p ∈ g, ltP w p) : hasL (toP w) ((spansF [] g bs).map toS) = false := by
  rw [has_map, has_spans hw g bs [] (fun p h => (G.ok p h).bot) G.inc acc_nil, cells_lt g bs h]
  rfl
theorem neg_lt {a b : Int} {p : PQ} (h : POk p) (ha : a < 0) (hb : 0 < b) : ltP (a, b) p := by
  show a * p.2 < p.1 * b
  have k1 : a * p.2 < 0 := Int.mul_neg_of_neg_of_pos ha h.bot
  have k2 : 0 ≤ p.1 * b := Int.mul_nonneg h.top (Int.le_of_lt hb)
  omega
theorem widthD {p : PQ} (h : POk p) : isWidthD (toP p) = true := by
  show ((decide (0 < p.2) && decide (Nat.gcd p.1.natAbs p.2.natAbs = 1)) && decide (0 ≤ p.1)) = true
  rw [decide_eq_true h.bot, decide_eq_true h.low, decide_eq_true h.top]
  rfl
theorem partD {p : PQ} (h : POk p) : isPartD (toP p) = true := by
  show (decide (0 < p.2) && decide (Nat.gcd p.1.natAbs p.2.natAbs = 1)) = true
  rw [decide_eq_true h.bot, decide_eq_true h.low]
  rfl
/-- what a span of the grid's is -/
theorem pairD {g : List PQ} (G : GridOk g) {s : SpT} (h1 : s.1 ∈ g) (h2 : ∀ h, s.2 = some h → h ∈ g) : isPairD (toS s) = true ∧ szP (toS s) ∧ ok2 (toS s) = true := by
  have sm : ∀ p ∈ g, Sm 400 p.1 ∧ Sm 400 p.2 := fun p hp => ⟨Sm.le (G.ok p hp).s1 (by decide), Sm.le (G.ok p hp).s2 (by decide)⟩
  refine ⟨?_, ⟨sm _ h1, ?_⟩, ?_⟩
  · show (isWidthD (toP s.1) && (isNon (nxD s.2) || isPartD (nxD s.2))) = true
    rw [widthD (G.ok _ h1)]
    cases e : s.2 with
    | none => rfl
    | some h =>
      show (true && (false || isPartD (toP h))) = true
      rw [partD (G.ok _ (h2 h e))]
      rfl
  · cases e : s.2 with
    | none => trivial
    | some h => exact sm h (h2 h e)
  · cases e : s.2 with
    | none =>
      show (true && tyOk (nxD s.2)) = true
      rw [e]
      rfl
    | some h =>
      show (true && tyOk (nxD s.2)) = true
      rw [e]
      rfl
theorem spans_all {g : List PQ} (G : GridOk g) (bs : List Bool) : ∀ x ∈ (spansF [] g bs).map toS, isPairD x = true ∧ szP x ∧ ok2 x = true := by
  intro x hx
  obtain ⟨s, hs, rfl⟩ := List.mem_map.mp hx
  have m := spans_mem (G := g) g bs [] (fun p h => h) (fun s hs => by cases hs) s hs
  exact pairD G m.1 m.2
theorem spans_is {g : List PQ} (G : GridOk g) (bs : List Bool) : isSpansD (.lst ((spansF [] g bs).map toS)) = true := by
  show (((spansF [] g bs).map toS).all isPairD && isSpansL (nxD (some (-1, 1))) ((spansF [] g bs).map toS)) = true
  rw [List.all_eq_true.mpr fun x hx => (spans_all G bs x hx).1, spans_wf, wf_all g bs (-1, 1) (fun p h => (G.ok p h).bot) G.inc fun p h => neg_lt (G.ok p h) (by decide) (by decide)]
  rfl
theorem spans_ok {g : List PQ} (G : GridOk g) (bs : List Bool) : ok3 (.lst ((spansF [] g bs).map toS)) = true ∧ sz3 (.lst ((spansF [] g bs).map toS)) := by
  refine ⟨List.all_eq_true.mpr fun x hx => (spans_all G bs x hx).2.2, ?_, fun x hx => (spans_all G bs x hx).2.1⟩
  have k := spans_len g bs []
  have k2 := G.most
  rw [List.length_map]
  simp only [List.length_nil] at k
  omega
theorem mid_in {p q : PQ} (p0 : 0 < p.2) (q0 : 0 < q.2) (h : ltP p q) (p1 : Sm 110 p.1) (p2 : Sm 110 p.2) (q1 : Sm 110 q.1) (q2 : Sm 110 q.2) :
    0 < 2 * q.2 * p.2 ∧ Sm 900 (2 * q.2 * p.2) ∧ ∃ w : PQ, prt (q.1 * p.2 + p.1 * q.2) (2 * q.2 * p.2) = toP w ∧ 0 < w.2 ∧ Sm 400 w.1 ∧ Sm 400 w.2 ∧ leP p w ∧ ltP w q := by
  have u0 : 0 < 2 * q.2 * p.2 := Int.mul_pos (by omega) p0
  have s1 : Sm 400 (q.1 * p.2 + p.1 * q.2) := Sm.le (Sm.add (Sm.mul q1 p2) (Sm.mul p1 q2)) (by decide)
  have s2 : Sm 400 (2 * q.2 * p.2) := Sm.le (Sm.mul (Sm.mul (show Sm 10 2 by unfold Sm; decide) q2) p2) (by decide)
  refine ⟨u0, Sm.le s2 (by decide), ?_⟩
  obtain ⟨G, a, b, G0, ha, hb, b0, e1, e2, _, na, nb⟩ := prt_low (t := q.1 * p.2 + p.1 * q.2) u0
  refine ⟨(a, b), ?_, b0, Nat.lt_of_le_of_lt na s1, Nat.lt_of_le_of_lt nb s2, ?_, ?_⟩
  · unfold prt
    rw [e1, e2]
    rfl
  · show p.1 * b ≤ a * p.2
    have k0 : p.1 * q.2 * p.2 ≤ q.1 * p.2 * p.2 := Int.mul_le_mul_of_nonneg_right (Int.le_of_lt h) (Int.le_of_lt p0)
    have k1 : G * (p.1 * b) = 2 * (p.1 * q.2 * p.2) := by
      have : G * (p.1 * b) = p.1 * (G * b) := by simp only [Int.mul_left_comm]
      rw [this, ← hb]
      simp only [Int.mul_assoc, Int.mul_left_comm]
    have k2 : G * (a * p.2) = q.1 * p.2 * p.2 + p.1 * q.2 * p.2 := by rw [← Int.mul_assoc, ← ha, Int.add_mul]
    have k3 : G * (p.1 * b) ≤ G * (a * p.2) := by omega
    exact Int.le_of_mul_le_mul_left k3 G0
  · show a * q.2 < q.1 * b
    have k0 : p.1 * q.2 * q.2 < q.1 * p.2 * q.2 := Int.mul_lt_mul_of_pos_right h q0
    have k1 : G * (q.1 * b) = 2 * (q.1 * p.2 * q.2) := by
      have : G * (q.1 * b) = q.1 * (G * b) := by simp only [Int.mul_left_comm]
      rw [this, ← hb]
      simp only [Int.mul_assoc, Int.mul_left_comm, Int.mul_comm q.2 p.2]
    have k2 : G * (a * q.2) = q.1 * p.2 * q.2 + p.1 * q.2 * q.2 := by rw [← Int.mul_assoc, ← ha, Int.add_mul]
    have k3 : G * (a * q.2) < G * (q.1 * b) := by omega
    exact Int.lt_of_mul_lt_mul_left k3 (Int.le_of_lt G0)
theorem dep_spans : ∀ (l : List SpT), depAll (l.map toS) ≤ 2
  | [] => Nat.zero_le _
  | s :: l => by
    show max (toS s).dep (depAll (l.map toS)) ≤ 2
    have h1 : (toS s).dep ≤ 2 := by
      obtain ⟨a, b⟩ := s
      cases b with
      | none => exact Nat.le_of_ble_eq_true rfl
      | some b => exact Nat.le_of_ble_eq_true rfl
    have h2 := dep_spans l
    omega
theorem cmp_spans (l : List SpT) : CmpD (.lst (l.map toS)) (.lst (l.map toS)) true := by
  refine cmpd_same plain_spans ?_
  show depAll (l.map toS) + 1 ≤ 64
  have := dep_spans l
  omega
theorem fdiv2 {i : Nat} : ((i : Nat) : Int).fdiv 2 = ((i / 2 : Nat) : Int) := by
  rw [Int.fdiv_eq_ediv_of_nonneg _ (by omega)]
  omega
end Wd
end

section
namespace Wd
open PySem PySem.Spec PyProof.Rows L2 Y
/-- a thing that is no set of widths, which may be looked at and shown -/
structure Wrong (d : D) : Prop where
  no : isSpansD d = false
  ok : ok3 d = true
  sz : sz3 d
  sh : ShowOk d
abbrev fs_law_other : FSpec := fun ds R _ => ∃ (g : List PQ) (bs : List Bool) (n : Int), ds = [.lst ((spansF [] g bs).map toS), .int n] ∧ GridOk g ∧ Cell n ∧ ∀ d, Wrong d → R (.val d)
/-- the first span, or all widths -/
theorem first_of {g : List PQ} (G : GridOk g) (bs : List Bool) : ∃ s0 : SpT, atI ((spansF [] g bs).map toS ++ [.tup [.tup [.int 0, .int 1], .non]]) 0 = some (.tup [.tup [.int s0.1.1, .int s0.1.2], nxD s0.2]) ∧ POk s0.1 ∧ (∀ h, s0.2 = some h → POk h) := by
  have m := spans_mem (G := g) g bs [] (fun p h => h) (fun s hs => by cases hs)
  cases e : spansF [] g bs with
  | nil => exact ⟨((0, 1), none), rfl, ⟨by decide, by decide, by decide, by unfold Sm; decide, by unfold Sm; decide⟩, fun h z => by cases z⟩
  | cons s r =>
    rw [e] at m
    have ms := m s (List.mem_cons_self ..)
    exact ⟨s, atI_nat (j := 0) rfl, G.ok _ ms.1, fun h z => G.ok h (ms.2 h z)⟩
/-- things that are no sets of widths -/
def wrongs (lo : PQ) (hi : Option PQ) (sp : List SpT) : List D :=
  let l : D := .tup [.int lo.1, .int lo.2]
  let h := nxD hi
  [.non, .tup (sp.map toS ++ [.tup [l, h]]), .dk0, .str "", .int 7, .lst [.non], .lst [l], .lst [.tup [l]], .lst [.lst [l, h]], .lst [.tup [l, h, .non]]] ++
    [.lst [.tup [l, l]], .lst [.tup [.tup [.int (0 - 1), .int 1], h]], .lst [.tup [.tup [.int 2, .int 2], .non]], .lst [.tup [.non, .non]], .lst [.tup [.tup [.int 0, .bl true], .non]]] ++
    [.lst [.tup [.tup [.int 1, .int 1], .tup [.int 0, .int 1]]], .lst [.tup [.tup [.int 0, .int 1], .tup [.int 1, .int 1]], .tup [.tup [.int 1, .int 1], .tup [.int 2, .int 1]]],
      .lst [.tup [.tup [.int 0, .int 1], .tup [.int 2, .int 1]], .tup [.tup [.int 1, .int 1], .non]]] ++
    [.lst [.tup [.tup [.int 3, .int 1], .non], .tup [.tup [.int 4, .int 1], .non]], .lst [.tup [.tup [.int 2, .int 1], .tup [.int 3, .int 1]], .tup [.tup [.int 0, .int 1], .tup [.int 1, .int 1]]],
      .lst [.tup [.tup [.int 0, .int 1], .tup [.int 2, .int 4]]]]
/-- data that may be shown, so deep, so long -/
structure SB (d : D) (k n : Nat) : Prop where
  pl : d.plain = true
  sh : d.py.showable = true
  dp : d.dep ≤ k
  ln : d.py.shown.length ≤ n
theorem SB.up {d : D} {k n k' n' : Nat} (h : SB d k n) (a : k ≤ k') (b : n ≤ n') : SB d k' n' := ⟨h.pl, h.sh, Nat.le_trans h.dp a, Nat.le_trans h.ln b⟩
theorem sb_all {k n : Nat} : ∀ {xs : List D}, (∀ x ∈ xs, SB x k n) → plainAll xs = true ∧ PyData.showableAll (pyAll xs) = true ∧ depAll xs ≤ k ∧ ((PyData.shownAll (pyAll xs)).map (·.length)).sum ≤ xs.length * n ∧ (PyData.shownAll (pyAll xs)).length = xs.length
  | [], _ => ⟨rfl, rfl, Nat.zero_le _, Nat.zero_le _, rfl⟩
  | x :: xs, h => by
    have hx := h x (List.mem_cons_self ..)
    obtain ⟨a, b, c, d, e⟩ := sb_all fun y hy => h y (List.mem_cons_of_mem _ hy)
    refine ⟨?_, ?_, ?_, ?_, ?_⟩
    · rw [plainAll, hx.pl, a]
      rfl
    · rw [pyAll, PyData.showableAll, hx.sh, b]
      rfl
    · have := hx.dp
      rw [depAll]
      omega
    · have := hx.ln
      rw [pyAll, PyData.shownAll, List.map_cons, List.sum_cons, List.length_cons, Nat.succ_mul]
      omega
    · rw [pyAll, PyData.shownAll, List.length_cons, List.length_cons, e]
theorem sb_lst {k n m : Nat} {xs : List D} (h : ∀ x ∈ xs, SB x k n) (hm : xs.length ≤ m) : SB (.lst xs) (k + 1) (m * n + 2 * m + 3) := by
  obtain ⟨a, b, c, d, e⟩ := sb_all h
  have hmn : xs.length * n ≤ m * n := Nat.mul_le_mul_right _ hm
  refine ⟨by rw [D.plain]; exact a, by rw [D.py, PyData.showable]; exact b, by rw [D.dep]; omega, ?_⟩
  rw [D.py, PyData.shown]
  have := listText_len_le (PyData.shownAll (pyAll xs))
  omega
theorem sb_tup {k n m : Nat} {xs : List D} (h : ∀ x ∈ xs, SB x k n) (hm : xs.length ≤ m) : SB (.tup xs) (k + 1) (m * n + 2 * m + 3) := by
  obtain ⟨a, b, c, d, e⟩ := sb_all h
  have hmn : xs.length * n ≤ m * n := Nat.mul_le_mul_right _ hm
  refine ⟨by rw [D.plain]; exact a, by rw [D.py, PyData.showable]; exact b, by rw [D.dep]; omega, ?_⟩
  rw [D.py, PyData.shown]
  have := tupleText_len_le (PyData.shownAll (pyAll xs))
  omega
theorem sb_int {a : Int} (h : Sm 100 a) : SB (.int a) 0 200 := by
  have l2 : a.natAbs.log2 < 100 := PySem.Flt.log2_lt_of (by decide) h
  refine ⟨rfl, decide_eq_true (by omega), Nat.le_refl _, ?_⟩
  show (Str.ofString (toString a)).length ≤ 200
  rw [PySem.ofString_length]
  have := PySem.int_text_length_le (by decide) l2
  omega
theorem sb_non : SB .non 0 200 := ⟨rfl, rfl, Nat.le_refl _, by decide⟩
theorem sb_bl {b : Bool} : SB (.bl b) 0 200 := ⟨rfl, rfl, Nat.le_refl _, by cases b <;> decide⟩
theorem sb_show {d : D} {k n : Nat} (h : SB d k n) (a : k ≤ 64) (b : n ≤ 16000000) : ShowOk d := .inr ⟨h.pl, h.sh, Nat.le_trans h.dp a, Nat.le_trans h.ln (Nat.le_trans b (by decide))⟩
theorem sb_toP {p : PQ} (h1 : Sm 100 p.1) (h2 : Sm 100 p.2) : SB (toP p) 1 500 := by
  refine (sb_tup (k := 0) (n := 200) (m := 2) (fun x hx => ?_) (Nat.le_refl _)).up (Nat.le_refl _) (by decide)
  rcases List.mem_cons.mp hx with rfl | hx
  · exact sb_int h1
  · rw [List.mem_singleton] at hx
    subst hx
    exact sb_int h2
theorem sb_nx {o : Option PQ} (h : ∀ p, o = some p → POk p) : SB (nxD o) 1 500 := by
  cases o with
  | none => exact sb_non.up (by decide) (by decide)
  | some p => exact sb_toP (h p rfl).s1 (h p rfl).s2
theorem sb_toS {s : SpT} (h1 : POk s.1) (h2 : ∀ p, s.2 = some p → POk p) : SB (toS s) 2 1100 := by
  refine (sb_tup (k := 1) (n := 500) (m := 2) (fun x hx => ?_) (Nat.le_refl _)).up (Nat.le_refl _) (by decide)
  rcases List.mem_cons.mp hx with rfl | hx
  · exact sb_toP h1.s1 h1.s2
  · rw [List.mem_singleton] at hx
    subst hx
    exact sb_nx h2
/-- rising spans -/
theorem wf_lt : ∀ (l : List SpT) (e : PQ), 0 < e.2 → (∀ s ∈ l, 0 < s.1.2 ∧ ∀ h, s.2 = some h → 0 < h.2) → wfS (some e) l = true → (∀ s ∈ l, ltP e s.1) ∧ l.Pairwise fun s t => ltP s.1 t.1
  | [], e, _, _, _ => ⟨fun s hs => by (cases hs), .nil⟩
  | s :: r, e, e0, hp, h => by
    have h' : (decide (ltP e s.1) && below s.1 s.2 && wfS s.2 r) = true := h
    rw [Bool.and_eq_true, Bool.and_eq_true] at h'
    obtain ⟨⟨h1, h2⟩, h3⟩ := h'
    have h1 := of_decide_eq_true h1
    have hs := hp s (List.mem_cons_self ..)
    have hr : ∀ t ∈ r, 0 < t.1.2 ∧ ∀ h, t.2 = some h → 0 < h.2 := fun t ht => hp t (List.mem_cons_of_mem _ ht)
    cases e2 : s.2 with
    | none =>
      rw [e2] at h3
      cases r with
      | nil => exact ⟨fun t ht => by rw [List.mem_singleton] at ht; subst ht; exact h1, List.pairwise_singleton _ _⟩
      | cons a b => cases h3
    | some q =>
      rw [e2] at h2 h3
      have q0 := hs.2 q e2
      obtain ⟨i1, i2⟩ := wf_lt r q q0 hr h3
      have lt : ∀ t ∈ r, ltP s.1 t.1 := fun t ht => lt_trans' hs.1 q0 (hr t ht).1 (lt_le (of_decide_eq_true h2)) (i1 t ht)
      refine ⟨fun t ht => ?_, List.pairwise_cons.mpr ⟨lt, i2⟩⟩
      rcases List.mem_cons.mp ht with rfl | ht
      · exact h1
      · exact lt_trans' e0 hs.1 (hr t ht).1 (lt_le h1) (lt t ht)
/-- lists of spans of the grid's that do not rise -/
theorem wrong_list {g : List PQ} {bs : List Bool} {sp l : List SpT} (G : GridOk g) (hsp : spansF [] g bs = sp) (hs : ∀ s ∈ l, s ∈ sp) (hl : l.length ≤ 40) (no : ¬ l.Pairwise fun s t => ltP s.1 t.1) : Wrong (.lst (l.map toS)) := by
  have m := spans_mem (G := g) g bs [] (fun p h => h) (fun s hs => by cases hs)
  rw [hsp] at m
  have ps : ∀ s ∈ l, POk s.1 ∧ ∀ h, s.2 = some h → POk h := fun s h => ⟨G.ok _ (m s (hs s h)).1, fun q z => G.ok _ ((m s (hs s h)).2 q z)⟩
  have pd : ∀ x ∈ l.map toS, isPairD x = true ∧ szP x ∧ ok2 x = true := fun x hx => by
    obtain ⟨s, h, rfl⟩ := List.mem_map.mp hx
    exact pairD G (m s (hs s h)).1 (m s (hs s h)).2
  refine ⟨?_, List.all_eq_true.mpr fun x hx => (pd x hx).2.2, ⟨by rw [List.length_map]; omega, fun x hx => (pd x hx).2.1⟩, ?_⟩
  · show ((l.map toS).all isPairD && isSpansL (nxD (some (-1, 1))) (l.map toS)) = false
    rw [spans_wf]
    cases e : wfS (some (-1, 1)) l with
    | false => exact Bool.and_false _
    | true => exact absurd (wf_lt l (-1, 1) (by decide) (fun s h => ⟨(ps s h).1.bot, fun q z => ((ps s h).2 q z).bot⟩) e).2 no
  · refine sb_show (sb_lst (k := 2) (n := 1100) (m := 40) (fun x hx => ?_) (by rw [List.length_map]; exact hl)) (by decide) (by decide)
    obtain ⟨s, h, rfl⟩ := List.mem_map.mp hx
    exact sb_toS (ps s h).1 (ps s h).2
section
theorem wrongs_wrong {g : List PQ} {bs : List Bool} {sp : List SpT} {lo : PQ} {hi : Option PQ} (G : GridOk g) (hsp : spansF [] g bs = sp) (P0 : POk lo) (P1 : ∀ h, hi = some h → POk h) : ∀ d ∈ wrongs lo hi sp, Wrong d := by
  have la := P0.s1
  have lb := P0.s2
  have la4 : Sm 400 lo.1 := Sm.le la (by decide)
  have lb4 : Sm 400 lo.2 := Sm.le lb (by decide)
  have m := spans_mem (G := g) g bs [] (fun p h => h) (fun s hs => by cases hs)
  have k := spans_len g bs []
  rw [hsp] at m k
  have k2 := G.most
  have tp : Wrong (.tup (sp.map toS ++ [.tup [.tup [.int lo.1, .int lo.2], nxD hi]])) := by
    refine ⟨rfl, rfl, True.intro, sb_show (sb_tup (k := 2) (n := 1100) (m := 40) (fun x hx => ?_) ?_) (by decide) (by decide)⟩
    · rcases List.mem_append.mp hx with hx | hx
      · obtain ⟨s, h, rfl⟩ := List.mem_map.mp hx
        exact sb_toS (G.ok _ (m s h).1) fun q z => G.ok _ ((m s h).2 q z)
      · rw [List.mem_singleton] at hx
        subst hx
        exact sb_toS (s := (lo, hi)) P0 P1
    · rw [List.length_append, List.length_map]
      simp only [List.length_cons, List.length_nil] at k ⊢
      omega
  have ll : isSpansD (.lst [.tup [.tup [.int lo.1, .int lo.2], .tup [.int lo.1, .int lo.2]]]) = false := by
    show (_ && (!(_ || !(decide (lo.1 * lo.2 < lo.1 * lo.2))) && _)) = false
    rw [decide_eq_false (Int.lt_irrefl _)]
    simp
  cases hi with
  | none =>
    intro d hd
    simp only [wrongs, List.cons_append, List.nil_append, List.mem_cons, List.not_mem_nil, or_false] at hd
    rcases hd with rfl | rfl | rfl | rfl | rfl | rfl | rfl | rfl | rfl | rfl | rfl | rfl | rfl | rfl | rfl | rfl | rfl | rfl | rfl | rfl | rfl
    · exact ⟨rfl, rfl, True.intro, by (refine sb_show (k := 3) (n := 6700) ?_ (by decide) (by decide); first | (first | exact sb_non.up (by decide) (by decide) | exact sb_bl.up (by decide) (by decide) | exact (sb_int (by first | assumption | (unfold Sm; decide))).up (by decide) (by decide)) | (refine (sb_lst (k := 2) (n := 2200) (m := 3) ?_ (Nat.le_of_ble_eq_true rfl)).up (by decide) (by decide); (repeat' first | (refine List.forall_mem_cons.mpr ⟨?_, ?_⟩) | exact (fun x hx => nomatch hx)) <;> (first | (first | exact sb_non.up (by decide) (by decide) | exact sb_bl.up (by decide) (by decide) | exact (sb_int (by first | assumption | (unfold Sm; decide))).up (by decide) (by decide)) | (refine (sb_tup (k := 1) (n := 700) (m := 3) ?_ (Nat.le_of_ble_eq_true rfl)).up (by decide) (by decide); (repeat' first | (refine List.forall_mem_cons.mpr ⟨?_, ?_⟩) | exact (fun x hx => nomatch hx)) <;> (first | (first | exact sb_non.up (by decide) (by decide) | exact sb_bl.up (by decide) (by decide) | exact (sb_int (by first | assumption | (unfold Sm; decide))).up (by decide) (by decide)) | (refine (sb_tup (k := 0) (n := 200) (m := 3) ?_ (Nat.le_of_ble_eq_true rfl)).up (by decide) (by decide); (repeat' first | (refine List.forall_mem_cons.mpr ⟨?_, ?_⟩) | exact (fun x hx => nomatch hx)) <;> (first | exact sb_non.up (by decide) (by decide) | exact sb_bl.up (by decide) (by decide) | exact (sb_int (by first | assumption | (unfold Sm; decide))).up (by decide) (by decide))) | (refine (sb_lst (k := 0) (n := 200) (m := 3) ?_ (Nat.le_of_ble_eq_true rfl)).up (by decide) (by decide); (repeat' first | (refine List.forall_mem_cons.mpr ⟨?_, ?_⟩) | exact (fun x hx => nomatch hx)) <;> (first | exact sb_non.up (by decide) (by decide) | exact sb_bl.up (by decide) (by decide) | exact (sb_int (by first | assumption | (unfold Sm; decide))).up (by decide) (by decide))))) | (refine (sb_lst (k := 1) (n := 700) (m := 3) ?_ (Nat.le_of_ble_eq_true rfl)).up (by decide) (by decide); (repeat' first | (refine List.forall_mem_cons.mpr ⟨?_, ?_⟩) | exact (fun x hx => nomatch hx)) <;> (first | (first | exact sb_non.up (by decide) (by decide) | exact sb_bl.up (by decide) (by decide) | exact (sb_int (by first | assumption | (unfold Sm; decide))).up (by decide) (by decide)) | (refine (sb_tup (k := 0) (n := 200) (m := 3) ?_ (Nat.le_of_ble_eq_true rfl)).up (by decide) (by decide); (repeat' first | (refine List.forall_mem_cons.mpr ⟨?_, ?_⟩) | exact (fun x hx => nomatch hx)) <;> (first | exact sb_non.up (by decide) (by decide) | exact sb_bl.up (by decide) (by decide) | exact (sb_int (by first | assumption | (unfold Sm; decide))).up (by decide) (by decide))) | (refine (sb_lst (k := 0) (n := 200) (m := 3) ?_ (Nat.le_of_ble_eq_true rfl)).up (by decide) (by decide); (repeat' first | (refine List.forall_mem_cons.mpr ⟨?_, ?_⟩) | exact (fun x hx => nomatch hx)) <;> (first | exact sb_non.up (by decide) (by decide) | exact sb_bl.up (by decide) (by decide) | exact (sb_int (by first | assumption | (unfold Sm; decide))).up (by decide) (by decide))))))))⟩
    · exact tp
    · exact ⟨rfl, rfl, True.intro, .inl rfl⟩
    · exact ⟨rfl, rfl, True.intro, sb_show (k := 0) (n := 10) ⟨rfl, rfl, by decide, by decide⟩ (by decide) (by decide)⟩
    · exact ⟨rfl, rfl, True.intro, by (refine sb_show (k := 3) (n := 6700) ?_ (by decide) (by decide); first | (first | exact sb_non.up (by decide) (by decide) | exact sb_bl.up (by decide) (by decide) | exact (sb_int (by first | assumption | (unfold Sm; decide))).up (by decide) (by decide)) | (refine (sb_lst (k := 2) (n := 2200) (m := 3) ?_ (Nat.le_of_ble_eq_true rfl)).up (by decide) (by decide); (repeat' first | (refine List.forall_mem_cons.mpr ⟨?_, ?_⟩) | exact (fun x hx => nomatch hx)) <;> (first | (first | exact sb_non.up (by decide) (by decide) | exact sb_bl.up (by decide) (by decide) | exact (sb_int (by first | assumption | (unfold Sm; decide))).up (by decide) (by decide)) | (refine (sb_tup (k := 1) (n := 700) (m := 3) ?_ (Nat.le_of_ble_eq_true rfl)).up (by decide) (by decide); (repeat' first | (refine List.forall_mem_cons.mpr ⟨?_, ?_⟩) | exact (fun x hx => nomatch hx)) <;> (first | (first | exact sb_non.up (by decide) (by decide) | exact sb_bl.up (by decide) (by decide) | exact (sb_int (by first | assumption | (unfold Sm; decide))).up (by decide) (by decide)) | (refine (sb_tup (k := 0) (n := 200) (m := 3) ?_ (Nat.le_of_ble_eq_true rfl)).up (by decide) (by decide); (repeat' first | (refine List.forall_mem_cons.mpr ⟨?_, ?_⟩) | exact (fun x hx => nomatch hx)) <;> (first | exact sb_non.up (by decide) (by decide) | exact sb_bl.up (by decide) (by decide) | exact (sb_int (by first | assumption | (unfold Sm; decide))).up (by decide) (by decide))) | (refine (sb_lst (k := 0) (n := 200) (m := 3) ?_ (Nat.le_of_ble_eq_true rfl)).up (by decide) (by decide); (repeat' first | (refine List.forall_mem_cons.mpr ⟨?_, ?_⟩) | exact (fun x hx => nomatch hx)) <;> (first | exact sb_non.up (by decide) (by decide) | exact sb_bl.up (by decide) (by decide) | exact (sb_int (by first | assumption | (unfold Sm; decide))).up (by decide) (by decide))))) | (refine (sb_lst (k := 1) (n := 700) (m := 3) ?_ (Nat.le_of_ble_eq_true rfl)).up (by decide) (by decide); (repeat' first | (refine List.forall_mem_cons.mpr ⟨?_, ?_⟩) | exact (fun x hx => nomatch hx)) <;> (first | (first | exact sb_non.up (by decide) (by decide) | exact sb_bl.up (by decide) (by decide) | exact (sb_int (by first | assumption | (unfold Sm; decide))).up (by decide) (by decide)) | (refine (sb_tup (k := 0) (n := 200) (m := 3) ?_ (Nat.le_of_ble_eq_true rfl)).up (by decide) (by decide); (repeat' first | (refine List.forall_mem_cons.mpr ⟨?_, ?_⟩) | exact (fun x hx => nomatch hx)) <;> (first | exact sb_non.up (by decide) (by decide) | exact sb_bl.up (by decide) (by decide) | exact (sb_int (by first | assumption | (unfold Sm; decide))).up (by decide) (by decide))) | (refine (sb_lst (k := 0) (n := 200) (m := 3) ?_ (Nat.le_of_ble_eq_true rfl)).up (by decide) (by decide); (repeat' first | (refine List.forall_mem_cons.mpr ⟨?_, ?_⟩) | exact (fun x hx => nomatch hx)) <;> (first | exact sb_non.up (by decide) (by decide) | exact sb_bl.up (by decide) (by decide) | exact (sb_int (by first | assumption | (unfold Sm; decide))).up (by decide) (by decide))))))))⟩
    · exact ⟨rfl, rfl, by (refine And.intro (Nat.le_of_ble_eq_true rfl) ?_; (repeat' first | (refine List.forall_mem_cons.mpr ⟨?_, ?_⟩) | exact (fun x hx => nomatch hx)) <;> (repeat' first | exact True.intro | assumption | (refine And.intro ?_ ?_) | (unfold Sm; decide))), by (refine sb_show (k := 3) (n := 6700) ?_ (by decide) (by decide); first | (first | exact sb_non.up (by decide) (by decide) | exact sb_bl.up (by decide) (by decide) | exact (sb_int (by first | assumption | (unfold Sm; decide))).up (by decide) (by decide)) | (refine (sb_lst (k := 2) (n := 2200) (m := 3) ?_ (Nat.le_of_ble_eq_true rfl)).up (by decide) (by decide); (repeat' first | (refine List.forall_mem_cons.mpr ⟨?_, ?_⟩) | exact (fun x hx => nomatch hx)) <;> (first | (first | exact sb_non.up (by decide) (by decide) | exact sb_bl.up (by decide) (by decide) | exact (sb_int (by first | assumption | (unfold Sm; decide))).up (by decide) (by decide)) | (refine (sb_tup (k := 1) (n := 700) (m := 3) ?_ (Nat.le_of_ble_eq_true rfl)).up (by decide) (by decide); (repeat' first | (refine List.forall_mem_cons.mpr ⟨?_, ?_⟩) | exact (fun x hx => nomatch hx)) <;> (first | (first | exact sb_non.up (by decide) (by decide) | exact sb_bl.up (by decide) (by decide) | exact (sb_int (by first | assumption | (unfold Sm; decide))).up (by decide) (by decide)) | (refine (sb_tup (k := 0) (n := 200) (m := 3) ?_ (Nat.le_of_ble_eq_true rfl)).up (by decide) (by decide); (repeat' first | (refine List.forall_mem_cons.mpr ⟨?_, ?_⟩) | exact (fun x hx => nomatch hx)) <;> (first | exact sb_non.up (by decide) (by decide) | exact sb_bl.up (by decide) (by decide) | exact (sb_int (by first | assumption | (unfold Sm; decide))).up (by decide) (by decide))) | (refine (sb_lst (k := 0) (n := 200) (m := 3) ?_ (Nat.le_of_ble_eq_true rfl)).up (by decide) (by decide); (repeat' first | (refine List.forall_mem_cons.mpr ⟨?_, ?_⟩) | exact (fun x hx => nomatch hx)) <;> (first | exact sb_non.up (by decide) (by decide) | exact sb_bl.up (by decide) (by decide) | exact (sb_int (by first | assumption | (unfold Sm; decide))).up (by decide) (by decide))))) | (refine (sb_lst (k := 1) (n := 700) (m := 3) ?_ (Nat.le_of_ble_eq_true rfl)).up (by decide) (by decide); (repeat' first | (refine List.forall_mem_cons.mpr ⟨?_, ?_⟩) | exact (fun x hx => nomatch hx)) <;> (first | (first | exact sb_non.up (by decide) (by decide) | exact sb_bl.up (by decide) (by decide) | exact (sb_int (by first | assumption | (unfold Sm; decide))).up (by decide) (by decide)) | (refine (sb_tup (k := 0) (n := 200) (m := 3) ?_ (Nat.le_of_ble_eq_true rfl)).up (by decide) (by decide); (repeat' first | (refine List.forall_mem_cons.mpr ⟨?_, ?_⟩) | exact (fun x hx => nomatch hx)) <;> (first | exact sb_non.up (by decide) (by decide) | exact sb_bl.up (by decide) (by decide) | exact (sb_int (by first | assumption | (unfold Sm; decide))).up (by decide) (by decide))) | (refine (sb_lst (k := 0) (n := 200) (m := 3) ?_ (Nat.le_of_ble_eq_true rfl)).up (by decide) (by decide); (repeat' first | (refine List.forall_mem_cons.mpr ⟨?_, ?_⟩) | exact (fun x hx => nomatch hx)) <;> (first | exact sb_non.up (by decide) (by decide) | exact sb_bl.up (by decide) (by decide) | exact (sb_int (by first | assumption | (unfold Sm; decide))).up (by decide) (by decide))))))))⟩
    · exact ⟨rfl, rfl, by (refine And.intro (Nat.le_of_ble_eq_true rfl) ?_; (repeat' first | (refine List.forall_mem_cons.mpr ⟨?_, ?_⟩) | exact (fun x hx => nomatch hx)) <;> (repeat' first | exact True.intro | assumption | (refine And.intro ?_ ?_) | (unfold Sm; decide))), by (refine sb_show (k := 3) (n := 6700) ?_ (by decide) (by decide); first | (first | exact sb_non.up (by decide) (by decide) | exact sb_bl.up (by decide) (by decide) | exact (sb_int (by first | assumption | (unfold Sm; decide))).up (by decide) (by decide)) | (refine (sb_lst (k := 2) (n := 2200) (m := 3) ?_ (Nat.le_of_ble_eq_true rfl)).up (by decide) (by decide); (repeat' first | (refine List.forall_mem_cons.mpr ⟨?_, ?_⟩) | exact (fun x hx => nomatch hx)) <;> (first | (first | exact sb_non.up (by decide) (by decide) | exact sb_bl.up (by decide) (by decide) | exact (sb_int (by first | assumption | (unfold Sm; decide))).up (by decide) (by decide)) | (refine (sb_tup (k := 1) (n := 700) (m := 3) ?_ (Nat.le_of_ble_eq_true rfl)).up (by decide) (by decide); (repeat' first | (refine List.forall_mem_cons.mpr ⟨?_, ?_⟩) | exact (fun x hx => nomatch hx)) <;> (first | (first | exact sb_non.up (by decide) (by decide) | exact sb_bl.up (by decide) (by decide) | exact (sb_int (by first | assumption | (unfold Sm; decide))).up (by decide) (by decide)) | (refine (sb_tup (k := 0) (n := 200) (m := 3) ?_ (Nat.le_of_ble_eq_true rfl)).up (by decide) (by decide); (repeat' first | (refine List.forall_mem_cons.mpr ⟨?_, ?_⟩) | exact (fun x hx => nomatch hx)) <;> (first | exact sb_non.up (by decide) (by decide) | exact sb_bl.up (by decide) (by decide) | exact (sb_int (by first | assumption | (unfold Sm; decide))).up (by decide) (by decide))) | (refine (sb_lst (k := 0) (n := 200) (m := 3) ?_ (Nat.le_of_ble_eq_true rfl)).up (by decide) (by decide); (repeat' first | (refine List.forall_mem_cons.mpr ⟨?_, ?_⟩) | exact (fun x hx => nomatch hx)) <;> (first | exact sb_non.up (by decide) (by decide) | exact sb_bl.up (by decide) (by decide) | exact (sb_int (by first | assumption | (unfold Sm; decide))).up (by decide) (by decide))))) | (refine (sb_lst (k := 1) (n := 700) (m := 3) ?_ (Nat.le_of_ble_eq_true rfl)).up (by decide) (by decide); (repeat' first | (refine List.forall_mem_cons.mpr ⟨?_, ?_⟩) | exact (fun x hx => nomatch hx)) <;> (first | (first | exact sb_non.up (by decide) (by decide) | exact sb_bl.up (by decide) (by decide) | exact (sb_int (by first | assumption | (unfold Sm; decide))).up (by decide) (by decide)) | (refine (sb_tup (k := 0) (n := 200) (m := 3) ?_ (Nat.le_of_ble_eq_true rfl)).up (by decide) (by decide); (repeat' first | (refine List.forall_mem_cons.mpr ⟨?_, ?_⟩) | exact (fun x hx => nomatch hx)) <;> (first | exact sb_non.up (by decide) (by decide) | exact sb_bl.up (by decide) (by decide) | exact (sb_int (by first | assumption | (unfold Sm; decide))).up (by decide) (by decide))) | (refine (sb_lst (k := 0) (n := 200) (m := 3) ?_ (Nat.le_of_ble_eq_true rfl)).up (by decide) (by decide); (repeat' first | (refine List.forall_mem_cons.mpr ⟨?_, ?_⟩) | exact (fun x hx => nomatch hx)) <;> (first | exact sb_non.up (by decide) (by decide) | exact sb_bl.up (by decide) (by decide) | exact (sb_int (by first | assumption | (unfold Sm; decide))).up (by decide) (by decide))))))))⟩
    · exact ⟨rfl, rfl, by (refine And.intro (Nat.le_of_ble_eq_true rfl) ?_; (repeat' first | (refine List.forall_mem_cons.mpr ⟨?_, ?_⟩) | exact (fun x hx => nomatch hx)) <;> (repeat' first | exact True.intro | assumption | (refine And.intro ?_ ?_) | (unfold Sm; decide))), by (refine sb_show (k := 3) (n := 6700) ?_ (by decide) (by decide); first | (first | exact sb_non.up (by decide) (by decide) | exact sb_bl.up (by decide) (by decide) | exact (sb_int (by first | assumption | (unfold Sm; decide))).up (by decide) (by decide)) | (refine (sb_lst (k := 2) (n := 2200) (m := 3) ?_ (Nat.le_of_ble_eq_true rfl)).up (by decide) (by decide); (repeat' first | (refine List.forall_mem_cons.mpr ⟨?_, ?_⟩) | exact (fun x hx => nomatch hx)) <;> (first | (first | exact sb_non.up (by decide) (by decide) | exact sb_bl.up (by decide) (by decide) | exact (sb_int (by first | assumption | (unfold Sm; decide))).up (by decide) (by decide)) | (refine (sb_tup (k := 1) (n := 700) (m := 3) ?_ (Nat.le_of_ble_eq_true rfl)).up (by decide) (by decide); (repeat' first | (refine List.forall_mem_cons.mpr ⟨?_, ?_⟩) | exact (fun x hx => nomatch hx)) <;> (first | (first | exact sb_non.up (by decide) (by decide) | exact sb_bl.up (by decide) (by decide) | exact (sb_int (by first | assumption | (unfold Sm; decide))).up (by decide) (by decide)) | (refine (sb_tup (k := 0) (n := 200) (m := 3) ?_ (Nat.le_of_ble_eq_true rfl)).up (by decide) (by decide); (repeat' first | (refine List.forall_mem_cons.mpr ⟨?_, ?_⟩) | exact (fun x hx => nomatch hx)) <;> (first | exact sb_non.up (by decide) (by decide) | exact sb_bl.up (by decide) (by decide) | exact (sb_int (by first | assumption | (unfold Sm; decide))).up (by decide) (by decide))) | (refine (sb_lst (k := 0) (n := 200) (m := 3) ?_ (Nat.le_of_ble_eq_true rfl)).up (by decide) (by decide); (repeat' first | (refine List.forall_mem_cons.mpr ⟨?_, ?_⟩) | exact (fun x hx => nomatch hx)) <;> (first | exact sb_non.up (by decide) (by decide) | exact sb_bl.up (by decide) (by decide) | exact (sb_int (by first | assumption | (unfold Sm; decide))).up (by decide) (by decide))))) | (refine (sb_lst (k := 1) (n := 700) (m := 3) ?_ (Nat.le_of_ble_eq_true rfl)).up (by decide) (by decide); (repeat' first | (refine List.forall_mem_cons.mpr ⟨?_, ?_⟩) | exact (fun x hx => nomatch hx)) <;> (first | (first | exact sb_non.up (by decide) (by decide) | exact sb_bl.up (by decide) (by decide) | exact (sb_int (by first | assumption | (unfold Sm; decide))).up (by decide) (by decide)) | (refine (sb_tup (k := 0) (n := 200) (m := 3) ?_ (Nat.le_of_ble_eq_true rfl)).up (by decide) (by decide); (repeat' first | (refine List.forall_mem_cons.mpr ⟨?_, ?_⟩) | exact (fun x hx => nomatch hx)) <;> (first | exact sb_non.up (by decide) (by decide) | exact sb_bl.up (by decide) (by decide) | exact (sb_int (by first | assumption | (unfold Sm; decide))).up (by decide) (by decide))) | (refine (sb_lst (k := 0) (n := 200) (m := 3) ?_ (Nat.le_of_ble_eq_true rfl)).up (by decide) (by decide); (repeat' first | (refine List.forall_mem_cons.mpr ⟨?_, ?_⟩) | exact (fun x hx => nomatch hx)) <;> (first | exact sb_non.up (by decide) (by decide) | exact sb_bl.up (by decide) (by decide) | exact (sb_int (by first | assumption | (unfold Sm; decide))).up (by decide) (by decide))))))))⟩
    · exact ⟨rfl, rfl, by (refine And.intro (Nat.le_of_ble_eq_true rfl) ?_; (repeat' first | (refine List.forall_mem_cons.mpr ⟨?_, ?_⟩) | exact (fun x hx => nomatch hx)) <;> (repeat' first | exact True.intro | assumption | (refine And.intro ?_ ?_) | (unfold Sm; decide))), by (refine sb_show (k := 3) (n := 6700) ?_ (by decide) (by decide); first | (first | exact sb_non.up (by decide) (by decide) | exact sb_bl.up (by decide) (by decide) | exact (sb_int (by first | assumption | (unfold Sm; decide))).up (by decide) (by decide)) | (refine (sb_lst (k := 2) (n := 2200) (m := 3) ?_ (Nat.le_of_ble_eq_true rfl)).up (by decide) (by decide); (repeat' first | (refine List.forall_mem_cons.mpr ⟨?_, ?_⟩) | exact (fun x hx => nomatch hx)) <;> (first | (first | exact sb_non.up (by decide) (by decide) | exact sb_bl.up (by decide) (by decide) | exact (sb_int (by first | assumption | (unfold Sm; decide))).up (by decide) (by decide)) | (refine (sb_tup (k := 1) (n := 700) (m := 3) ?_ (Nat.le_of_ble_eq_true rfl)).up (by decide) (by decide); (repeat' first | (refine List.forall_mem_cons.mpr ⟨?_, ?_⟩) | exact (fun x hx => nomatch hx)) <;> (first | (first | exact sb_non.up (by decide) (by decide) | exact sb_bl.up (by decide) (by decide) | exact (sb_int (by first | assumption | (unfold Sm; decide))).up (by decide) (by decide)) | (refine (sb_tup (k := 0) (n := 200) (m := 3) ?_ (Nat.le_of_ble_eq_true rfl)).up (by decide) (by decide); (repeat' first | (refine List.forall_mem_cons.mpr ⟨?_, ?_⟩) | exact (fun x hx => nomatch hx)) <;> (first | exact sb_non.up (by decide) (by decide) | exact sb_bl.up (by decide) (by decide) | exact (sb_int (by first | assumption | (unfold Sm; decide))).up (by decide) (by decide))) | (refine (sb_lst (k := 0) (n := 200) (m := 3) ?_ (Nat.le_of_ble_eq_true rfl)).up (by decide) (by decide); (repeat' first | (refine List.forall_mem_cons.mpr ⟨?_, ?_⟩) | exact (fun x hx => nomatch hx)) <;> (first | exact sb_non.up (by decide) (by decide) | exact sb_bl.up (by decide) (by decide) | exact (sb_int (by first | assumption | (unfold Sm; decide))).up (by decide) (by decide))))) | (refine (sb_lst (k := 1) (n := 700) (m := 3) ?_ (Nat.le_of_ble_eq_true rfl)).up (by decide) (by decide); (repeat' first | (refine List.forall_mem_cons.mpr ⟨?_, ?_⟩) | exact (fun x hx => nomatch hx)) <;> (first | (first | exact sb_non.up (by decide) (by decide) | exact sb_bl.up (by decide) (by decide) | exact (sb_int (by first | assumption | (unfold Sm; decide))).up (by decide) (by decide)) | (refine (sb_tup (k := 0) (n := 200) (m := 3) ?_ (Nat.le_of_ble_eq_true rfl)).up (by decide) (by decide); (repeat' first | (refine List.forall_mem_cons.mpr ⟨?_, ?_⟩) | exact (fun x hx => nomatch hx)) <;> (first | exact sb_non.up (by decide) (by decide) | exact sb_bl.up (by decide) (by decide) | exact (sb_int (by first | assumption | (unfold Sm; decide))).up (by decide) (by decide))) | (refine (sb_lst (k := 0) (n := 200) (m := 3) ?_ (Nat.le_of_ble_eq_true rfl)).up (by decide) (by decide); (repeat' first | (refine List.forall_mem_cons.mpr ⟨?_, ?_⟩) | exact (fun x hx => nomatch hx)) <;> (first | exact sb_non.up (by decide) (by decide) | exact sb_bl.up (by decide) (by decide) | exact (sb_int (by first | assumption | (unfold Sm; decide))).up (by decide) (by decide))))))))⟩
    · exact ⟨rfl, rfl, by (refine And.intro (Nat.le_of_ble_eq_true rfl) ?_; (repeat' first | (refine List.forall_mem_cons.mpr ⟨?_, ?_⟩) | exact (fun x hx => nomatch hx)) <;> (repeat' first | exact True.intro | assumption | (refine And.intro ?_ ?_) | (unfold Sm; decide))), by (refine sb_show (k := 3) (n := 6700) ?_ (by decide) (by decide); first | (first | exact sb_non.up (by decide) (by decide) | exact sb_bl.up (by decide) (by decide) | exact (sb_int (by first | assumption | (unfold Sm; decide))).up (by decide) (by decide)) | (refine (sb_lst (k := 2) (n := 2200) (m := 3) ?_ (Nat.le_of_ble_eq_true rfl)).up (by decide) (by decide); (repeat' first | (refine List.forall_mem_cons.mpr ⟨?_, ?_⟩) | exact (fun x hx => nomatch hx)) <;> (first | (first | exact sb_non.up (by decide) (by decide) | exact sb_bl.up (by decide) (by decide) | exact (sb_int (by first | assumption | (unfold Sm; decide))).up (by decide) (by decide)) | (refine (sb_tup (k := 1) (n := 700) (m := 3) ?_ (Nat.le_of_ble_eq_true rfl)).up (by decide) (by decide); (repeat' first | (refine List.forall_mem_cons.mpr ⟨?_, ?_⟩) | exact (fun x hx => nomatch hx)) <;> (first | (first | exact sb_non.up (by decide) (by decide) | exact sb_bl.up (by decide) (by decide) | exact (sb_int (by first | assumption | (unfold Sm; decide))).up (by decide) (by decide)) | (refine (sb_tup (k := 0) (n := 200) (m := 3) ?_ (Nat.le_of_ble_eq_true rfl)).up (by decide) (by decide); (repeat' first | (refine List.forall_mem_cons.mpr ⟨?_, ?_⟩) | exact (fun x hx => nomatch hx)) <;> (first | exact sb_non.up (by decide) (by decide) | exact sb_bl.up (by decide) (by decide) | exact (sb_int (by first | assumption | (unfold Sm; decide))).up (by decide) (by decide))) | (refine (sb_lst (k := 0) (n := 200) (m := 3) ?_ (Nat.le_of_ble_eq_true rfl)).up (by decide) (by decide); (repeat' first | (refine List.forall_mem_cons.mpr ⟨?_, ?_⟩) | exact (fun x hx => nomatch hx)) <;> (first | exact sb_non.up (by decide) (by decide) | exact sb_bl.up (by decide) (by decide) | exact (sb_int (by first | assumption | (unfold Sm; decide))).up (by decide) (by decide))))) | (refine (sb_lst (k := 1) (n := 700) (m := 3) ?_ (Nat.le_of_ble_eq_true rfl)).up (by decide) (by decide); (repeat' first | (refine List.forall_mem_cons.mpr ⟨?_, ?_⟩) | exact (fun x hx => nomatch hx)) <;> (first | (first | exact sb_non.up (by decide) (by decide) | exact sb_bl.up (by decide) (by decide) | exact (sb_int (by first | assumption | (unfold Sm; decide))).up (by decide) (by decide)) | (refine (sb_tup (k := 0) (n := 200) (m := 3) ?_ (Nat.le_of_ble_eq_true rfl)).up (by decide) (by decide); (repeat' first | (refine List.forall_mem_cons.mpr ⟨?_, ?_⟩) | exact (fun x hx => nomatch hx)) <;> (first | exact sb_non.up (by decide) (by decide) | exact sb_bl.up (by decide) (by decide) | exact (sb_int (by first | assumption | (unfold Sm; decide))).up (by decide) (by decide))) | (refine (sb_lst (k := 0) (n := 200) (m := 3) ?_ (Nat.le_of_ble_eq_true rfl)).up (by decide) (by decide); (repeat' first | (refine List.forall_mem_cons.mpr ⟨?_, ?_⟩) | exact (fun x hx => nomatch hx)) <;> (first | exact sb_non.up (by decide) (by decide) | exact sb_bl.up (by decide) (by decide) | exact (sb_int (by first | assumption | (unfold Sm; decide))).up (by decide) (by decide))))))))⟩
    · exact ⟨ll, rfl, by (refine And.intro (Nat.le_of_ble_eq_true rfl) ?_; (repeat' first | (refine List.forall_mem_cons.mpr ⟨?_, ?_⟩) | exact (fun x hx => nomatch hx)) <;> (repeat' first | exact True.intro | assumption | (refine And.intro ?_ ?_) | (unfold Sm; decide))), by (refine sb_show (k := 3) (n := 6700) ?_ (by decide) (by decide); first | (first | exact sb_non.up (by decide) (by decide) | exact sb_bl.up (by decide) (by decide) | exact (sb_int (by first | assumption | (unfold Sm; decide))).up (by decide) (by decide)) | (refine (sb_lst (k := 2) (n := 2200) (m := 3) ?_ (Nat.le_of_ble_eq_true rfl)).up (by decide) (by decide); (repeat' first | (refine List.forall_mem_cons.mpr ⟨?_, ?_⟩) | exact (fun x hx => nomatch hx)) <;> (first | (first | exact sb_non.up (by decide) (by decide) | exact sb_bl.up (by decide) (by decide) | exact (sb_int (by first | assumption | (unfold Sm; decide))).up (by decide) (by decide)) | (refine (sb_tup (k := 1) (n := 700) (m := 3) ?_ (Nat.le_of_ble_eq_true rfl)).up (by decide) (by decide); (repeat' first | (refine List.forall_mem_cons.mpr ⟨?_, ?_⟩) | exact (fun x hx => nomatch hx)) <;> (first | (first | exact sb_non.up (by decide) (by decide) | exact sb_bl.up (by decide) (by decide) | exact (sb_int (by first | assumption | (unfold Sm; decide))).up (by decide) (by decide)) | (refine (sb_tup (k := 0) (n := 200) (m := 3) ?_ (Nat.le_of_ble_eq_true rfl)).up (by decide) (by decide); (repeat' first | (refine List.forall_mem_cons.mpr ⟨?_, ?_⟩) | exact (fun x hx => nomatch hx)) <;> (first | exact sb_non.up (by decide) (by decide) | exact sb_bl.up (by decide) (by decide) | exact (sb_int (by first | assumption | (unfold Sm; decide))).up (by decide) (by decide))) | (refine (sb_lst (k := 0) (n := 200) (m := 3) ?_ (Nat.le_of_ble_eq_true rfl)).up (by decide) (by decide); (repeat' first | (refine List.forall_mem_cons.mpr ⟨?_, ?_⟩) | exact (fun x hx => nomatch hx)) <;> (first | exact sb_non.up (by decide) (by decide) | exact sb_bl.up (by decide) (by decide) | exact (sb_int (by first | assumption | (unfold Sm; decide))).up (by decide) (by decide))))) | (refine (sb_lst (k := 1) (n := 700) (m := 3) ?_ (Nat.le_of_ble_eq_true rfl)).up (by decide) (by decide); (repeat' first | (refine List.forall_mem_cons.mpr ⟨?_, ?_⟩) | exact (fun x hx => nomatch hx)) <;> (first | (first | exact sb_non.up (by decide) (by decide) | exact sb_bl.up (by decide) (by decide) | exact (sb_int (by first | assumption | (unfold Sm; decide))).up (by decide) (by decide)) | (refine (sb_tup (k := 0) (n := 200) (m := 3) ?_ (Nat.le_of_ble_eq_true rfl)).up (by decide) (by decide); (repeat' first | (refine List.forall_mem_cons.mpr ⟨?_, ?_⟩) | exact (fun x hx => nomatch hx)) <;> (first | exact sb_non.up (by decide) (by decide) | exact sb_bl.up (by decide) (by decide) | exact (sb_int (by first | assumption | (unfold Sm; decide))).up (by decide) (by decide))) | (refine (sb_lst (k := 0) (n := 200) (m := 3) ?_ (Nat.le_of_ble_eq_true rfl)).up (by decide) (by decide); (repeat' first | (refine List.forall_mem_cons.mpr ⟨?_, ?_⟩) | exact (fun x hx => nomatch hx)) <;> (first | exact sb_non.up (by decide) (by decide) | exact sb_bl.up (by decide) (by decide) | exact (sb_int (by first | assumption | (unfold Sm; decide))).up (by decide) (by decide))))))))⟩
    · exact ⟨rfl, rfl, by (refine And.intro (Nat.le_of_ble_eq_true rfl) ?_; (repeat' first | (refine List.forall_mem_cons.mpr ⟨?_, ?_⟩) | exact (fun x hx => nomatch hx)) <;> (repeat' first | exact True.intro | assumption | (refine And.intro ?_ ?_) | (unfold Sm; decide))), by (refine sb_show (k := 3) (n := 6700) ?_ (by decide) (by decide); first | (first | exact sb_non.up (by decide) (by decide) | exact sb_bl.up (by decide) (by decide) | exact (sb_int (by first | assumption | (unfold Sm; decide))).up (by decide) (by decide)) | (refine (sb_lst (k := 2) (n := 2200) (m := 3) ?_ (Nat.le_of_ble_eq_true rfl)).up (by decide) (by decide); (repeat' first | (refine List.forall_mem_cons.mpr ⟨?_, ?_⟩) | exact (fun x hx => nomatch hx)) <;> (first | (first | exact sb_non.up (by decide) (by decide) | exact sb_bl.up (by decide) (by decide) | exact (sb_int (by first | assumption | (unfold Sm; decide))).up (by decide) (by decide)) | (refine (sb_tup (k := 1) (n := 700) (m := 3) ?_ (Nat.le_of_ble_eq_true rfl)).up (by decide) (by decide); (repeat' first | (refine List.forall_mem_cons.mpr ⟨?_, ?_⟩) | exact (fun x hx => nomatch hx)) <;> (first | (first | exact sb_non.up (by decide) (by decide) | exact sb_bl.up (by decide) (by decide) | exact (sb_int (by first | assumption | (unfold Sm; decide))).up (by decide) (by decide)) | (refine (sb_tup (k := 0) (n := 200) (m := 3) ?_ (Nat.le_of_ble_eq_true rfl)).up (by decide) (by decide); (repeat' first | (refine List.forall_mem_cons.mpr ⟨?_, ?_⟩) | exact (fun x hx => nomatch hx)) <;> (first | exact sb_non.up (by decide) (by decide) | exact sb_bl.up (by decide) (by decide) | exact (sb_int (by first | assumption | (unfold Sm; decide))).up (by decide) (by decide))) | (refine (sb_lst (k := 0) (n := 200) (m := 3) ?_ (Nat.le_of_ble_eq_true rfl)).up (by decide) (by decide); (repeat' first | (refine List.forall_mem_cons.mpr ⟨?_, ?_⟩) | exact (fun x hx => nomatch hx)) <;> (first | exact sb_non.up (by decide) (by decide) | exact sb_bl.up (by decide) (by decide) | exact (sb_int (by first | assumption | (unfold Sm; decide))).up (by decide) (by decide))))) | (refine (sb_lst (k := 1) (n := 700) (m := 3) ?_ (Nat.le_of_ble_eq_true rfl)).up (by decide) (by decide); (repeat' first | (refine List.forall_mem_cons.mpr ⟨?_, ?_⟩) | exact (fun x hx => nomatch hx)) <;> (first | (first | exact sb_non.up (by decide) (by decide) | exact sb_bl.up (by decide) (by decide) | exact (sb_int (by first | assumption | (unfold Sm; decide))).up (by decide) (by decide)) | (refine (sb_tup (k := 0) (n := 200) (m := 3) ?_ (Nat.le_of_ble_eq_true rfl)).up (by decide) (by decide); (repeat' first | (refine List.forall_mem_cons.mpr ⟨?_, ?_⟩) | exact (fun x hx => nomatch hx)) <;> (first | exact sb_non.up (by decide) (by decide) | exact sb_bl.up (by decide) (by decide) | exact (sb_int (by first | assumption | (unfold Sm; decide))).up (by decide) (by decide))) | (refine (sb_lst (k := 0) (n := 200) (m := 3) ?_ (Nat.le_of_ble_eq_true rfl)).up (by decide) (by decide); (repeat' first | (refine List.forall_mem_cons.mpr ⟨?_, ?_⟩) | exact (fun x hx => nomatch hx)) <;> (first | exact sb_non.up (by decide) (by decide) | exact sb_bl.up (by decide) (by decide) | exact (sb_int (by first | assumption | (unfold Sm; decide))).up (by decide) (by decide))))))))⟩
    · exact ⟨by decide, rfl, by (refine And.intro (Nat.le_of_ble_eq_true rfl) ?_; (repeat' first | (refine List.forall_mem_cons.mpr ⟨?_, ?_⟩) | exact (fun x hx => nomatch hx)) <;> (repeat' first | exact True.intro | assumption | (refine And.intro ?_ ?_) | (unfold Sm; decide))), by (refine sb_show (k := 3) (n := 6700) ?_ (by decide) (by decide); first | (first | exact sb_non.up (by decide) (by decide) | exact sb_bl.up (by decide) (by decide) | exact (sb_int (by first | assumption | (unfold Sm; decide))).up (by decide) (by decide)) | (refine (sb_lst (k := 2) (n := 2200) (m := 3) ?_ (Nat.le_of_ble_eq_true rfl)).up (by decide) (by decide); (repeat' first | (refine List.forall_mem_cons.mpr ⟨?_, ?_⟩) | exact (fun x hx => nomatch hx)) <;> (first | (first | exact sb_non.up (by decide) (by decide) | exact sb_bl.up (by decide) (by decide) | exact (sb_int (by first | assumption | (unfold Sm; decide))).up (by decide) (by decide)) | (refine (sb_tup (k := 1) (n := 700) (m := 3) ?_ (Nat.le_of_ble_eq_true rfl)).up (by decide) (by decide); (repeat' first | (refine List.forall_mem_cons.mpr ⟨?_, ?_⟩) | exact (fun x hx => nomatch hx)) <;> (first | (first | exact sb_non.up (by decide) (by decide) | exact sb_bl.up (by decide) (by decide) | exact (sb_int (by first | assumption | (unfold Sm; decide))).up (by decide) (by decide)) | (refine (sb_tup (k := 0) (n := 200) (m := 3) ?_ (Nat.le_of_ble_eq_true rfl)).up (by decide) (by decide); (repeat' first | (refine List.forall_mem_cons.mpr ⟨?_, ?_⟩) | exact (fun x hx => nomatch hx)) <;> (first | exact sb_non.up (by decide) (by decide) | exact sb_bl.up (by decide) (by decide) | exact (sb_int (by first | assumption | (unfold Sm; decide))).up (by decide) (by decide))) | (refine (sb_lst (k := 0) (n := 200) (m := 3) ?_ (Nat.le_of_ble_eq_true rfl)).up (by decide) (by decide); (repeat' first | (refine List.forall_mem_cons.mpr ⟨?_, ?_⟩) | exact (fun x hx => nomatch hx)) <;> (first | exact sb_non.up (by decide) (by decide) | exact sb_bl.up (by decide) (by decide) | exact (sb_int (by first | assumption | (unfold Sm; decide))).up (by decide) (by decide))))) | (refine (sb_lst (k := 1) (n := 700) (m := 3) ?_ (Nat.le_of_ble_eq_true rfl)).up (by decide) (by decide); (repeat' first | (refine List.forall_mem_cons.mpr ⟨?_, ?_⟩) | exact (fun x hx => nomatch hx)) <;> (first | (first | exact sb_non.up (by decide) (by decide) | exact sb_bl.up (by decide) (by decide) | exact (sb_int (by first | assumption | (unfold Sm; decide))).up (by decide) (by decide)) | (refine (sb_tup (k := 0) (n := 200) (m := 3) ?_ (Nat.le_of_ble_eq_true rfl)).up (by decide) (by decide); (repeat' first | (refine List.forall_mem_cons.mpr ⟨?_, ?_⟩) | exact (fun x hx => nomatch hx)) <;> (first | exact sb_non.up (by decide) (by decide) | exact sb_bl.up (by decide) (by decide) | exact (sb_int (by first | assumption | (unfold Sm; decide))).up (by decide) (by decide))) | (refine (sb_lst (k := 0) (n := 200) (m := 3) ?_ (Nat.le_of_ble_eq_true rfl)).up (by decide) (by decide); (repeat' first | (refine List.forall_mem_cons.mpr ⟨?_, ?_⟩) | exact (fun x hx => nomatch hx)) <;> (first | exact sb_non.up (by decide) (by decide) | exact sb_bl.up (by decide) (by decide) | exact (sb_int (by first | assumption | (unfold Sm; decide))).up (by decide) (by decide))))))))⟩
    · exact ⟨rfl, rfl, by (refine And.intro (Nat.le_of_ble_eq_true rfl) ?_; (repeat' first | (refine List.forall_mem_cons.mpr ⟨?_, ?_⟩) | exact (fun x hx => nomatch hx)) <;> (repeat' first | exact True.intro | assumption | (refine And.intro ?_ ?_) | (unfold Sm; decide))), by (refine sb_show (k := 3) (n := 6700) ?_ (by decide) (by decide); first | (first | exact sb_non.up (by decide) (by decide) | exact sb_bl.up (by decide) (by decide) | exact (sb_int (by first | assumption | (unfold Sm; decide))).up (by decide) (by decide)) | (refine (sb_lst (k := 2) (n := 2200) (m := 3) ?_ (Nat.le_of_ble_eq_true rfl)).up (by decide) (by decide); (repeat' first | (refine List.forall_mem_cons.mpr ⟨?_, ?_⟩) | exact (fun x hx => nomatch hx)) <;> (first | (first | exact sb_non.up (by decide) (by decide) | exact sb_bl.up (by decide) (by decide) | exact (sb_int (by first | assumption | (unfold Sm; decide))).up (by decide) (by decide)) | (refine (sb_tup (k := 1) (n := 700) (m := 3) ?_ (Nat.le_of_ble_eq_true rfl)).up (by decide) (by decide); (repeat' first | (refine List.forall_mem_cons.mpr ⟨?_, ?_⟩) | exact (fun x hx => nomatch hx)) <;> (first | (first | exact sb_non.up (by decide) (by decide) | exact sb_bl.up (by decide) (by decide) | exact (sb_int (by first | assumption | (unfold Sm; decide))).up (by decide) (by decide)) | (refine (sb_tup (k := 0) (n := 200) (m := 3) ?_ (Nat.le_of_ble_eq_true rfl)).up (by decide) (by decide); (repeat' first | (refine List.forall_mem_cons.mpr ⟨?_, ?_⟩) | exact (fun x hx => nomatch hx)) <;> (first | exact sb_non.up (by decide) (by decide) | exact sb_bl.up (by decide) (by decide) | exact (sb_int (by first | assumption | (unfold Sm; decide))).up (by decide) (by decide))) | (refine (sb_lst (k := 0) (n := 200) (m := 3) ?_ (Nat.le_of_ble_eq_true rfl)).up (by decide) (by decide); (repeat' first | (refine List.forall_mem_cons.mpr ⟨?_, ?_⟩) | exact (fun x hx => nomatch hx)) <;> (first | exact sb_non.up (by decide) (by decide) | exact sb_bl.up (by decide) (by decide) | exact (sb_int (by first | assumption | (unfold Sm; decide))).up (by decide) (by decide))))) | (refine (sb_lst (k := 1) (n := 700) (m := 3) ?_ (Nat.le_of_ble_eq_true rfl)).up (by decide) (by decide); (repeat' first | (refine List.forall_mem_cons.mpr ⟨?_, ?_⟩) | exact (fun x hx => nomatch hx)) <;> (first | (first | exact sb_non.up (by decide) (by decide) | exact sb_bl.up (by decide) (by decide) | exact (sb_int (by first | assumption | (unfold Sm; decide))).up (by decide) (by decide)) | (refine (sb_tup (k := 0) (n := 200) (m := 3) ?_ (Nat.le_of_ble_eq_true rfl)).up (by decide) (by decide); (repeat' first | (refine List.forall_mem_cons.mpr ⟨?_, ?_⟩) | exact (fun x hx => nomatch hx)) <;> (first | exact sb_non.up (by decide) (by decide) | exact sb_bl.up (by decide) (by decide) | exact (sb_int (by first | assumption | (unfold Sm; decide))).up (by decide) (by decide))) | (refine (sb_lst (k := 0) (n := 200) (m := 3) ?_ (Nat.le_of_ble_eq_true rfl)).up (by decide) (by decide); (repeat' first | (refine List.forall_mem_cons.mpr ⟨?_, ?_⟩) | exact (fun x hx => nomatch hx)) <;> (first | exact sb_non.up (by decide) (by decide) | exact sb_bl.up (by decide) (by decide) | exact (sb_int (by first | assumption | (unfold Sm; decide))).up (by decide) (by decide))))))))⟩
    · exact ⟨rfl, rfl, by (refine And.intro (Nat.le_of_ble_eq_true rfl) ?_; (repeat' first | (refine List.forall_mem_cons.mpr ⟨?_, ?_⟩) | exact (fun x hx => nomatch hx)) <;> (repeat' first | exact True.intro | assumption | (refine And.intro ?_ ?_) | (unfold Sm; decide))), by (refine sb_show (k := 3) (n := 6700) ?_ (by decide) (by decide); first | (first | exact sb_non.up (by decide) (by decide) | exact sb_bl.up (by decide) (by decide) | exact (sb_int (by first | assumption | (unfold Sm; decide))).up (by decide) (by decide)) | (refine (sb_lst (k := 2) (n := 2200) (m := 3) ?_ (Nat.le_of_ble_eq_true rfl)).up (by decide) (by decide); (repeat' first | (refine List.forall_mem_cons.mpr ⟨?_, ?_⟩) | exact (fun x hx => nomatch hx)) <;> (first | (first | exact sb_non.up (by decide) (by decide) | exact sb_bl.up (by decide) (by decide) | exact (sb_int (by first | assumption | (unfold Sm; decide))).up (by decide) (by decide)) | (refine (sb_tup (k := 1) (n := 700) (m := 3) ?_ (Nat.le_of_ble_eq_true rfl)).up (by decide) (by decide); (repeat' first | (refine List.forall_mem_cons.mpr ⟨?_, ?_⟩) | exact (fun x hx => nomatch hx)) <;> (first | (first | exact sb_non.up (by decide) (by decide) | exact sb_bl.up (by decide) (by decide) | exact (sb_int (by first | assumption | (unfold Sm; decide))).up (by decide) (by decide)) | (refine (sb_tup (k := 0) (n := 200) (m := 3) ?_ (Nat.le_of_ble_eq_true rfl)).up (by decide) (by decide); (repeat' first | (refine List.forall_mem_cons.mpr ⟨?_, ?_⟩) | exact (fun x hx => nomatch hx)) <;> (first | exact sb_non.up (by decide) (by decide) | exact sb_bl.up (by decide) (by decide) | exact (sb_int (by first | assumption | (unfold Sm; decide))).up (by decide) (by decide))) | (refine (sb_lst (k := 0) (n := 200) (m := 3) ?_ (Nat.le_of_ble_eq_true rfl)).up (by decide) (by decide); (repeat' first | (refine List.forall_mem_cons.mpr ⟨?_, ?_⟩) | exact (fun x hx => nomatch hx)) <;> (first | exact sb_non.up (by decide) (by decide) | exact sb_bl.up (by decide) (by decide) | exact (sb_int (by first | assumption | (unfold Sm; decide))).up (by decide) (by decide))))) | (refine (sb_lst (k := 1) (n := 700) (m := 3) ?_ (Nat.le_of_ble_eq_true rfl)).up (by decide) (by decide); (repeat' first | (refine List.forall_mem_cons.mpr ⟨?_, ?_⟩) | exact (fun x hx => nomatch hx)) <;> (first | (first | exact sb_non.up (by decide) (by decide) | exact sb_bl.up (by decide) (by decide) | exact (sb_int (by first | assumption | (unfold Sm; decide))).up (by decide) (by decide)) | (refine (sb_tup (k := 0) (n := 200) (m := 3) ?_ (Nat.le_of_ble_eq_true rfl)).up (by decide) (by decide); (repeat' first | (refine List.forall_mem_cons.mpr ⟨?_, ?_⟩) | exact (fun x hx => nomatch hx)) <;> (first | exact sb_non.up (by decide) (by decide) | exact sb_bl.up (by decide) (by decide) | exact (sb_int (by first | assumption | (unfold Sm; decide))).up (by decide) (by decide))) | (refine (sb_lst (k := 0) (n := 200) (m := 3) ?_ (Nat.le_of_ble_eq_true rfl)).up (by decide) (by decide); (repeat' first | (refine List.forall_mem_cons.mpr ⟨?_, ?_⟩) | exact (fun x hx => nomatch hx)) <;> (first | exact sb_non.up (by decide) (by decide) | exact sb_bl.up (by decide) (by decide) | exact (sb_int (by first | assumption | (unfold Sm; decide))).up (by decide) (by decide))))))))⟩
    · exact ⟨by decide, rfl, by (refine And.intro (Nat.le_of_ble_eq_true rfl) ?_; (repeat' first | (refine List.forall_mem_cons.mpr ⟨?_, ?_⟩) | exact (fun x hx => nomatch hx)) <;> (repeat' first | exact True.intro | assumption | (refine And.intro ?_ ?_) | (unfold Sm; decide))), by (refine sb_show (k := 3) (n := 6700) ?_ (by decide) (by decide); first | (first | exact sb_non.up (by decide) (by decide) | exact sb_bl.up (by decide) (by decide) | exact (sb_int (by first | assumption | (unfold Sm; decide))).up (by decide) (by decide)) | (refine (sb_lst (k := 2) (n := 2200) (m := 3) ?_ (Nat.le_of_ble_eq_true rfl)).up (by decide) (by decide); (repeat' first | (refine List.forall_mem_cons.mpr ⟨?_, ?_⟩) | exact (fun x hx => nomatch hx)) <;> (first | (first | exact sb_non.up (by decide) (by decide) | exact sb_bl.up (by decide) (by decide) | exact (sb_int (by first | assumption | (unfold Sm; decide))).up (by decide) (by decide)) | (refine (sb_tup (k := 1) (n := 700) (m := 3) ?_ (Nat.le_of_ble_eq_true rfl)).up (by decide) (by decide); (repeat' first | (refine List.forall_mem_cons.mpr ⟨?_, ?_⟩) | exact (fun x hx => nomatch hx)) <;> (first | (first | exact sb_non.up (by decide) (by decide) | exact sb_bl.up (by decide) (by decide) | exact (sb_int (by first | assumption | (unfold Sm; decide))).up (by decide) (by decide)) | (refine (sb_tup (k := 0) (n := 200) (m := 3) ?_ (Nat.le_of_ble_eq_true rfl)).up (by decide) (by decide); (repeat' first | (refine List.forall_mem_cons.mpr ⟨?_, ?_⟩) | exact (fun x hx => nomatch hx)) <;> (first | exact sb_non.up (by decide) (by decide) | exact sb_bl.up (by decide) (by decide) | exact (sb_int (by first | assumption | (unfold Sm; decide))).up (by decide) (by decide))) | (refine (sb_lst (k := 0) (n := 200) (m := 3) ?_ (Nat.le_of_ble_eq_true rfl)).up (by decide) (by decide); (repeat' first | (refine List.forall_mem_cons.mpr ⟨?_, ?_⟩) | exact (fun x hx => nomatch hx)) <;> (first | exact sb_non.up (by decide) (by decide) | exact sb_bl.up (by decide) (by decide) | exact (sb_int (by first | assumption | (unfold Sm; decide))).up (by decide) (by decide))))) | (refine (sb_lst (k := 1) (n := 700) (m := 3) ?_ (Nat.le_of_ble_eq_true rfl)).up (by decide) (by decide); (repeat' first | (refine List.forall_mem_cons.mpr ⟨?_, ?_⟩) | exact (fun x hx => nomatch hx)) <;> (first | (first | exact sb_non.up (by decide) (by decide) | exact sb_bl.up (by decide) (by decide) | exact (sb_int (by first | assumption | (unfold Sm; decide))).up (by decide) (by decide)) | (refine (sb_tup (k := 0) (n := 200) (m := 3) ?_ (Nat.le_of_ble_eq_true rfl)).up (by decide) (by decide); (repeat' first | (refine List.forall_mem_cons.mpr ⟨?_, ?_⟩) | exact (fun x hx => nomatch hx)) <;> (first | exact sb_non.up (by decide) (by decide) | exact sb_bl.up (by decide) (by decide) | exact (sb_int (by first | assumption | (unfold Sm; decide))).up (by decide) (by decide))) | (refine (sb_lst (k := 0) (n := 200) (m := 3) ?_ (Nat.le_of_ble_eq_true rfl)).up (by decide) (by decide); (repeat' first | (refine List.forall_mem_cons.mpr ⟨?_, ?_⟩) | exact (fun x hx => nomatch hx)) <;> (first | exact sb_non.up (by decide) (by decide) | exact sb_bl.up (by decide) (by decide) | exact (sb_int (by first | assumption | (unfold Sm; decide))).up (by decide) (by decide))))))))⟩
    · exact ⟨by decide, rfl, by (refine And.intro (Nat.le_of_ble_eq_true rfl) ?_; (repeat' first | (refine List.forall_mem_cons.mpr ⟨?_, ?_⟩) | exact (fun x hx => nomatch hx)) <;> (repeat' first | exact True.intro | assumption | (refine And.intro ?_ ?_) | (unfold Sm; decide))), by (refine sb_show (k := 3) (n := 6700) ?_ (by decide) (by decide); first | (first | exact sb_non.up (by decide) (by decide) | exact sb_bl.up (by decide) (by decide) | exact (sb_int (by first | assumption | (unfold Sm; decide))).up (by decide) (by decide)) | (refine (sb_lst (k := 2) (n := 2200) (m := 3) ?_ (Nat.le_of_ble_eq_true rfl)).up (by decide) (by decide); (repeat' first | (refine List.forall_mem_cons.mpr ⟨?_, ?_⟩) | exact (fun x hx => nomatch hx)) <;> (first | (first | exact sb_non.up (by decide) (by decide) | exact sb_bl.up (by decide) (by decide) | exact (sb_int (by first | assumption | (unfold Sm; decide))).up (by decide) (by decide)) | (refine (sb_tup (k := 1) (n := 700) (m := 3) ?_ (Nat.le_of_ble_eq_true rfl)).up (by decide) (by decide); (repeat' first | (refine List.forall_mem_cons.mpr ⟨?_, ?_⟩) | exact (fun x hx => nomatch hx)) <;> (first | (first | exact sb_non.up (by decide) (by decide) | exact sb_bl.up (by decide) (by decide) | exact (sb_int (by first | assumption | (unfold Sm; decide))).up (by decide) (by decide)) | (refine (sb_tup (k := 0) (n := 200) (m := 3) ?_ (Nat.le_of_ble_eq_true rfl)).up (by decide) (by decide); (repeat' first | (refine List.forall_mem_cons.mpr ⟨?_, ?_⟩) | exact (fun x hx => nomatch hx)) <;> (first | exact sb_non.up (by decide) (by decide) | exact sb_bl.up (by decide) (by decide) | exact (sb_int (by first | assumption | (unfold Sm; decide))).up (by decide) (by decide))) | (refine (sb_lst (k := 0) (n := 200) (m := 3) ?_ (Nat.le_of_ble_eq_true rfl)).up (by decide) (by decide); (repeat' first | (refine List.forall_mem_cons.mpr ⟨?_, ?_⟩) | exact (fun x hx => nomatch hx)) <;> (first | exact sb_non.up (by decide) (by decide) | exact sb_bl.up (by decide) (by decide) | exact (sb_int (by first | assumption | (unfold Sm; decide))).up (by decide) (by decide))))) | (refine (sb_lst (k := 1) (n := 700) (m := 3) ?_ (Nat.le_of_ble_eq_true rfl)).up (by decide) (by decide); (repeat' first | (refine List.forall_mem_cons.mpr ⟨?_, ?_⟩) | exact (fun x hx => nomatch hx)) <;> (first | (first | exact sb_non.up (by decide) (by decide) | exact sb_bl.up (by decide) (by decide) | exact (sb_int (by first | assumption | (unfold Sm; decide))).up (by decide) (by decide)) | (refine (sb_tup (k := 0) (n := 200) (m := 3) ?_ (Nat.le_of_ble_eq_true rfl)).up (by decide) (by decide); (repeat' first | (refine List.forall_mem_cons.mpr ⟨?_, ?_⟩) | exact (fun x hx => nomatch hx)) <;> (first | exact sb_non.up (by decide) (by decide) | exact sb_bl.up (by decide) (by decide) | exact (sb_int (by first | assumption | (unfold Sm; decide))).up (by decide) (by decide))) | (refine (sb_lst (k := 0) (n := 200) (m := 3) ?_ (Nat.le_of_ble_eq_true rfl)).up (by decide) (by decide); (repeat' first | (refine List.forall_mem_cons.mpr ⟨?_, ?_⟩) | exact (fun x hx => nomatch hx)) <;> (first | exact sb_non.up (by decide) (by decide) | exact sb_bl.up (by decide) (by decide) | exact (sb_int (by first | assumption | (unfold Sm; decide))).up (by decide) (by decide))))))))⟩
    · exact ⟨by decide, rfl, by (refine And.intro (Nat.le_of_ble_eq_true rfl) ?_; (repeat' first | (refine List.forall_mem_cons.mpr ⟨?_, ?_⟩) | exact (fun x hx => nomatch hx)) <;> (repeat' first | exact True.intro | assumption | (refine And.intro ?_ ?_) | (unfold Sm; decide))), by (refine sb_show (k := 3) (n := 6700) ?_ (by decide) (by decide); first | (first | exact sb_non.up (by decide) (by decide) | exact sb_bl.up (by decide) (by decide) | exact (sb_int (by first | assumption | (unfold Sm; decide))).up (by decide) (by decide)) | (refine (sb_lst (k := 2) (n := 2200) (m := 3) ?_ (Nat.le_of_ble_eq_true rfl)).up (by decide) (by decide); (repeat' first | (refine List.forall_mem_cons.mpr ⟨?_, ?_⟩) | exact (fun x hx => nomatch hx)) <;> (first | (first | exact sb_non.up (by decide) (by decide) | exact sb_bl.up (by decide) (by decide) | exact (sb_int (by first | assumption | (unfold Sm; decide))).up (by decide) (by decide)) | (refine (sb_tup (k := 1) (n := 700) (m := 3) ?_ (Nat.le_of_ble_eq_true rfl)).up (by decide) (by decide); (repeat' first | (refine List.forall_mem_cons.mpr ⟨?_, ?_⟩) | exact (fun x hx => nomatch hx)) <;> (first | (first | exact sb_non.up (by decide) (by decide) | exact sb_bl.up (by decide) (by decide) | exact (sb_int (by first | assumption | (unfold Sm; decide))).up (by decide) (by decide)) | (refine (sb_tup (k := 0) (n := 200) (m := 3) ?_ (Nat.le_of_ble_eq_true rfl)).up (by decide) (by decide); (repeat' first | (refine List.forall_mem_cons.mpr ⟨?_, ?_⟩) | exact (fun x hx => nomatch hx)) <;> (first | exact sb_non.up (by decide) (by decide) | exact sb_bl.up (by decide) (by decide) | exact (sb_int (by first | assumption | (unfold Sm; decide))).up (by decide) (by decide))) | (refine (sb_lst (k := 0) (n := 200) (m := 3) ?_ (Nat.le_of_ble_eq_true rfl)).up (by decide) (by decide); (repeat' first | (refine List.forall_mem_cons.mpr ⟨?_, ?_⟩) | exact (fun x hx => nomatch hx)) <;> (first | exact sb_non.up (by decide) (by decide) | exact sb_bl.up (by decide) (by decide) | exact (sb_int (by first | assumption | (unfold Sm; decide))).up (by decide) (by decide))))) | (refine (sb_lst (k := 1) (n := 700) (m := 3) ?_ (Nat.le_of_ble_eq_true rfl)).up (by decide) (by decide); (repeat' first | (refine List.forall_mem_cons.mpr ⟨?_, ?_⟩) | exact (fun x hx => nomatch hx)) <;> (first | (first | exact sb_non.up (by decide) (by decide) | exact sb_bl.up (by decide) (by decide) | exact (sb_int (by first | assumption | (unfold Sm; decide))).up (by decide) (by decide)) | (refine (sb_tup (k := 0) (n := 200) (m := 3) ?_ (Nat.le_of_ble_eq_true rfl)).up (by decide) (by decide); (repeat' first | (refine List.forall_mem_cons.mpr ⟨?_, ?_⟩) | exact (fun x hx => nomatch hx)) <;> (first | exact sb_non.up (by decide) (by decide) | exact sb_bl.up (by decide) (by decide) | exact (sb_int (by first | assumption | (unfold Sm; decide))).up (by decide) (by decide))) | (refine (sb_lst (k := 0) (n := 200) (m := 3) ?_ (Nat.le_of_ble_eq_true rfl)).up (by decide) (by decide); (repeat' first | (refine List.forall_mem_cons.mpr ⟨?_, ?_⟩) | exact (fun x hx => nomatch hx)) <;> (first | exact sb_non.up (by decide) (by decide) | exact sb_bl.up (by decide) (by decide) | exact (sb_int (by first | assumption | (unfold Sm; decide))).up (by decide) (by decide))))))))⟩
    · exact ⟨by decide, rfl, by (refine And.intro (Nat.le_of_ble_eq_true rfl) ?_; (repeat' first | (refine List.forall_mem_cons.mpr ⟨?_, ?_⟩) | exact (fun x hx => nomatch hx)) <;> (repeat' first | exact True.intro | assumption | (refine And.intro ?_ ?_) | (unfold Sm; decide))), by (refine sb_show (k := 3) (n := 6700) ?_ (by decide) (by decide); first | (first | exact sb_non.up (by decide) (by decide) | exact sb_bl.up (by decide) (by decide) | exact (sb_int (by first | assumption | (unfold Sm; decide))).up (by decide) (by decide)) | (refine (sb_lst (k := 2) (n := 2200) (m := 3) ?_ (Nat.le_of_ble_eq_true rfl)).up (by decide) (by decide); (repeat' first | (refine List.forall_mem_cons.mpr ⟨?_, ?_⟩) | exact (fun x hx => nomatch hx)) <;> (first | (first | exact sb_non.up (by decide) (by decide) | exact sb_bl.up (by decide) (by decide) | exact (sb_int (by first | assumption | (unfold Sm; decide))).up (by decide) (by decide)) | (refine (sb_tup (k := 1) (n := 700) (m := 3) ?_ (Nat.le_of_ble_eq_true rfl)).up (by decide) (by decide); (repeat' first | (refine List.forall_mem_cons.mpr ⟨?_, ?_⟩) | exact (fun x hx => nomatch hx)) <;> (first | (first | exact sb_non.up (by decide) (by decide) | exact sb_bl.up (by decide) (by decide) | exact (sb_int (by first | assumption | (unfold Sm; decide))).up (by decide) (by decide)) | (refine (sb_tup (k := 0) (n := 200) (m := 3) ?_ (Nat.le_of_ble_eq_true rfl)).up (by decide) (by decide); (repeat' first | (refine List.forall_mem_cons.mpr ⟨?_, ?_⟩) | exact (fun x hx => nomatch hx)) <;> (first | exact sb_non.up (by decide) (by decide) | exact sb_bl.up (by decide) (by decide) | exact (sb_int (by first | assumption | (unfold Sm; decide))).up (by decide) (by decide))) | (refine (sb_lst (k := 0) (n := 200) (m := 3) ?_ (Nat.le_of_ble_eq_true rfl)).up (by decide) (by decide); (repeat' first | (refine List.forall_mem_cons.mpr ⟨?_, ?_⟩) | exact (fun x hx => nomatch hx)) <;> (first | exact sb_non.up (by decide) (by decide) | exact sb_bl.up (by decide) (by decide) | exact (sb_int (by first | assumption | (unfold Sm; decide))).up (by decide) (by decide))))) | (refine (sb_lst (k := 1) (n := 700) (m := 3) ?_ (Nat.le_of_ble_eq_true rfl)).up (by decide) (by decide); (repeat' first | (refine List.forall_mem_cons.mpr ⟨?_, ?_⟩) | exact (fun x hx => nomatch hx)) <;> (first | (first | exact sb_non.up (by decide) (by decide) | exact sb_bl.up (by decide) (by decide) | exact (sb_int (by first | assumption | (unfold Sm; decide))).up (by decide) (by decide)) | (refine (sb_tup (k := 0) (n := 200) (m := 3) ?_ (Nat.le_of_ble_eq_true rfl)).up (by decide) (by decide); (repeat' first | (refine List.forall_mem_cons.mpr ⟨?_, ?_⟩) | exact (fun x hx => nomatch hx)) <;> (first | exact sb_non.up (by decide) (by decide) | exact sb_bl.up (by decide) (by decide) | exact (sb_int (by first | assumption | (unfold Sm; decide))).up (by decide) (by decide))) | (refine (sb_lst (k := 0) (n := 200) (m := 3) ?_ (Nat.le_of_ble_eq_true rfl)).up (by decide) (by decide); (repeat' first | (refine List.forall_mem_cons.mpr ⟨?_, ?_⟩) | exact (fun x hx => nomatch hx)) <;> (first | exact sb_non.up (by decide) (by decide) | exact sb_bl.up (by decide) (by decide) | exact (sb_int (by first | assumption | (unfold Sm; decide))).up (by decide) (by decide))))))))⟩
    · exact ⟨by decide, rfl, by (refine And.intro (Nat.le_of_ble_eq_true rfl) ?_; (repeat' first | (refine List.forall_mem_cons.mpr ⟨?_, ?_⟩) | exact (fun x hx => nomatch hx)) <;> (repeat' first | exact True.intro | assumption | (refine And.intro ?_ ?_) | (unfold Sm; decide))), by (refine sb_show (k := 3) (n := 6700) ?_ (by decide) (by decide); first | (first | exact sb_non.up (by decide) (by decide) | exact sb_bl.up (by decide) (by decide) | exact (sb_int (by first | assumption | (unfold Sm; decide))).up (by decide) (by decide)) | (refine (sb_lst (k := 2) (n := 2200) (m := 3) ?_ (Nat.le_of_ble_eq_true rfl)).up (by decide) (by decide); (repeat' first | (refine List.forall_mem_cons.mpr ⟨?_, ?_⟩) | exact (fun x hx => nomatch hx)) <;> (first | (first | exact sb_non.up (by decide) (by decide) | exact sb_bl.up (by decide) (by decide) | exact (sb_int (by first | assumption | (unfold Sm; decide))).up (by decide) (by decide)) | (refine (sb_tup (k := 1) (n := 700) (m := 3) ?_ (Nat.le_of_ble_eq_true rfl)).up (by decide) (by decide); (repeat' first | (refine List.forall_mem_cons.mpr ⟨?_, ?_⟩) | exact (fun x hx => nomatch hx)) <;> (first | (first | exact sb_non.up (by decide) (by decide) | exact sb_bl.up (by decide) (by decide) | exact (sb_int (by first | assumption | (unfold Sm; decide))).up (by decide) (by decide)) | (refine (sb_tup (k := 0) (n := 200) (m := 3) ?_ (Nat.le_of_ble_eq_true rfl)).up (by decide) (by decide); (repeat' first | (refine List.forall_mem_cons.mpr ⟨?_, ?_⟩) | exact (fun x hx => nomatch hx)) <;> (first | exact sb_non.up (by decide) (by decide) | exact sb_bl.up (by decide) (by decide) | exact (sb_int (by first | assumption | (unfold Sm; decide))).up (by decide) (by decide))) | (refine (sb_lst (k := 0) (n := 200) (m := 3) ?_ (Nat.le_of_ble_eq_true rfl)).up (by decide) (by decide); (repeat' first | (refine List.forall_mem_cons.mpr ⟨?_, ?_⟩) | exact (fun x hx => nomatch hx)) <;> (first | exact sb_non.up (by decide) (by decide) | exact sb_bl.up (by decide) (by decide) | exact (sb_int (by first | assumption | (unfold Sm; decide))).up (by decide) (by decide))))) | (refine (sb_lst (k := 1) (n := 700) (m := 3) ?_ (Nat.le_of_ble_eq_true rfl)).up (by decide) (by decide); (repeat' first | (refine List.forall_mem_cons.mpr ⟨?_, ?_⟩) | exact (fun x hx => nomatch hx)) <;> (first | (first | exact sb_non.up (by decide) (by decide) | exact sb_bl.up (by decide) (by decide) | exact (sb_int (by first | assumption | (unfold Sm; decide))).up (by decide) (by decide)) | (refine (sb_tup (k := 0) (n := 200) (m := 3) ?_ (Nat.le_of_ble_eq_true rfl)).up (by decide) (by decide); (repeat' first | (refine List.forall_mem_cons.mpr ⟨?_, ?_⟩) | exact (fun x hx => nomatch hx)) <;> (first | exact sb_non.up (by decide) (by decide) | exact sb_bl.up (by decide) (by decide) | exact (sb_int (by first | assumption | (unfold Sm; decide))).up (by decide) (by decide))) | (refine (sb_lst (k := 0) (n := 200) (m := 3) ?_ (Nat.le_of_ble_eq_true rfl)).up (by decide) (by decide); (repeat' first | (refine List.forall_mem_cons.mpr ⟨?_, ?_⟩) | exact (fun x hx => nomatch hx)) <;> (first | exact sb_non.up (by decide) (by decide) | exact sb_bl.up (by decide) (by decide) | exact (sb_int (by first | assumption | (unfold Sm; decide))).up (by decide) (by decide))))))))⟩
    · exact ⟨by decide, rfl, by (refine And.intro (Nat.le_of_ble_eq_true rfl) ?_; (repeat' first | (refine List.forall_mem_cons.mpr ⟨?_, ?_⟩) | exact (fun x hx => nomatch hx)) <;> (repeat' first | exact True.intro | assumption | (refine And.intro ?_ ?_) | (unfold Sm; decide))), by (refine sb_show (k := 3) (n := 6700) ?_ (by decide) (by decide); first | (first | exact sb_non.up (by decide) (by decide) | exact sb_bl.up (by decide) (by decide) | exact (sb_int (by first | assumption | (unfold Sm; decide))).up (by decide) (by decide)) | (refine (sb_lst (k := 2) (n := 2200) (m := 3) ?_ (Nat.le_of_ble_eq_true rfl)).up (by decide) (by decide); (repeat' first | (refine List.forall_mem_cons.mpr ⟨?_, ?_⟩) | exact (fun x hx => nomatch hx)) <;> (first | (first | exact sb_non.up (by decide) (by decide) | exact sb_bl.up (by decide) (by decide) | exact (sb_int (by first | assumption | (unfold Sm; decide))).up (by decide) (by decide)) | (refine (sb_tup (k := 1) (n := 700) (m := 3) ?_ (Nat.le_of_ble_eq_true rfl)).up (by decide) (by decide); (repeat' first | (refine List.forall_mem_cons.mpr ⟨?_, ?_⟩) | exact (fun x hx => nomatch hx)) <;> (first | (first | exact sb_non.up (by decide) (by decide) | exact sb_bl.up (by decide) (by decide) | exact (sb_int (by first | assumption | (unfold Sm; decide))).up (by decide) (by decide)) | (refine (sb_tup (k := 0) (n := 200) (m := 3) ?_ (Nat.le_of_ble_eq_true rfl)).up (by decide) (by decide); (repeat' first | (refine List.forall_mem_cons.mpr ⟨?_, ?_⟩) | exact (fun x hx => nomatch hx)) <;> (first | exact sb_non.up (by decide) (by decide) | exact sb_bl.up (by decide) (by decide) | exact (sb_int (by first | assumption | (unfold Sm; decide))).up (by decide) (by decide))) | (refine (sb_lst (k := 0) (n := 200) (m := 3) ?_ (Nat.le_of_ble_eq_true rfl)).up (by decide) (by decide); (repeat' first | (refine List.forall_mem_cons.mpr ⟨?_, ?_⟩) | exact (fun x hx => nomatch hx)) <;> (first | exact sb_non.up (by decide) (by decide) | exact sb_bl.up (by decide) (by decide) | exact (sb_int (by first | assumption | (unfold Sm; decide))).up (by decide) (by decide))))) | (refine (sb_lst (k := 1) (n := 700) (m := 3) ?_ (Nat.le_of_ble_eq_true rfl)).up (by decide) (by decide); (repeat' first | (refine List.forall_mem_cons.mpr ⟨?_, ?_⟩) | exact (fun x hx => nomatch hx)) <;> (first | (first | exact sb_non.up (by decide) (by decide) | exact sb_bl.up (by decide) (by decide) | exact (sb_int (by first | assumption | (unfold Sm; decide))).up (by decide) (by decide)) | (refine (sb_tup (k := 0) (n := 200) (m := 3) ?_ (Nat.le_of_ble_eq_true rfl)).up (by decide) (by decide); (repeat' first | (refine List.forall_mem_cons.mpr ⟨?_, ?_⟩) | exact (fun x hx => nomatch hx)) <;> (first | exact sb_non.up (by decide) (by decide) | exact sb_bl.up (by decide) (by decide) | exact (sb_int (by first | assumption | (unfold Sm; decide))).up (by decide) (by decide))) | (refine (sb_lst (k := 0) (n := 200) (m := 3) ?_ (Nat.le_of_ble_eq_true rfl)).up (by decide) (by decide); (repeat' first | (refine List.forall_mem_cons.mpr ⟨?_, ?_⟩) | exact (fun x hx => nomatch hx)) <;> (first | exact sb_non.up (by decide) (by decide) | exact sb_bl.up (by decide) (by decide) | exact (sb_int (by first | assumption | (unfold Sm; decide))).up (by decide) (by decide))))))))⟩
  | some q =>
    have Q := P1 q rfl
    have qa := Q.s1
    have qb := Q.s2
    have qa4 : Sm 400 q.1 := Sm.le qa (by decide)
    have qb4 : Sm 400 q.2 := Sm.le qb (by decide)
    intro d hd
    simp only [wrongs, nxD, toP, List.cons_append, List.nil_append, List.mem_cons, List.not_mem_nil, or_false] at hd
    rcases hd with rfl | rfl | rfl | rfl | rfl | rfl | rfl | rfl | rfl | rfl | rfl | rfl | rfl | rfl | rfl | rfl | rfl | rfl | rfl | rfl | rfl
    · exact ⟨rfl, rfl, True.intro, by (refine sb_show (k := 3) (n := 6700) ?_ (by decide) (by decide); first | (first | exact sb_non.up (by decide) (by decide) | exact sb_bl.up (by decide) (by decide) | exact (sb_int (by first | assumption | (unfold Sm; decide))).up (by decide) (by decide)) | (refine (sb_lst (k := 2) (n := 2200) (m := 3) ?_ (Nat.le_of_ble_eq_true rfl)).up (by decide) (by decide); (repeat' first | (refine List.forall_mem_cons.mpr ⟨?_, ?_⟩) | exact (fun x hx => nomatch hx)) <;> (first | (first | exact sb_non.up (by decide) (by decide) | exact sb_bl.up (by decide) (by decide) | exact (sb_int (by first | assumption | (unfold Sm; decide))).up (by decide) (by decide)) | (refine (sb_tup (k := 1) (n := 700) (m := 3) ?_ (Nat.le_of_ble_eq_true rfl)).up (by decide) (by decide); (repeat' first | (refine List.forall_mem_cons.mpr ⟨?_, ?_⟩) | exact (fun x hx => nomatch hx)) <;> (first | (first | exact sb_non.up (by decide) (by decide) | exact sb_bl.up (by decide) (by decide) | exact (sb_int (by first | assumption | (unfold Sm; decide))).up (by decide) (by decide)) | (refine (sb_tup (k := 0) (n := 200) (m := 3) ?_ (Nat.le_of_ble_eq_true rfl)).up (by decide) (by decide); (repeat' first | (refine List.forall_mem_cons.mpr ⟨?_, ?_⟩) | exact (fun x hx => nomatch hx)) <;> (first | exact sb_non.up (by decide) (by decide) | exact sb_bl.up (by decide) (by decide) | exact (sb_int (by first | assumption | (unfold Sm; decide))).up (by decide) (by decide))) | (refine (sb_lst (k := 0) (n := 200) (m := 3) ?_ (Nat.le_of_ble_eq_true rfl)).up (by decide) (by decide); (repeat' first | (refine List.forall_mem_cons.mpr ⟨?_, ?_⟩) | exact (fun x hx => nomatch hx)) <;> (first | exact sb_non.up (by decide) (by decide) | exact sb_bl.up (by decide) (by decide) | exact (sb_int (by first | assumption | (unfold Sm; decide))).up (by decide) (by decide))))) | (refine (sb_lst (k := 1) (n := 700) (m := 3) ?_ (Nat.le_of_ble_eq_true rfl)).up (by decide) (by decide); (repeat' first | (refine List.forall_mem_cons.mpr ⟨?_, ?_⟩) | exact (fun x hx => nomatch hx)) <;> (first | (first | exact sb_non.up (by decide) (by decide) | exact sb_bl.up (by decide) (by decide) | exact (sb_int (by first | assumption | (unfold Sm; decide))).up (by decide) (by decide)) | (refine (sb_tup (k := 0) (n := 200) (m := 3) ?_ (Nat.le_of_ble_eq_true rfl)).up (by decide) (by decide); (repeat' first | (refine List.forall_mem_cons.mpr ⟨?_, ?_⟩) | exact (fun x hx => nomatch hx)) <;> (first | exact sb_non.up (by decide) (by decide) | exact sb_bl.up (by decide) (by decide) | exact (sb_int (by first | assumption | (unfold Sm; decide))).up (by decide) (by decide))) | (refine (sb_lst (k := 0) (n := 200) (m := 3) ?_ (Nat.le_of_ble_eq_true rfl)).up (by decide) (by decide); (repeat' first | (refine List.forall_mem_cons.mpr ⟨?_, ?_⟩) | exact (fun x hx => nomatch hx)) <;> (first | exact sb_non.up (by decide) (by decide) | exact sb_bl.up (by decide) (by decide) | exact (sb_int (by first | assumption | (unfold Sm; decide))).up (by decide) (by decide))))))))⟩
    · exact tp
    · exact ⟨rfl, rfl, True.intro, .inl rfl⟩
    · exact ⟨rfl, rfl, True.intro, sb_show (k := 0) (n := 10) ⟨rfl, rfl, by decide, by decide⟩ (by decide) (by decide)⟩
    · exact ⟨rfl, rfl, True.intro, by (refine sb_show (k := 3) (n := 6700) ?_ (by decide) (by decide); first | (first | exact sb_non.up (by decide) (by decide) | exact sb_bl.up (by decide) (by decide) | exact (sb_int (by first | assumption | (unfold Sm; decide))).up (by decide) (by decide)) | (refine (sb_lst (k := 2) (n := 2200) (m := 3) ?_ (Nat.le_of_ble_eq_true rfl)).up (by decide) (by decide); (repeat' first | (refine List.forall_mem_cons.mpr ⟨?_, ?_⟩) | exact (fun x hx => nomatch hx)) <;> (first | (first | exact sb_non.up (by decide) (by decide) | exact sb_bl.up (by decide) (by decide) | exact (sb_int (by first | assumption | (unfold Sm; decide))).up (by decide) (by decide)) | (refine (sb_tup (k := 1) (n := 700) (m := 3) ?_ (Nat.le_of_ble_eq_true rfl)).up (by decide) (by decide); (repeat' first | (refine List.forall_mem_cons.mpr ⟨?_, ?_⟩) | exact (fun x hx => nomatch hx)) <;> (first | (first | exact sb_non.up (by decide) (by decide) | exact sb_bl.up (by decide) (by decide) | exact (sb_int (by first | assumption | (unfold Sm; decide))).up (by decide) (by decide)) | (refine (sb_tup (k := 0) (n := 200) (m := 3) ?_ (Nat.le_of_ble_eq_true rfl)).up (by decide) (by decide); (repeat' first | (refine List.forall_mem_cons.mpr ⟨?_, ?_⟩) | exact (fun x hx => nomatch hx)) <;> (first | exact sb_non.up (by decide) (by decide) | exact sb_bl.up (by decide) (by decide) | exact (sb_int (by first | assumption | (unfold Sm; decide))).up (by decide) (by decide))) | (refine (sb_lst (k := 0) (n := 200) (m := 3) ?_ (Nat.le_of_ble_eq_true rfl)).up (by decide) (by decide); (repeat' first | (refine List.forall_mem_cons.mpr ⟨?_, ?_⟩) | exact (fun x hx => nomatch hx)) <;> (first | exact sb_non.up (by decide) (by decide) | exact sb_bl.up (by decide) (by decide) | exact (sb_int (by first | assumption | (unfold Sm; decide))).up (by decide) (by decide))))) | (refine (sb_lst (k := 1) (n := 700) (m := 3) ?_ (Nat.le_of_ble_eq_true rfl)).up (by decide) (by decide); (repeat' first | (refine List.forall_mem_cons.mpr ⟨?_, ?_⟩) | exact (fun x hx => nomatch hx)) <;> (first | (first | exact sb_non.up (by decide) (by decide) | exact sb_bl.up (by decide) (by decide) | exact (sb_int (by first | assumption | (unfold Sm; decide))).up (by decide) (by decide)) | (refine (sb_tup (k := 0) (n := 200) (m := 3) ?_ (Nat.le_of_ble_eq_true rfl)).up (by decide) (by decide); (repeat' first | (refine List.forall_mem_cons.mpr ⟨?_, ?_⟩) | exact (fun x hx => nomatch hx)) <;> (first | exact sb_non.up (by decide) (by decide) | exact sb_bl.up (by decide) (by decide) | exact (sb_int (by first | assumption | (unfold Sm; decide))).up (by decide) (by decide))) | (refine (sb_lst (k := 0) (n := 200) (m := 3) ?_ (Nat.le_of_ble_eq_true rfl)).up (by decide) (by decide); (repeat' first | (refine List.forall_mem_cons.mpr ⟨?_, ?_⟩) | exact (fun x hx => nomatch hx)) <;> (first | exact sb_non.up (by decide) (by decide) | exact sb_bl.up (by decide) (by decide) | exact (sb_int (by first | assumption | (unfold Sm; decide))).up (by decide) (by decide))))))))⟩
    · exact ⟨rfl, rfl, by (refine And.intro (Nat.le_of_ble_eq_true rfl) ?_; (repeat' first | (refine List.forall_mem_cons.mpr ⟨?_, ?_⟩) | exact (fun x hx => nomatch hx)) <;> (repeat' first | exact True.intro | assumption | (refine And.intro ?_ ?_) | (unfold Sm; decide))), by (refine sb_show (k := 3) (n := 6700) ?_ (by decide) (by decide); first | (first | exact sb_non.up (by decide) (by decide) | exact sb_bl.up (by decide) (by decide) | exact (sb_int (by first | assumption | (unfold Sm; decide))).up (by decide) (by decide)) | (refine (sb_lst (k := 2) (n := 2200) (m := 3) ?_ (Nat.le_of_ble_eq_true rfl)).up (by decide) (by decide); (repeat' first | (refine List.forall_mem_cons.mpr ⟨?_, ?_⟩) | exact (fun x hx => nomatch hx)) <;> (first | (first | exact sb_non.up (by decide) (by decide) | exact sb_bl.up (by decide) (by decide) | exact (sb_int (by first | assumption | (unfold Sm; decide))).up (by decide) (by decide)) | (refine (sb_tup (k := 1) (n := 700) (m := 3) ?_ (Nat.le_of_ble_eq_true rfl)).up (by decide) (by decide); (repeat' first | (refine List.forall_mem_cons.mpr ⟨?_, ?_⟩) | exact (fun x hx => nomatch hx)) <;> (first | (first | exact sb_non.up (by decide) (by decide) | exact sb_bl.up (by decide) (by decide) | exact (sb_int (by first | assumption | (unfold Sm; decide))).up (by decide) (by decide)) | (refine (sb_tup (k := 0) (n := 200) (m := 3) ?_ (Nat.le_of_ble_eq_true rfl)).up (by decide) (by decide); (repeat' first | (refine List.forall_mem_cons.mpr ⟨?_, ?_⟩) | exact (fun x hx => nomatch hx)) <;> (first | exact sb_non.up (by decide) (by decide) | exact sb_bl.up (by decide) (by decide) | exact (sb_int (by first | assumption | (unfold Sm; decide))).up (by decide) (by decide))) | (refine (sb_lst (k := 0) (n := 200) (m := 3) ?_ (Nat.le_of_ble_eq_true rfl)).up (by decide) (by decide); (repeat' first | (refine List.forall_mem_cons.mpr ⟨?_, ?_⟩) | exact (fun x hx => nomatch hx)) <;> (first | exact sb_non.up (by decide) (by decide) | exact sb_bl.up (by decide) (by decide) | exact (sb_int (by first | assumption | (unfold Sm; decide))).up (by decide) (by decide))))) | (refine (sb_lst (k := 1) (n := 700) (m := 3) ?_ (Nat.le_of_ble_eq_true rfl)).up (by decide) (by decide); (repeat' first | (refine List.forall_mem_cons.mpr ⟨?_, ?_⟩) | exact (fun x hx => nomatch hx)) <;> (first | (first | exact sb_non.up (by decide) (by decide) | exact sb_bl.up (by decide) (by decide) | exact (sb_int (by first | assumption | (unfold Sm; decide))).up (by decide) (by decide)) | (refine (sb_tup (k := 0) (n := 200) (m := 3) ?_ (Nat.le_of_ble_eq_true rfl)).up (by decide) (by decide); (repeat' first | (refine List.forall_mem_cons.mpr ⟨?_, ?_⟩) | exact (fun x hx => nomatch hx)) <;> (first | exact sb_non.up (by decide) (by decide) | exact sb_bl.up (by decide) (by decide) | exact (sb_int (by first | assumption | (unfold Sm; decide))).up (by decide) (by decide))) | (refine (sb_lst (k := 0) (n := 200) (m := 3) ?_ (Nat.le_of_ble_eq_true rfl)).up (by decide) (by decide); (repeat' first | (refine List.forall_mem_cons.mpr ⟨?_, ?_⟩) | exact (fun x hx => nomatch hx)) <;> (first | exact sb_non.up (by decide) (by decide) | exact sb_bl.up (by decide) (by decide) | exact (sb_int (by first | assumption | (unfold Sm; decide))).up (by decide) (by decide))))))))⟩
    · exact ⟨rfl, rfl, by (refine And.intro (Nat.le_of_ble_eq_true rfl) ?_; (repeat' first | (refine List.forall_mem_cons.mpr ⟨?_, ?_⟩) | exact (fun x hx => nomatch hx)) <;> (repeat' first | exact True.intro | assumption | (refine And.intro ?_ ?_) | (unfold Sm; decide))), by (refine sb_show (k := 3) (n := 6700) ?_ (by decide) (by decide); first | (first | exact sb_non.up (by decide) (by decide) | exact sb_bl.up (by decide) (by decide) | exact (sb_int (by first | assumption | (unfold Sm; decide))).up (by decide) (by decide)) | (refine (sb_lst (k := 2) (n := 2200) (m := 3) ?_ (Nat.le_of_ble_eq_true rfl)).up (by decide) (by decide); (repeat' first | (refine List.forall_mem_cons.mpr ⟨?_, ?_⟩) | exact (fun x hx => nomatch hx)) <;> (first | (first | exact sb_non.up (by decide) (by decide) | exact sb_bl.up (by decide) (by decide) | exact (sb_int (by first | assumption | (unfold Sm; decide))).up (by decide) (by decide)) | (refine (sb_tup (k := 1) (n := 700) (m := 3) ?_ (Nat.le_of_ble_eq_true rfl)).up (by decide) (by decide); (repeat' first | (refine List.forall_mem_cons.mpr ⟨?_, ?_⟩) | exact (fun x hx => nomatch hx)) <;> (first | (first | exact sb_non.up (by decide) (by decide) | exact sb_bl.up (by decide) (by decide) | exact (sb_int (by first | assumption | (unfold Sm; decide))).up (by decide) (by decide)) | (refine (sb_tup (k := 0) (n := 200) (m := 3) ?_ (Nat.le_of_ble_eq_true rfl)).up (by decide) (by decide); (repeat' first | (refine List.forall_mem_cons.mpr ⟨?_, ?_⟩) | exact (fun x hx => nomatch hx)) <;> (first | exact sb_non.up (by decide) (by decide) | exact sb_bl.up (by decide) (by decide) | exact (sb_int (by first | assumption | (unfold Sm; decide))).up (by decide) (by decide))) | (refine (sb_lst (k := 0) (n := 200) (m := 3) ?_ (Nat.le_of_ble_eq_true rfl)).up (by decide) (by decide); (repeat' first | (refine List.forall_mem_cons.mpr ⟨?_, ?_⟩) | exact (fun x hx => nomatch hx)) <;> (first | exact sb_non.up (by decide) (by decide) | exact sb_bl.up (by decide) (by decide) | exact (sb_int (by first | assumption | (unfold Sm; decide))).up (by decide) (by decide))))) | (refine (sb_lst (k := 1) (n := 700) (m := 3) ?_ (Nat.le_of_ble_eq_true rfl)).up (by decide) (by decide); (repeat' first | (refine List.forall_mem_cons.mpr ⟨?_, ?_⟩) | exact (fun x hx => nomatch hx)) <;> (first | (first | exact sb_non.up (by decide) (by decide) | exact sb_bl.up (by decide) (by decide) | exact (sb_int (by first | assumption | (unfold Sm; decide))).up (by decide) (by decide)) | (refine (sb_tup (k := 0) (n := 200) (m := 3) ?_ (Nat.le_of_ble_eq_true rfl)).up (by decide) (by decide); (repeat' first | (refine List.forall_mem_cons.mpr ⟨?_, ?_⟩) | exact (fun x hx => nomatch hx)) <;> (first | exact sb_non.up (by decide) (by decide) | exact sb_bl.up (by decide) (by decide) | exact (sb_int (by first | assumption | (unfold Sm; decide))).up (by decide) (by decide))) | (refine (sb_lst (k := 0) (n := 200) (m := 3) ?_ (Nat.le_of_ble_eq_true rfl)).up (by decide) (by decide); (repeat' first | (refine List.forall_mem_cons.mpr ⟨?_, ?_⟩) | exact (fun x hx => nomatch hx)) <;> (first | exact sb_non.up (by decide) (by decide) | exact sb_bl.up (by decide) (by decide) | exact (sb_int (by first | assumption | (unfold Sm; decide))).up (by decide) (by decide))))))))⟩
    · exact ⟨rfl, rfl, by (refine And.intro (Nat.le_of_ble_eq_true rfl) ?_; (repeat' first | (refine List.forall_mem_cons.mpr ⟨?_, ?_⟩) | exact (fun x hx => nomatch hx)) <;> (repeat' first | exact True.intro | assumption | (refine And.intro ?_ ?_) | (unfold Sm; decide))), by (refine sb_show (k := 3) (n := 6700) ?_ (by decide) (by decide); first | (first | exact sb_non.up (by decide) (by decide) | exact sb_bl.up (by decide) (by decide) | exact (sb_int (by first | assumption | (unfold Sm; decide))).up (by decide) (by decide)) | (refine (sb_lst (k := 2) (n := 2200) (m := 3) ?_ (Nat.le_of_ble_eq_true rfl)).up (by decide) (by decide); (repeat' first | (refine List.forall_mem_cons.mpr ⟨?_, ?_⟩) | exact (fun x hx => nomatch hx)) <;> (first | (first | exact sb_non.up (by decide) (by decide) | exact sb_bl.up (by decide) (by decide) | exact (sb_int (by first | assumption | (unfold Sm; decide))).up (by decide) (by decide)) | (refine (sb_tup (k := 1) (n := 700) (m := 3) ?_ (Nat.le_of_ble_eq_true rfl)).up (by decide) (by decide); (repeat' first | (refine List.forall_mem_cons.mpr ⟨?_, ?_⟩) | exact (fun x hx => nomatch hx)) <;> (first | (first | exact sb_non.up (by decide) (by decide) | exact sb_bl.up (by decide) (by decide) | exact (sb_int (by first | assumption | (unfold Sm; decide))).up (by decide) (by decide)) | (refine (sb_tup (k := 0) (n := 200) (m := 3) ?_ (Nat.le_of_ble_eq_true rfl)).up (by decide) (by decide); (repeat' first | (refine List.forall_mem_cons.mpr ⟨?_, ?_⟩) | exact (fun x hx => nomatch hx)) <;> (first | exact sb_non.up (by decide) (by decide) | exact sb_bl.up (by decide) (by decide) | exact (sb_int (by first | assumption | (unfold Sm; decide))).up (by decide) (by decide))) | (refine (sb_lst (k := 0) (n := 200) (m := 3) ?_ (Nat.le_of_ble_eq_true rfl)).up (by decide) (by decide); (repeat' first | (refine List.forall_mem_cons.mpr ⟨?_, ?_⟩) | exact (fun x hx => nomatch hx)) <;> (first | exact sb_non.up (by decide) (by decide) | exact sb_bl.up (by decide) (by decide) | exact (sb_int (by first | assumption | (unfold Sm; decide))).up (by decide) (by decide))))) | (refine (sb_lst (k := 1) (n := 700) (m := 3) ?_ (Nat.le_of_ble_eq_true rfl)).up (by decide) (by decide); (repeat' first | (refine List.forall_mem_cons.mpr ⟨?_, ?_⟩) | exact (fun x hx => nomatch hx)) <;> (first | (first | exact sb_non.up (by decide) (by decide) | exact sb_bl.up (by decide) (by decide) | exact (sb_int (by first | assumption | (unfold Sm; decide))).up (by decide) (by decide)) | (refine (sb_tup (k := 0) (n := 200) (m := 3) ?_ (Nat.le_of_ble_eq_true rfl)).up (by decide) (by decide); (repeat' first | (refine List.forall_mem_cons.mpr ⟨?_, ?_⟩) | exact (fun x hx => nomatch hx)) <;> (first | exact sb_non.up (by decide) (by decide) | exact sb_bl.up (by decide) (by decide) | exact (sb_int (by first | assumption | (unfold Sm; decide))).up (by decide) (by decide))) | (refine (sb_lst (k := 0) (n := 200) (m := 3) ?_ (Nat.le_of_ble_eq_true rfl)).up (by decide) (by decide); (repeat' first | (refine List.forall_mem_cons.mpr ⟨?_, ?_⟩) | exact (fun x hx => nomatch hx)) <;> (first | exact sb_non.up (by decide) (by decide) | exact sb_bl.up (by decide) (by decide) | exact (sb_int (by first | assumption | (unfold Sm; decide))).up (by decide) (by decide))))))))⟩
    · exact ⟨rfl, rfl, by (refine And.intro (Nat.le_of_ble_eq_true rfl) ?_; (repeat' first | (refine List.forall_mem_cons.mpr ⟨?_, ?_⟩) | exact (fun x hx => nomatch hx)) <;> (repeat' first | exact True.intro | assumption | (refine And.intro ?_ ?_) | (unfold Sm; decide))), by (refine sb_show (k := 3) (n := 6700) ?_ (by decide) (by decide); first | (first | exact sb_non.up (by decide) (by decide) | exact sb_bl.up (by decide) (by decide) | exact (sb_int (by first | assumption | (unfold Sm; decide))).up (by decide) (by decide)) | (refine (sb_lst (k := 2) (n := 2200) (m := 3) ?_ (Nat.le_of_ble_eq_true rfl)).up (by decide) (by decide); (repeat' first | (refine List.forall_mem_cons.mpr ⟨?_, ?_⟩) | exact (fun x hx => nomatch hx)) <;> (first | (first | exact sb_non.up (by decide) (by decide) | exact sb_bl.up (by decide) (by decide) | exact (sb_int (by first | assumption | (unfold Sm; decide))).up (by decide) (by decide)) | (refine (sb_tup (k := 1) (n := 700) (m := 3) ?_ (Nat.le_of_ble_eq_true rfl)).up (by decide) (by decide); (repeat' first | (refine List.forall_mem_cons.mpr ⟨?_, ?_⟩) | exact (fun x hx => nomatch hx)) <;> (first | (first | exact sb_non.up (by decide) (by decide) | exact sb_bl.up (by decide) (by decide) | exact (sb_int (by first | assumption | (unfold Sm; decide))).up (by decide) (by decide)) | (refine (sb_tup (k := 0) (n := 200) (m := 3) ?_ (Nat.le_of_ble_eq_true rfl)).up (by decide) (by decide); (repeat' first | (refine List.forall_mem_cons.mpr ⟨?_, ?_⟩) | exact (fun x hx => nomatch hx)) <;> (first | exact sb_non.up (by decide) (by decide) | exact sb_bl.up (by decide) (by decide) | exact (sb_int (by first | assumption | (unfold Sm; decide))).up (by decide) (by decide))) | (refine (sb_lst (k := 0) (n := 200) (m := 3) ?_ (Nat.le_of_ble_eq_true rfl)).up (by decide) (by decide); (repeat' first | (refine List.forall_mem_cons.mpr ⟨?_, ?_⟩) | exact (fun x hx => nomatch hx)) <;> (first | exact sb_non.up (by decide) (by decide) | exact sb_bl.up (by decide) (by decide) | exact (sb_int (by first | assumption | (unfold Sm; decide))).up (by decide) (by decide))))) | (refine (sb_lst (k := 1) (n := 700) (m := 3) ?_ (Nat.le_of_ble_eq_true rfl)).up (by decide) (by decide); (repeat' first | (refine List.forall_mem_cons.mpr ⟨?_, ?_⟩) | exact (fun x hx => nomatch hx)) <;> (first | (first | exact sb_non.up (by decide) (by decide) | exact sb_bl.up (by decide) (by decide) | exact (sb_int (by first | assumption | (unfold Sm; decide))).up (by decide) (by decide)) | (refine (sb_tup (k := 0) (n := 200) (m := 3) ?_ (Nat.le_of_ble_eq_true rfl)).up (by decide) (by decide); (repeat' first | (refine List.forall_mem_cons.mpr ⟨?_, ?_⟩) | exact (fun x hx => nomatch hx)) <;> (first | exact sb_non.up (by decide) (by decide) | exact sb_bl.up (by decide) (by decide) | exact (sb_int (by first | assumption | (unfold Sm; decide))).up (by decide) (by decide))) | (refine (sb_lst (k := 0) (n := 200) (m := 3) ?_ (Nat.le_of_ble_eq_true rfl)).up (by decide) (by decide); (repeat' first | (refine List.forall_mem_cons.mpr ⟨?_, ?_⟩) | exact (fun x hx => nomatch hx)) <;> (first | exact sb_non.up (by decide) (by decide) | exact sb_bl.up (by decide) (by decide) | exact (sb_int (by first | assumption | (unfold Sm; decide))).up (by decide) (by decide))))))))⟩
    · exact ⟨rfl, rfl, by (refine And.intro (Nat.le_of_ble_eq_true rfl) ?_; (repeat' first | (refine List.forall_mem_cons.mpr ⟨?_, ?_⟩) | exact (fun x hx => nomatch hx)) <;> (repeat' first | exact True.intro | assumption | (refine And.intro ?_ ?_) | (unfold Sm; decide))), by (refine sb_show (k := 3) (n := 6700) ?_ (by decide) (by decide); first | (first | exact sb_non.up (by decide) (by decide) | exact sb_bl.up (by decide) (by decide) | exact (sb_int (by first | assumption | (unfold Sm; decide))).up (by decide) (by decide)) | (refine (sb_lst (k := 2) (n := 2200) (m := 3) ?_ (Nat.le_of_ble_eq_true rfl)).up (by decide) (by decide); (repeat' first | (refine List.forall_mem_cons.mpr ⟨?_, ?_⟩) | exact (fun x hx => nomatch hx)) <;> (first | (first | exact sb_non.up (by decide) (by decide) | exact sb_bl.up (by decide) (by decide) | exact (sb_int (by first | assumption | (unfold Sm; decide))).up (by decide) (by decide)) | (refine (sb_tup (k := 1) (n := 700) (m := 3) ?_ (Nat.le_of_ble_eq_true rfl)).up (by decide) (by decide); (repeat' first | (refine List.forall_mem_cons.mpr ⟨?_, ?_⟩) | exact (fun x hx => nomatch hx)) <;> (first | (first | exact sb_non.up (by decide) (by decide) | exact sb_bl.up (by decide) (by decide) | exact (sb_int (by first | assumption | (unfold Sm; decide))).up (by decide) (by decide)) | (refine (sb_tup (k := 0) (n := 200) (m := 3) ?_ (Nat.le_of_ble_eq_true rfl)).up (by decide) (by decide); (repeat' first | (refine List.forall_mem_cons.mpr ⟨?_, ?_⟩) | exact (fun x hx => nomatch hx)) <;> (first | exact sb_non.up (by decide) (by decide) | exact sb_bl.up (by decide) (by decide) | exact (sb_int (by first | assumption | (unfold Sm; decide))).up (by decide) (by decide))) | (refine (sb_lst (k := 0) (n := 200) (m := 3) ?_ (Nat.le_of_ble_eq_true rfl)).up (by decide) (by decide); (repeat' first | (refine List.forall_mem_cons.mpr ⟨?_, ?_⟩) | exact (fun x hx => nomatch hx)) <;> (first | exact sb_non.up (by decide) (by decide) | exact sb_bl.up (by decide) (by decide) | exact (sb_int (by first | assumption | (unfold Sm; decide))).up (by decide) (by decide))))) | (refine (sb_lst (k := 1) (n := 700) (m := 3) ?_ (Nat.le_of_ble_eq_true rfl)).up (by decide) (by decide); (repeat' first | (refine List.forall_mem_cons.mpr ⟨?_, ?_⟩) | exact (fun x hx => nomatch hx)) <;> (first | (first | exact sb_non.up (by decide) (by decide) | exact sb_bl.up (by decide) (by decide) | exact (sb_int (by first | assumption | (unfold Sm; decide))).up (by decide) (by decide)) | (refine (sb_tup (k := 0) (n := 200) (m := 3) ?_ (Nat.le_of_ble_eq_true rfl)).up (by decide) (by decide); (repeat' first | (refine List.forall_mem_cons.mpr ⟨?_, ?_⟩) | exact (fun x hx => nomatch hx)) <;> (first | exact sb_non.up (by decide) (by decide) | exact sb_bl.up (by decide) (by decide) | exact (sb_int (by first | assumption | (unfold Sm; decide))).up (by decide) (by decide))) | (refine (sb_lst (k := 0) (n := 200) (m := 3) ?_ (Nat.le_of_ble_eq_true rfl)).up (by decide) (by decide); (repeat' first | (refine List.forall_mem_cons.mpr ⟨?_, ?_⟩) | exact (fun x hx => nomatch hx)) <;> (first | exact sb_non.up (by decide) (by decide) | exact sb_bl.up (by decide) (by decide) | exact (sb_int (by first | assumption | (unfold Sm; decide))).up (by decide) (by decide))))))))⟩
    · exact ⟨ll, rfl, by (refine And.intro (Nat.le_of_ble_eq_true rfl) ?_; (repeat' first | (refine List.forall_mem_cons.mpr ⟨?_, ?_⟩) | exact (fun x hx => nomatch hx)) <;> (repeat' first | exact True.intro | assumption | (refine And.intro ?_ ?_) | (unfold Sm; decide))), by (refine sb_show (k := 3) (n := 6700) ?_ (by decide) (by decide); first | (first | exact sb_non.up (by decide) (by decide) | exact sb_bl.up (by decide) (by decide) | exact (sb_int (by first | assumption | (unfold Sm; decide))).up (by decide) (by decide)) | (refine (sb_lst (k := 2) (n := 2200) (m := 3) ?_ (Nat.le_of_ble_eq_true rfl)).up (by decide) (by decide); (repeat' first | (refine List.forall_mem_cons.mpr ⟨?_, ?_⟩) | exact (fun x hx => nomatch hx)) <;> (first | (first | exact sb_non.up (by decide) (by decide) | exact sb_bl.up (by decide) (by decide) | exact (sb_int (by first | assumption | (unfold Sm; decide))).up (by decide) (by decide)) | (refine (sb_tup (k := 1) (n := 700) (m := 3) ?_ (Nat.le_of_ble_eq_true rfl)).up (by decide) (by decide); (repeat' first | (refine List.forall_mem_cons.mpr ⟨?_, ?_⟩) | exact (fun x hx => nomatch hx)) <;> (first | (first | exact sb_non.up (by decide) (by decide) | exact sb_bl.up (by decide) (by decide) | exact (sb_int (by first | assumption | (unfold Sm; decide))).up (by decide) (by decide)) | (refine (sb_tup (k := 0) (n := 200) (m := 3) ?_ (Nat.le_of_ble_eq_true rfl)).up (by decide) (by decide); (repeat' first | (refine List.forall_mem_cons.mpr ⟨?_, ?_⟩) | exact (fun x hx => nomatch hx)) <;> (first | exact sb_non.up (by decide) (by decide) | exact sb_bl.up (by decide) (by decide) | exact (sb_int (by first | assumption | (unfold Sm; decide))).up (by decide) (by decide))) | (refine (sb_lst (k := 0) (n := 200) (m := 3) ?_ (Nat.le_of_ble_eq_true rfl)).up (by decide) (by decide); (repeat' first | (refine List.forall_mem_cons.mpr ⟨?_, ?_⟩) | exact (fun x hx => nomatch hx)) <;> (first | exact sb_non.up (by decide) (by decide) | exact sb_bl.up (by decide) (by decide) | exact (sb_int (by first | assumption | (unfold Sm; decide))).up (by decide) (by decide))))) | (refine (sb_lst (k := 1) (n := 700) (m := 3) ?_ (Nat.le_of_ble_eq_true rfl)).up (by decide) (by decide); (repeat' first | (refine List.forall_mem_cons.mpr ⟨?_, ?_⟩) | exact (fun x hx => nomatch hx)) <;> (first | (first | exact sb_non.up (by decide) (by decide) | exact sb_bl.up (by decide) (by decide) | exact (sb_int (by first | assumption | (unfold Sm; decide))).up (by decide) (by decide)) | (refine (sb_tup (k := 0) (n := 200) (m := 3) ?_ (Nat.le_of_ble_eq_true rfl)).up (by decide) (by decide); (repeat' first | (refine List.forall_mem_cons.mpr ⟨?_, ?_⟩) | exact (fun x hx => nomatch hx)) <;> (first | exact sb_non.up (by decide) (by decide) | exact sb_bl.up (by decide) (by decide) | exact (sb_int (by first | assumption | (unfold Sm; decide))).up (by decide) (by decide))) | (refine (sb_lst (k := 0) (n := 200) (m := 3) ?_ (Nat.le_of_ble_eq_true rfl)).up (by decide) (by decide); (repeat' first | (refine List.forall_mem_cons.mpr ⟨?_, ?_⟩) | exact (fun x hx => nomatch hx)) <;> (first | exact sb_non.up (by decide) (by decide) | exact sb_bl.up (by decide) (by decide) | exact (sb_int (by first | assumption | (unfold Sm; decide))).up (by decide) (by decide))))))))⟩
    · exact ⟨rfl, rfl, by (refine And.intro (Nat.le_of_ble_eq_true rfl) ?_; (repeat' first | (refine List.forall_mem_cons.mpr ⟨?_, ?_⟩) | exact (fun x hx => nomatch hx)) <;> (repeat' first | exact True.intro | assumption | (refine And.intro ?_ ?_) | (unfold Sm; decide))), by (refine sb_show (k := 3) (n := 6700) ?_ (by decide) (by decide); first | (first | exact sb_non.up (by decide) (by decide) | exact sb_bl.up (by decide) (by decide) | exact (sb_int (by first | assumption | (unfold Sm; decide))).up (by decide) (by decide)) | (refine (sb_lst (k := 2) (n := 2200) (m := 3) ?_ (Nat.le_of_ble_eq_true rfl)).up (by decide) (by decide); (repeat' first | (refine List.forall_mem_cons.mpr ⟨?_, ?_⟩) | exact (fun x hx => nomatch hx)) <;> (first | (first | exact sb_non.up (by decide) (by decide) | exact sb_bl.up (by decide) (by decide) | exact (sb_int (by first | assumption | (unfold Sm; decide))).up (by decide) (by decide)) | (refine (sb_tup (k := 1) (n := 700) (m := 3) ?_ (Nat.le_of_ble_eq_true rfl)).up (by decide) (by decide); (repeat' first | (refine List.forall_mem_cons.mpr ⟨?_, ?_⟩) | exact (fun x hx => nomatch hx)) <;> (first | (first | exact sb_non.up (by decide) (by decide) | exact sb_bl.up (by decide) (by decide) | exact (sb_int (by first | assumption | (unfold Sm; decide))).up (by decide) (by decide)) | (refine (sb_tup (k := 0) (n := 200) (m := 3) ?_ (Nat.le_of_ble_eq_true rfl)).up (by decide) (by decide); (repeat' first | (refine List.forall_mem_cons.mpr ⟨?_, ?_⟩) | exact (fun x hx => nomatch hx)) <;> (first | exact sb_non.up (by decide) (by decide) | exact sb_bl.up (by decide) (by decide) | exact (sb_int (by first | assumption | (unfold Sm; decide))).up (by decide) (by decide))) | (refine (sb_lst (k := 0) (n := 200) (m := 3) ?_ (Nat.le_of_ble_eq_true rfl)).up (by decide) (by decide); (repeat' first | (refine List.forall_mem_cons.mpr ⟨?_, ?_⟩) | exact (fun x hx => nomatch hx)) <;> (first | exact sb_non.up (by decide) (by decide) | exact sb_bl.up (by decide) (by decide) | exact (sb_int (by first | assumption | (unfold Sm; decide))).up (by decide) (by decide))))) | (refine (sb_lst (k := 1) (n := 700) (m := 3) ?_ (Nat.le_of_ble_eq_true rfl)).up (by decide) (by decide); (repeat' first | (refine List.forall_mem_cons.mpr ⟨?_, ?_⟩) | exact (fun x hx => nomatch hx)) <;> (first | (first | exact sb_non.up (by decide) (by decide) | exact sb_bl.up (by decide) (by decide) | exact (sb_int (by first | assumption | (unfold Sm; decide))).up (by decide) (by decide)) | (refine (sb_tup (k := 0) (n := 200) (m := 3) ?_ (Nat.le_of_ble_eq_true rfl)).up (by decide) (by decide); (repeat' first | (refine List.forall_mem_cons.mpr ⟨?_, ?_⟩) | exact (fun x hx => nomatch hx)) <;> (first | exact sb_non.up (by decide) (by decide) | exact sb_bl.up (by decide) (by decide) | exact (sb_int (by first | assumption | (unfold Sm; decide))).up (by decide) (by decide))) | (refine (sb_lst (k := 0) (n := 200) (m := 3) ?_ (Nat.le_of_ble_eq_true rfl)).up (by decide) (by decide); (repeat' first | (refine List.forall_mem_cons.mpr ⟨?_, ?_⟩) | exact (fun x hx => nomatch hx)) <;> (first | exact sb_non.up (by decide) (by decide) | exact sb_bl.up (by decide) (by decide) | exact (sb_int (by first | assumption | (unfold Sm; decide))).up (by decide) (by decide))))))))⟩
    · exact ⟨by decide, rfl, by (refine And.intro (Nat.le_of_ble_eq_true rfl) ?_; (repeat' first | (refine List.forall_mem_cons.mpr ⟨?_, ?_⟩) | exact (fun x hx => nomatch hx)) <;> (repeat' first | exact True.intro | assumption | (refine And.intro ?_ ?_) | (unfold Sm; decide))), by (refine sb_show (k := 3) (n := 6700) ?_ (by decide) (by decide); first | (first | exact sb_non.up (by decide) (by decide) | exact sb_bl.up (by decide) (by decide) | exact (sb_int (by first | assumption | (unfold Sm; decide))).up (by decide) (by decide)) | (refine (sb_lst (k := 2) (n := 2200) (m := 3) ?_ (Nat.le_of_ble_eq_true rfl)).up (by decide) (by decide); (repeat' first | (refine List.forall_mem_cons.mpr ⟨?_, ?_⟩) | exact (fun x hx => nomatch hx)) <;> (first | (first | exact sb_non.up (by decide) (by decide) | exact sb_bl.up (by decide) (by decide) | exact (sb_int (by first | assumption | (unfold Sm; decide))).up (by decide) (by decide)) | (refine (sb_tup (k := 1) (n := 700) (m := 3) ?_ (Nat.le_of_ble_eq_true rfl)).up (by decide) (by decide); (repeat' first | (refine List.forall_mem_cons.mpr ⟨?_, ?_⟩) | exact (fun x hx => nomatch hx)) <;> (first | (first | exact sb_non.up (by decide) (by decide) | exact sb_bl.up (by decide) (by decide) | exact (sb_int (by first | assumption | (unfold Sm; decide))).up (by decide) (by decide)) | (refine (sb_tup (k := 0) (n := 200) (m := 3) ?_ (Nat.le_of_ble_eq_true rfl)).up (by decide) (by decide); (repeat' first | (refine List.forall_mem_cons.mpr ⟨?_, ?_⟩) | exact (fun x hx => nomatch hx)) <;> (first | exact sb_non.up (by decide) (by decide) | exact sb_bl.up (by decide) (by decide) | exact (sb_int (by first | assumption | (unfold Sm; decide))).up (by decide) (by decide))) | (refine (sb_lst (k := 0) (n := 200) (m := 3) ?_ (Nat.le_of_ble_eq_true rfl)).up (by decide) (by decide); (repeat' first | (refine List.forall_mem_cons.mpr ⟨?_, ?_⟩) | exact (fun x hx => nomatch hx)) <;> (first | exact sb_non.up (by decide) (by decide) | exact sb_bl.up (by decide) (by decide) | exact (sb_int (by first | assumption | (unfold Sm; decide))).up (by decide) (by decide))))) | (refine (sb_lst (k := 1) (n := 700) (m := 3) ?_ (Nat.le_of_ble_eq_true rfl)).up (by decide) (by decide); (repeat' first | (refine List.forall_mem_cons.mpr ⟨?_, ?_⟩) | exact (fun x hx => nomatch hx)) <;> (first | (first | exact sb_non.up (by decide) (by decide) | exact sb_bl.up (by decide) (by decide) | exact (sb_int (by first | assumption | (unfold Sm; decide))).up (by decide) (by decide)) | (refine (sb_tup (k := 0) (n := 200) (m := 3) ?_ (Nat.le_of_ble_eq_true rfl)).up (by decide) (by decide); (repeat' first | (refine List.forall_mem_cons.mpr ⟨?_, ?_⟩) | exact (fun x hx => nomatch hx)) <;> (first | exact sb_non.up (by decide) (by decide) | exact sb_bl.up (by decide) (by decide) | exact (sb_int (by first | assumption | (unfold Sm; decide))).up (by decide) (by decide))) | (refine (sb_lst (k := 0) (n := 200) (m := 3) ?_ (Nat.le_of_ble_eq_true rfl)).up (by decide) (by decide); (repeat' first | (refine List.forall_mem_cons.mpr ⟨?_, ?_⟩) | exact (fun x hx => nomatch hx)) <;> (first | exact sb_non.up (by decide) (by decide) | exact sb_bl.up (by decide) (by decide) | exact (sb_int (by first | assumption | (unfold Sm; decide))).up (by decide) (by decide))))))))⟩
    · exact ⟨rfl, rfl, by (refine And.intro (Nat.le_of_ble_eq_true rfl) ?_; (repeat' first | (refine List.forall_mem_cons.mpr ⟨?_, ?_⟩) | exact (fun x hx => nomatch hx)) <;> (repeat' first | exact True.intro | assumption | (refine And.intro ?_ ?_) | (unfold Sm; decide))), by (refine sb_show (k := 3) (n := 6700) ?_ (by decide) (by decide); first | (first | exact sb_non.up (by decide) (by decide) | exact sb_bl.up (by decide) (by decide) | exact (sb_int (by first | assumption | (unfold Sm; decide))).up (by decide) (by decide)) | (refine (sb_lst (k := 2) (n := 2200) (m := 3) ?_ (Nat.le_of_ble_eq_true rfl)).up (by decide) (by decide); (repeat' first | (refine List.forall_mem_cons.mpr ⟨?_, ?_⟩) | exact (fun x hx => nomatch hx)) <;> (first | (first | exact sb_non.up (by decide) (by decide) | exact sb_bl.up (by decide) (by decide) | exact (sb_int (by first | assumption | (unfold Sm; decide))).up (by decide) (by decide)) | (refine (sb_tup (k := 1) (n := 700) (m := 3) ?_ (Nat.le_of_ble_eq_true rfl)).up (by decide) (by decide); (repeat' first | (refine List.forall_mem_cons.mpr ⟨?_, ?_⟩) | exact (fun x hx => nomatch hx)) <;> (first | (first | exact sb_non.up (by decide) (by decide) | exact sb_bl.up (by decide) (by decide) | exact (sb_int (by first | assumption | (unfold Sm; decide))).up (by decide) (by decide)) | (refine (sb_tup (k := 0) (n := 200) (m := 3) ?_ (Nat.le_of_ble_eq_true rfl)).up (by decide) (by decide); (repeat' first | (refine List.forall_mem_cons.mpr ⟨?_, ?_⟩) | exact (fun x hx => nomatch hx)) <;> (first | exact sb_non.up (by decide) (by decide) | exact sb_bl.up (by decide) (by decide) | exact (sb_int (by first | assumption | (unfold Sm; decide))).up (by decide) (by decide))) | (refine (sb_lst (k := 0) (n := 200) (m := 3) ?_ (Nat.le_of_ble_eq_true rfl)).up (by decide) (by decide); (repeat' first | (refine List.forall_mem_cons.mpr ⟨?_, ?_⟩) | exact (fun x hx => nomatch hx)) <;> (first | exact sb_non.up (by decide) (by decide) | exact sb_bl.up (by decide) (by decide) | exact (sb_int (by first | assumption | (unfold Sm; decide))).up (by decide) (by decide))))) | (refine (sb_lst (k := 1) (n := 700) (m := 3) ?_ (Nat.le_of_ble_eq_true rfl)).up (by decide) (by decide); (repeat' first | (refine List.forall_mem_cons.mpr ⟨?_, ?_⟩) | exact (fun x hx => nomatch hx)) <;> (first | (first | exact sb_non.up (by decide) (by decide) | exact sb_bl.up (by decide) (by decide) | exact (sb_int (by first | assumption | (unfold Sm; decide))).up (by decide) (by decide)) | (refine (sb_tup (k := 0) (n := 200) (m := 3) ?_ (Nat.le_of_ble_eq_true rfl)).up (by decide) (by decide); (repeat' first | (refine List.forall_mem_cons.mpr ⟨?_, ?_⟩) | exact (fun x hx => nomatch hx)) <;> (first | exact sb_non.up (by decide) (by decide) | exact sb_bl.up (by decide) (by decide) | exact (sb_int (by first | assumption | (unfold Sm; decide))).up (by decide) (by decide))) | (refine (sb_lst (k := 0) (n := 200) (m := 3) ?_ (Nat.le_of_ble_eq_true rfl)).up (by decide) (by decide); (repeat' first | (refine List.forall_mem_cons.mpr ⟨?_, ?_⟩) | exact (fun x hx => nomatch hx)) <;> (first | exact sb_non.up (by decide) (by decide) | exact sb_bl.up (by decide) (by decide) | exact (sb_int (by first | assumption | (unfold Sm; decide))).up (by decide) (by decide))))))))⟩
    · exact ⟨rfl, rfl, by (refine And.intro (Nat.le_of_ble_eq_true rfl) ?_; (repeat' first | (refine List.forall_mem_cons.mpr ⟨?_, ?_⟩) | exact (fun x hx => nomatch hx)) <;> (repeat' first | exact True.intro | assumption | (refine And.intro ?_ ?_) | (unfold Sm; decide))), by (refine sb_show (k := 3) (n := 6700) ?_ (by decide) (by decide); first | (first | exact sb_non.up (by decide) (by decide) | exact sb_bl.up (by decide) (by decide) | exact (sb_int (by first | assumption | (unfold Sm; decide))).up (by decide) (by decide)) | (refine (sb_lst (k := 2) (n := 2200) (m := 3) ?_ (Nat.le_of_ble_eq_true rfl)).up (by decide) (by decide); (repeat' first | (refine List.forall_mem_cons.mpr ⟨?_, ?_⟩) | exact (fun x hx => nomatch hx)) <;> (first | (first | exact sb_non.up (by decide) (by decide) | exact sb_bl.up (by decide) (by decide) | exact (sb_int (by first | assumption | (unfold Sm; decide))).up (by decide) (by decide)) | (refine (sb_tup (k := 1) (n := 700) (m := 3) ?_ (Nat.le_of_ble_eq_true rfl)).up (by decide) (by decide); (repeat' first | (refine List.forall_mem_cons.mpr ⟨?_, ?_⟩) | exact (fun x hx => nomatch hx)) <;> (first | (first | exact sb_non.up (by decide) (by decide) | exact sb_bl.up (by decide) (by decide) | exact (sb_int (by first | assumption | (unfold Sm; decide))).up (by decide) (by decide)) | (refine (sb_tup (k := 0) (n := 200) (m := 3) ?_ (Nat.le_of_ble_eq_true rfl)).up (by decide) (by decide); (repeat' first | (refine List.forall_mem_cons.mpr ⟨?_, ?_⟩) | exact (fun x hx => nomatch hx)) <;> (first | exact sb_non.up (by decide) (by decide) | exact sb_bl.up (by decide) (by decide) | exact (sb_int (by first | assumption | (unfold Sm; decide))).up (by decide) (by decide))) | (refine (sb_lst (k := 0) (n := 200) (m := 3) ?_ (Nat.le_of_ble_eq_true rfl)).up (by decide) (by decide); (repeat' first | (refine List.forall_mem_cons.mpr ⟨?_, ?_⟩) | exact (fun x hx => nomatch hx)) <;> (first | exact sb_non.up (by decide) (by decide) | exact sb_bl.up (by decide) (by decide) | exact (sb_int (by first | assumption | (unfold Sm; decide))).up (by decide) (by decide))))) | (refine (sb_lst (k := 1) (n := 700) (m := 3) ?_ (Nat.le_of_ble_eq_true rfl)).up (by decide) (by decide); (repeat' first | (refine List.forall_mem_cons.mpr ⟨?_, ?_⟩) | exact (fun x hx => nomatch hx)) <;> (first | (first | exact sb_non.up (by decide) (by decide) | exact sb_bl.up (by decide) (by decide) | exact (sb_int (by first | assumption | (unfold Sm; decide))).up (by decide) (by decide)) | (refine (sb_tup (k := 0) (n := 200) (m := 3) ?_ (Nat.le_of_ble_eq_true rfl)).up (by decide) (by decide); (repeat' first | (refine List.forall_mem_cons.mpr ⟨?_, ?_⟩) | exact (fun x hx => nomatch hx)) <;> (first | exact sb_non.up (by decide) (by decide) | exact sb_bl.up (by decide) (by decide) | exact (sb_int (by first | assumption | (unfold Sm; decide))).up (by decide) (by decide))) | (refine (sb_lst (k := 0) (n := 200) (m := 3) ?_ (Nat.le_of_ble_eq_true rfl)).up (by decide) (by decide); (repeat' first | (refine List.forall_mem_cons.mpr ⟨?_, ?_⟩) | exact (fun x hx => nomatch hx)) <;> (first | exact sb_non.up (by decide) (by decide) | exact sb_bl.up (by decide) (by decide) | exact (sb_int (by first | assumption | (unfold Sm; decide))).up (by decide) (by decide))))))))⟩
    · exact ⟨by decide, rfl, by (refine And.intro (Nat.le_of_ble_eq_true rfl) ?_; (repeat' first | (refine List.forall_mem_cons.mpr ⟨?_, ?_⟩) | exact (fun x hx => nomatch hx)) <;> (repeat' first | exact True.intro | assumption | (refine And.intro ?_ ?_) | (unfold Sm; decide))), by (refine sb_show (k := 3) (n := 6700) ?_ (by decide) (by decide); first | (first | exact sb_non.up (by decide) (by decide) | exact sb_bl.up (by decide) (by decide) | exact (sb_int (by first | assumption | (unfold Sm; decide))).up (by decide) (by decide)) | (refine (sb_lst (k := 2) (n := 2200) (m := 3) ?_ (Nat.le_of_ble_eq_true rfl)).up (by decide) (by decide); (repeat' first | (refine List.forall_mem_cons.mpr ⟨?_, ?_⟩) | exact (fun x hx => nomatch hx)) <;> (first | (first | exact sb_non.up (by decide) (by decide) | exact sb_bl.up (by decide) (by decide) | exact (sb_int (by first | assumption | (unfold Sm; decide))).up (by decide) (by decide)) | (refine (sb_tup (k := 1) (n := 700) (m := 3) ?_ (Nat.le_of_ble_eq_true rfl)).up (by decide) (by decide); (repeat' first | (refine List.forall_mem_cons.mpr ⟨?_, ?_⟩) | exact (fun x hx => nomatch hx)) <;> (first | (first | exact sb_non.up (by decide) (by decide) | exact sb_bl.up (by decide) (by decide) | exact (sb_int (by first | assumption | (unfold Sm; decide))).up (by decide) (by decide)) | (refine (sb_tup (k := 0) (n := 200) (m := 3) ?_ (Nat.le_of_ble_eq_true rfl)).up (by decide) (by decide); (repeat' first | (refine List.forall_mem_cons.mpr ⟨?_, ?_⟩) | exact (fun x hx => nomatch hx)) <;> (first | exact sb_non.up (by decide) (by decide) | exact sb_bl.up (by decide) (by decide) | exact (sb_int (by first | assumption | (unfold Sm; decide))).up (by decide) (by decide))) | (refine (sb_lst (k := 0) (n := 200) (m := 3) ?_ (Nat.le_of_ble_eq_true rfl)).up (by decide) (by decide); (repeat' first | (refine List.forall_mem_cons.mpr ⟨?_, ?_⟩) | exact (fun x hx => nomatch hx)) <;> (first | exact sb_non.up (by decide) (by decide) | exact sb_bl.up (by decide) (by decide) | exact (sb_int (by first | assumption | (unfold Sm; decide))).up (by decide) (by decide))))) | (refine (sb_lst (k := 1) (n := 700) (m := 3) ?_ (Nat.le_of_ble_eq_true rfl)).up (by decide) (by decide); (repeat' first | (refine List.forall_mem_cons.mpr ⟨?_, ?_⟩) | exact (fun x hx => nomatch hx)) <;> (first | (first | exact sb_non.up (by decide) (by decide) | exact sb_bl.up (by decide) (by decide) | exact (sb_int (by first | assumption | (unfold Sm; decide))).up (by decide) (by decide)) | (refine (sb_tup (k := 0) (n := 200) (m := 3) ?_ (Nat.le_of_ble_eq_true rfl)).up (by decide) (by decide); (repeat' first | (refine List.forall_mem_cons.mpr ⟨?_, ?_⟩) | exact (fun x hx => nomatch hx)) <;> (first | exact sb_non.up (by decide) (by decide) | exact sb_bl.up (by decide) (by decide) | exact (sb_int (by first | assumption | (unfold Sm; decide))).up (by decide) (by decide))) | (refine (sb_lst (k := 0) (n := 200) (m := 3) ?_ (Nat.le_of_ble_eq_true rfl)).up (by decide) (by decide); (repeat' first | (refine List.forall_mem_cons.mpr ⟨?_, ?_⟩) | exact (fun x hx => nomatch hx)) <;> (first | exact sb_non.up (by decide) (by decide) | exact sb_bl.up (by decide) (by decide) | exact (sb_int (by first | assumption | (unfold Sm; decide))).up (by decide) (by decide))))))))⟩
    · exact ⟨by decide, rfl, by (refine And.intro (Nat.le_of_ble_eq_true rfl) ?_; (repeat' first | (refine List.forall_mem_cons.mpr ⟨?_, ?_⟩) | exact (fun x hx => nomatch hx)) <;> (repeat' first | exact True.intro | assumption | (refine And.intro ?_ ?_) | (unfold Sm; decide))), by (refine sb_show (k := 3) (n := 6700) ?_ (by decide) (by decide); first | (first | exact sb_non.up (by decide) (by decide) | exact sb_bl.up (by decide) (by decide) | exact (sb_int (by first | assumption | (unfold Sm; decide))).up (by decide) (by decide)) | (refine (sb_lst (k := 2) (n := 2200) (m := 3) ?_ (Nat.le_of_ble_eq_true rfl)).up (by decide) (by decide); (repeat' first | (refine List.forall_mem_cons.mpr ⟨?_, ?_⟩) | exact (fun x hx => nomatch hx)) <;> (first | (first | exact sb_non.up (by decide) (by decide) | exact sb_bl.up (by decide) (by decide) | exact (sb_int (by first | assumption | (unfold Sm; decide))).up (by decide) (by decide)) | (refine (sb_tup (k := 1) (n := 700) (m := 3) ?_ (Nat.le_of_ble_eq_true rfl)).up (by decide) (by decide); (repeat' first | (refine List.forall_mem_cons.mpr ⟨?_, ?_⟩) | exact (fun x hx => nomatch hx)) <;> (first | (first | exact sb_non.up (by decide) (by decide) | exact sb_bl.up (by decide) (by decide) | exact (sb_int (by first | assumption | (unfold Sm; decide))).up (by decide) (by decide)) | (refine (sb_tup (k := 0) (n := 200) (m := 3) ?_ (Nat.le_of_ble_eq_true rfl)).up (by decide) (by decide); (repeat' first | (refine List.forall_mem_cons.mpr ⟨?_, ?_⟩) | exact (fun x hx => nomatch hx)) <;> (first | exact sb_non.up (by decide) (by decide) | exact sb_bl.up (by decide) (by decide) | exact (sb_int (by first | assumption | (unfold Sm; decide))).up (by decide) (by decide))) | (refine (sb_lst (k := 0) (n := 200) (m := 3) ?_ (Nat.le_of_ble_eq_true rfl)).up (by decide) (by decide); (repeat' first | (refine List.forall_mem_cons.mpr ⟨?_, ?_⟩) | exact (fun x hx => nomatch hx)) <;> (first | exact sb_non.up (by decide) (by decide) | exact sb_bl.up (by decide) (by decide) | exact (sb_int (by first | assumption | (unfold Sm; decide))).up (by decide) (by decide))))) | (refine (sb_lst (k := 1) (n := 700) (m := 3) ?_ (Nat.le_of_ble_eq_true rfl)).up (by decide) (by decide); (repeat' first | (refine List.forall_mem_cons.mpr ⟨?_, ?_⟩) | exact (fun x hx => nomatch hx)) <;> (first | (first | exact sb_non.up (by decide) (by decide) | exact sb_bl.up (by decide) (by decide) | exact (sb_int (by first | assumption | (unfold Sm; decide))).up (by decide) (by decide)) | (refine (sb_tup (k := 0) (n := 200) (m := 3) ?_ (Nat.le_of_ble_eq_true rfl)).up (by decide) (by decide); (repeat' first | (refine List.forall_mem_cons.mpr ⟨?_, ?_⟩) | exact (fun x hx => nomatch hx)) <;> (first | exact sb_non.up (by decide) (by decide) | exact sb_bl.up (by decide) (by decide) | exact (sb_int (by first | assumption | (unfold Sm; decide))).up (by decide) (by decide))) | (refine (sb_lst (k := 0) (n := 200) (m := 3) ?_ (Nat.le_of_ble_eq_true rfl)).up (by decide) (by decide); (repeat' first | (refine List.forall_mem_cons.mpr ⟨?_, ?_⟩) | exact (fun x hx => nomatch hx)) <;> (first | exact sb_non.up (by decide) (by decide) | exact sb_bl.up (by decide) (by decide) | exact (sb_int (by first | assumption | (unfold Sm; decide))).up (by decide) (by decide))))))))⟩
    · exact ⟨by decide, rfl, by (refine And.intro (Nat.le_of_ble_eq_true rfl) ?_; (repeat' first | (refine List.forall_mem_cons.mpr ⟨?_, ?_⟩) | exact (fun x hx => nomatch hx)) <;> (repeat' first | exact True.intro | assumption | (refine And.intro ?_ ?_) | (unfold Sm; decide))), by (refine sb_show (k := 3) (n := 6700) ?_ (by decide) (by decide); first | (first | exact sb_non.up (by decide) (by decide) | exact sb_bl.up (by decide) (by decide) | exact (sb_int (by first | assumption | (unfold Sm; decide))).up (by decide) (by decide)) | (refine (sb_lst (k := 2) (n := 2200) (m := 3) ?_ (Nat.le_of_ble_eq_true rfl)).up (by decide) (by decide); (repeat' first | (refine List.forall_mem_cons.mpr ⟨?_, ?_⟩) | exact (fun x hx => nomatch hx)) <;> (first | (first | exact sb_non.up (by decide) (by decide) | exact sb_bl.up (by decide) (by decide) | exact (sb_int (by first | assumption | (unfold Sm; decide))).up (by decide) (by decide)) | (refine (sb_tup (k := 1) (n := 700) (m := 3) ?_ (Nat.le_of_ble_eq_true rfl)).up (by decide) (by decide); (repeat' first | (refine List.forall_mem_cons.mpr ⟨?_, ?_⟩) | exact (fun x hx => nomatch hx)) <;> (first | (first | exact sb_non.up (by decide) (by decide) | exact sb_bl.up (by decide) (by decide) | exact (sb_int (by first | assumption | (unfold Sm; decide))).up (by decide) (by decide)) | (refine (sb_tup (k := 0) (n := 200) (m := 3) ?_ (Nat.le_of_ble_eq_true rfl)).up (by decide) (by decide); (repeat' first | (refine List.forall_mem_cons.mpr ⟨?_, ?_⟩) | exact (fun x hx => nomatch hx)) <;> (first | exact sb_non.up (by decide) (by decide) | exact sb_bl.up (by decide) (by decide) | exact (sb_int (by first | assumption | (unfold Sm; decide))).up (by decide) (by decide))) | (refine (sb_lst (k := 0) (n := 200) (m := 3) ?_ (Nat.le_of_ble_eq_true rfl)).up (by decide) (by decide); (repeat' first | (refine List.forall_mem_cons.mpr ⟨?_, ?_⟩) | exact (fun x hx => nomatch hx)) <;> (first | exact sb_non.up (by decide) (by decide) | exact sb_bl.up (by decide) (by decide) | exact (sb_int (by first | assumption | (unfold Sm; decide))).up (by decide) (by decide))))) | (refine (sb_lst (k := 1) (n := 700) (m := 3) ?_ (Nat.le_of_ble_eq_true rfl)).up (by decide) (by decide); (repeat' first | (refine List.forall_mem_cons.mpr ⟨?_, ?_⟩) | exact (fun x hx => nomatch hx)) <;> (first | (first | exact sb_non.up (by decide) (by decide) | exact sb_bl.up (by decide) (by decide) | exact (sb_int (by first | assumption | (unfold Sm; decide))).up (by decide) (by decide)) | (refine (sb_tup (k := 0) (n := 200) (m := 3) ?_ (Nat.le_of_ble_eq_true rfl)).up (by decide) (by decide); (repeat' first | (refine List.forall_mem_cons.mpr ⟨?_, ?_⟩) | exact (fun x hx => nomatch hx)) <;> (first | exact sb_non.up (by decide) (by decide) | exact sb_bl.up (by decide) (by decide) | exact (sb_int (by first | assumption | (unfold Sm; decide))).up (by decide) (by decide))) | (refine (sb_lst (k := 0) (n := 200) (m := 3) ?_ (Nat.le_of_ble_eq_true rfl)).up (by decide) (by decide); (repeat' first | (refine List.forall_mem_cons.mpr ⟨?_, ?_⟩) | exact (fun x hx => nomatch hx)) <;> (first | exact sb_non.up (by decide) (by decide) | exact sb_bl.up (by decide) (by decide) | exact (sb_int (by first | assumption | (unfold Sm; decide))).up (by decide) (by decide))))))))⟩
    · exact ⟨by decide, rfl, by (refine And.intro (Nat.le_of_ble_eq_true rfl) ?_; (repeat' first | (refine List.forall_mem_cons.mpr ⟨?_, ?_⟩) | exact (fun x hx => nomatch hx)) <;> (repeat' first | exact True.intro | assumption | (refine And.intro ?_ ?_) | (unfold Sm; decide))), by (refine sb_show (k := 3) (n := 6700) ?_ (by decide) (by decide); first | (first | exact sb_non.up (by decide) (by decide) | exact sb_bl.up (by decide) (by decide) | exact (sb_int (by first | assumption | (unfold Sm; decide))).up (by decide) (by decide)) | (refine (sb_lst (k := 2) (n := 2200) (m := 3) ?_ (Nat.le_of_ble_eq_true rfl)).up (by decide) (by decide); (repeat' first | (refine List.forall_mem_cons.mpr ⟨?_, ?_⟩) | exact (fun x hx => nomatch hx)) <;> (first | (first | exact sb_non.up (by decide) (by decide) | exact sb_bl.up (by decide) (by decide) | exact (sb_int (by first | assumption | (unfold Sm; decide))).up (by decide) (by decide)) | (refine (sb_tup (k := 1) (n := 700) (m := 3) ?_ (Nat.le_of_ble_eq_true rfl)).up (by decide) (by decide); (repeat' first | (refine List.forall_mem_cons.mpr ⟨?_, ?_⟩) | exact (fun x hx => nomatch hx)) <;> (first | (first | exact sb_non.up (by decide) (by decide) | exact sb_bl.up (by decide) (by decide) | exact (sb_int (by first | assumption | (unfold Sm; decide))).up (by decide) (by decide)) | (refine (sb_tup (k := 0) (n := 200) (m := 3) ?_ (Nat.le_of_ble_eq_true rfl)).up (by decide) (by decide); (repeat' first | (refine List.forall_mem_cons.mpr ⟨?_, ?_⟩) | exact (fun x hx => nomatch hx)) <;> (first | exact sb_non.up (by decide) (by decide) | exact sb_bl.up (by decide) (by decide) | exact (sb_int (by first | assumption | (unfold Sm; decide))).up (by decide) (by decide))) | (refine (sb_lst (k := 0) (n := 200) (m := 3) ?_ (Nat.le_of_ble_eq_true rfl)).up (by decide) (by decide); (repeat' first | (refine List.forall_mem_cons.mpr ⟨?_, ?_⟩) | exact (fun x hx => nomatch hx)) <;> (first | exact sb_non.up (by decide) (by decide) | exact sb_bl.up (by decide) (by decide) | exact (sb_int (by first | assumption | (unfold Sm; decide))).up (by decide) (by decide))))) | (refine (sb_lst (k := 1) (n := 700) (m := 3) ?_ (Nat.le_of_ble_eq_true rfl)).up (by decide) (by decide); (repeat' first | (refine List.forall_mem_cons.mpr ⟨?_, ?_⟩) | exact (fun x hx => nomatch hx)) <;> (first | (first | exact sb_non.up (by decide) (by decide) | exact sb_bl.up (by decide) (by decide) | exact (sb_int (by first | assumption | (unfold Sm; decide))).up (by decide) (by decide)) | (refine (sb_tup (k := 0) (n := 200) (m := 3) ?_ (Nat.le_of_ble_eq_true rfl)).up (by decide) (by decide); (repeat' first | (refine List.forall_mem_cons.mpr ⟨?_, ?_⟩) | exact (fun x hx => nomatch hx)) <;> (first | exact sb_non.up (by decide) (by decide) | exact sb_bl.up (by decide) (by decide) | exact (sb_int (by first | assumption | (unfold Sm; decide))).up (by decide) (by decide))) | (refine (sb_lst (k := 0) (n := 200) (m := 3) ?_ (Nat.le_of_ble_eq_true rfl)).up (by decide) (by decide); (repeat' first | (refine List.forall_mem_cons.mpr ⟨?_, ?_⟩) | exact (fun x hx => nomatch hx)) <;> (first | exact sb_non.up (by decide) (by decide) | exact sb_bl.up (by decide) (by decide) | exact (sb_int (by first | assumption | (unfold Sm; decide))).up (by decide) (by decide))))))))⟩
    · exact ⟨by decide, rfl, by (refine And.intro (Nat.le_of_ble_eq_true rfl) ?_; (repeat' first | (refine List.forall_mem_cons.mpr ⟨?_, ?_⟩) | exact (fun x hx => nomatch hx)) <;> (repeat' first | exact True.intro | assumption | (refine And.intro ?_ ?_) | (unfold Sm; decide))), by (refine sb_show (k := 3) (n := 6700) ?_ (by decide) (by decide); first | (first | exact sb_non.up (by decide) (by decide) | exact sb_bl.up (by decide) (by decide) | exact (sb_int (by first | assumption | (unfold Sm; decide))).up (by decide) (by decide)) | (refine (sb_lst (k := 2) (n := 2200) (m := 3) ?_ (Nat.le_of_ble_eq_true rfl)).up (by decide) (by decide); (repeat' first | (refine List.forall_mem_cons.mpr ⟨?_, ?_⟩) | exact (fun x hx => nomatch hx)) <;> (first | (first | exact sb_non.up (by decide) (by decide) | exact sb_bl.up (by decide) (by decide) | exact (sb_int (by first | assumption | (unfold Sm; decide))).up (by decide) (by decide)) | (refine (sb_tup (k := 1) (n := 700) (m := 3) ?_ (Nat.le_of_ble_eq_true rfl)).up (by decide) (by decide); (repeat' first | (refine List.forall_mem_cons.mpr ⟨?_, ?_⟩) | exact (fun x hx => nomatch hx)) <;> (first | (first | exact sb_non.up (by decide) (by decide) | exact sb_bl.up (by decide) (by decide) | exact (sb_int (by first | assumption | (unfold Sm; decide))).up (by decide) (by decide)) | (refine (sb_tup (k := 0) (n := 200) (m := 3) ?_ (Nat.le_of_ble_eq_true rfl)).up (by decide) (by decide); (repeat' first | (refine List.forall_mem_cons.mpr ⟨?_, ?_⟩) | exact (fun x hx => nomatch hx)) <;> (first | exact sb_non.up (by decide) (by decide) | exact sb_bl.up (by decide) (by decide) | exact (sb_int (by first | assumption | (unfold Sm; decide))).up (by decide) (by decide))) | (refine (sb_lst (k := 0) (n := 200) (m := 3) ?_ (Nat.le_of_ble_eq_true rfl)).up (by decide) (by decide); (repeat' first | (refine List.forall_mem_cons.mpr ⟨?_, ?_⟩) | exact (fun x hx => nomatch hx)) <;> (first | exact sb_non.up (by decide) (by decide) | exact sb_bl.up (by decide) (by decide) | exact (sb_int (by first | assumption | (unfold Sm; decide))).up (by decide) (by decide))))) | (refine (sb_lst (k := 1) (n := 700) (m := 3) ?_ (Nat.le_of_ble_eq_true rfl)).up (by decide) (by decide); (repeat' first | (refine List.forall_mem_cons.mpr ⟨?_, ?_⟩) | exact (fun x hx => nomatch hx)) <;> (first | (first | exact sb_non.up (by decide) (by decide) | exact sb_bl.up (by decide) (by decide) | exact (sb_int (by first | assumption | (unfold Sm; decide))).up (by decide) (by decide)) | (refine (sb_tup (k := 0) (n := 200) (m := 3) ?_ (Nat.le_of_ble_eq_true rfl)).up (by decide) (by decide); (repeat' first | (refine List.forall_mem_cons.mpr ⟨?_, ?_⟩) | exact (fun x hx => nomatch hx)) <;> (first | exact sb_non.up (by decide) (by decide) | exact sb_bl.up (by decide) (by decide) | exact (sb_int (by first | assumption | (unfold Sm; decide))).up (by decide) (by decide))) | (refine (sb_lst (k := 0) (n := 200) (m := 3) ?_ (Nat.le_of_ble_eq_true rfl)).up (by decide) (by decide); (repeat' first | (refine List.forall_mem_cons.mpr ⟨?_, ?_⟩) | exact (fun x hx => nomatch hx)) <;> (first | exact sb_non.up (by decide) (by decide) | exact sb_bl.up (by decide) (by decide) | exact (sb_int (by first | assumption | (unfold Sm; decide))).up (by decide) (by decide))))))))⟩
    · exact ⟨by decide, rfl, by (refine And.intro (Nat.le_of_ble_eq_true rfl) ?_; (repeat' first | (refine List.forall_mem_cons.mpr ⟨?_, ?_⟩) | exact (fun x hx => nomatch hx)) <;> (repeat' first | exact True.intro | assumption | (refine And.intro ?_ ?_) | (unfold Sm; decide))), by (refine sb_show (k := 3) (n := 6700) ?_ (by decide) (by decide); first | (first | exact sb_non.up (by decide) (by decide) | exact sb_bl.up (by decide) (by decide) | exact (sb_int (by first | assumption | (unfold Sm; decide))).up (by decide) (by decide)) | (refine (sb_lst (k := 2) (n := 2200) (m := 3) ?_ (Nat.le_of_ble_eq_true rfl)).up (by decide) (by decide); (repeat' first | (refine List.forall_mem_cons.mpr ⟨?_, ?_⟩) | exact (fun x hx => nomatch hx)) <;> (first | (first | exact sb_non.up (by decide) (by decide) | exact sb_bl.up (by decide) (by decide) | exact (sb_int (by first | assumption | (unfold Sm; decide))).up (by decide) (by decide)) | (refine (sb_tup (k := 1) (n := 700) (m := 3) ?_ (Nat.le_of_ble_eq_true rfl)).up (by decide) (by decide); (repeat' first | (refine List.forall_mem_cons.mpr ⟨?_, ?_⟩) | exact (fun x hx => nomatch hx)) <;> (first | (first | exact sb_non.up (by decide) (by decide) | exact sb_bl.up (by decide) (by decide) | exact (sb_int (by first | assumption | (unfold Sm; decide))).up (by decide) (by decide)) | (refine (sb_tup (k := 0) (n := 200) (m := 3) ?_ (Nat.le_of_ble_eq_true rfl)).up (by decide) (by decide); (repeat' first | (refine List.forall_mem_cons.mpr ⟨?_, ?_⟩) | exact (fun x hx => nomatch hx)) <;> (first | exact sb_non.up (by decide) (by decide) | exact sb_bl.up (by decide) (by decide) | exact (sb_int (by first | assumption | (unfold Sm; decide))).up (by decide) (by decide))) | (refine (sb_lst (k := 0) (n := 200) (m := 3) ?_ (Nat.le_of_ble_eq_true rfl)).up (by decide) (by decide); (repeat' first | (refine List.forall_mem_cons.mpr ⟨?_, ?_⟩) | exact (fun x hx => nomatch hx)) <;> (first | exact sb_non.up (by decide) (by decide) | exact sb_bl.up (by decide) (by decide) | exact (sb_int (by first | assumption | (unfold Sm; decide))).up (by decide) (by decide))))) | (refine (sb_lst (k := 1) (n := 700) (m := 3) ?_ (Nat.le_of_ble_eq_true rfl)).up (by decide) (by decide); (repeat' first | (refine List.forall_mem_cons.mpr ⟨?_, ?_⟩) | exact (fun x hx => nomatch hx)) <;> (first | (first | exact sb_non.up (by decide) (by decide) | exact sb_bl.up (by decide) (by decide) | exact (sb_int (by first | assumption | (unfold Sm; decide))).up (by decide) (by decide)) | (refine (sb_tup (k := 0) (n := 200) (m := 3) ?_ (Nat.le_of_ble_eq_true rfl)).up (by decide) (by decide); (repeat' first | (refine List.forall_mem_cons.mpr ⟨?_, ?_⟩) | exact (fun x hx => nomatch hx)) <;> (first | exact sb_non.up (by decide) (by decide) | exact sb_bl.up (by decide) (by decide) | exact (sb_int (by first | assumption | (unfold Sm; decide))).up (by decide) (by decide))) | (refine (sb_lst (k := 0) (n := 200) (m := 3) ?_ (Nat.le_of_ble_eq_true rfl)).up (by decide) (by decide); (repeat' first | (refine List.forall_mem_cons.mpr ⟨?_, ?_⟩) | exact (fun x hx => nomatch hx)) <;> (first | exact sb_non.up (by decide) (by decide) | exact sb_bl.up (by decide) (by decide) | exact (sb_int (by first | assumption | (unfold Sm; decide))).up (by decide) (by decide))))))))⟩
end
theorem cut1 {x y : D} {zs : List D} : Y.cutD (x :: y :: zs) none (some 1) = [x] := by
  unfold Y.cutD
  rw [show HT.sIx (x :: y :: zs).length 0 none = 0 from rfl, show HT.sIx (x :: y :: zs).length (x :: y :: zs).length (some 1) = 1 from by
    show min 1 (zs.length + 1 + 1) = 1
    omega]
  rfl
theorem cut2 {x y : D} {zs : List D} : Y.cutD (x :: y :: zs) (some 1) none = y :: zs := by
  unfold Y.cutD
  rw [show HT.sIx (x :: y :: zs).length (x :: y :: zs).length none = zs.length + 1 + 1 from rfl, show HT.sIx (x :: y :: zs).length 0 (some 1) = 1 from by
    show min 1 (zs.length + 1 + 1) = 1
    omega]
  show (y :: zs).take (zs.length + 1 + 1 - 1) = _
  rw [List.take_of_length_le (by simp)]
/-- the four lists that are turned about or have one twice -/
theorem turned_wrong {g : List PQ} {bs : List Bool} {s t : SpT} {r : List SpT} (G : GridOk g) (hsp : spansF [] g bs = s :: t :: r) (hl : (s :: t :: r).length ≤ 15) :
    ∀ d ∈ [D.lst (((s :: t :: r).map toS).reverse), .lst ((s :: t :: r).map toS ++ [toS s]), .lst ([toS s] ++ (s :: t :: r).map toS), .lst ((t :: r).map toS ++ [toS s])], Wrong d := by
  have m := spans_mem (G := g) g bs [] (fun p h => h) (fun s hs => by cases hs)
  have wf : wfS (some (-1, 1)) (s :: t :: r) = true := by
    rw [← hsp]
    exact wf_all g bs (-1, 1) (fun p h => (G.ok p h).bot) G.inc fun p h => neg_lt (G.ok p h) (by decide) (by decide)
  rw [hsp] at m
  have pw := (wf_lt _ _ (by decide) (fun x hx => ⟨(G.ok _ (m x hx).1).bot, fun q z => (G.ok _ ((m x hx).2 q z)).bot⟩) wf).2
  have st : ltP s.1 t.1 := (List.pairwise_cons.mp pw).1 t (List.mem_cons_self ..)
  have irr : ¬ ltP s.1 s.1 := nlt_of_le (Int.le_refl _)
  have ts : ¬ ltP t.1 s.1 := nlt_of_le (lt_le st)
  have hl' : r.length + 1 + 1 ≤ 15 := hl
  intro d hd
  simp only [List.mem_cons, List.not_mem_nil, or_false] at hd
  rcases hd with rfl | rfl | rfl | rfl
  · rw [← List.map_reverse]
    refine wrong_list G hsp (fun x hx => List.mem_reverse.mp hx) (by rw [List.length_reverse]; exact Nat.le_trans hl (by decide)) fun z => ?_
    rw [List.pairwise_reverse, List.pairwise_cons] at z
    exact ts (z.1 t (List.mem_cons_self ..))
  · rw [show (s :: t :: r).map toS ++ [toS s] = ((s :: t :: r) ++ [s]).map toS by rw [List.map_append]; rfl]
    refine wrong_list G hsp (fun x hx => ?_) (by rw [List.length_append]; simp only [List.length_cons, List.length_nil]; omega) fun z => ?_
    · rcases List.mem_append.mp hx with hx | hx
      · exact hx
      · rw [List.mem_singleton.mp hx]
        exact List.mem_cons_self ..
    · exact irr ((List.pairwise_append.mp z).2.2 s (List.mem_cons_self ..) s (List.mem_singleton.mpr rfl))
  · refine wrong_list (l := s :: s :: t :: r) G hsp (fun x hx => ?_) (by simp only [List.length_cons]; omega) fun z => ?_
    · rcases List.mem_cons.mp hx with rfl | hx
      · exact List.mem_cons_self ..
      · exact hx
    · exact irr ((List.pairwise_cons.mp z).1 s (List.mem_cons_self ..))
  · rw [show (t :: r).map toS ++ [toS s] = ((t :: r) ++ [s]).map toS by rw [List.map_append]; rfl]
    refine wrong_list G hsp (fun x hx => ?_) (by rw [List.length_append]; simp only [List.length_cons, List.length_nil]; omega) fun z => ?_
    · rcases List.mem_append.mp hx with hx | hx
      · exact List.mem_cons_of_mem _ hx
      · rw [List.mem_singleton.mp hx]
        exact List.mem_cons_self ..
    · exact ts ((List.pairwise_append.mp z).2.2 t (List.mem_cons_self ..) s (List.mem_singleton.mpr rfl))
theorem sl_eq {ds es : List D} {lo hi : Option Int} {R : Res → Prop} (e : Y.cutD ds lo hi = es) (h : R (.own es)) : SlD (.lst ds) lo hi R := by
  subst e
  exact h
theorem cut_from {rows : List Int} {i : Nat} (h : i ≤ rows.length) : Y.cutD (rows.map D.int) (some (i : Int)) none = (rows.drop i).map D.int := by
  unfold Y.cutD
  rw [HT.sIx_nat, HT.sIx_none, Nat.min_eq_left (by rw [List.length_map]; exact h), ← List.map_drop, List.take_of_length_le (by simp)]
end Wd
end

section
namespace Wd
open PySem PySem.Spec PyProof.Rows L2 Y
/-! ### sets of widths, put together -/
def gap (s t : SpT) : Prop := ∃ h, s.2 = some h ∧ ltP h t.1
structure WF (l : List SpT) : Prop where
  up : ∀ s ∈ l, below s.1 s.2 = true
  ap : l.Pairwise gap
structure In (G : List PQ) (l : List SpT) : Prop where
  lo : ∀ s ∈ l, s.1 ∈ G
  hi : ∀ s ∈ l, ∀ h, s.2 = some h → h ∈ G
def Asc (l : List SpT) : Prop := l.Pairwise fun s t => leP s.1 t.1
def Grd (G : List PQ) : Prop := ∀ p ∈ G, POk p
theorem up_lt {s : SpT} {h : PQ} (u : below s.1 s.2 = true) (e : s.2 = some h) : ltP s.1 h := by
  rw [e] at u
  exact of_decide_eq_true u
theorem ins_lt {w : PQ} {s : SpT} (h : ltP w s.1) : inS w s = false := by
  unfold inS
  rw [decide_eq_true h]
  rfl
theorem hasS_false {w : PQ} {l : List SpT} (h : ∀ s ∈ l, inS w s = false) : hasS w l = false := by
  unfold hasS
  rw [List.any_eq_false]
  intro s hs
  rw [h s hs]
  exact Bool.false_ne_true
theorem hasS_app {w : PQ} {l r : List SpT} : hasS w (l ++ r) = (hasS w l || hasS w r) := List.any_append
theorem hasS_one {w : PQ} {s : SpT} : hasS w [s] = inS w s := Bool.or_false _
theorem hasS_cons {w : PQ} {s : SpT} {r : List SpT} : hasS w (s :: r) = (inS w s || hasS w r) := rfl
section
variable {G : List PQ} (hG : Grd G)
include hG
theorem gap_lt {s t : SpT} (hs : s.1 ∈ G) (hh : ∀ h, s.2 = some h → h ∈ G) (ht : t.1 ∈ G) (u : below s.1 s.2 = true) (g : gap s t) : ltP s.1 t.1 := by
  obtain ⟨h, e, l⟩ := g
  exact lt_trans' (hG _ hs).bot (hG _ (hh h e)).bot (hG _ ht).bot (lt_le (up_lt u e)) l
theorem wf_asc {l : List SpT} (W : WF l) (I : In G l) : Asc l := by
  refine List.Pairwise.imp_of_mem (fun {a b} ha hb g => ?_) W.ap
  exact lt_le (gap_lt hG (I.lo a ha) (I.hi a ha) (I.lo b hb) (W.up a ha) g)
theorem WF_of : ∀ (l : List SpT) (e : PQ), 0 < e.2 → In G l → wfS (some e) l = true → WF l
  | [], e, _, _, _ => ⟨fun s hs => by (cases hs), .nil⟩
  | s :: r, e, e0, I, h => by
    have h' : (decide (ltP e s.1) && below s.1 s.2 && wfS s.2 r) = true := h
    rw [Bool.and_eq_true, Bool.and_eq_true] at h'
    obtain ⟨⟨h1, h2⟩, h3⟩ := h'
    have Ir : In G r := ⟨fun t ht => I.lo t (List.mem_cons_of_mem _ ht), fun t ht => I.hi t (List.mem_cons_of_mem _ ht)⟩
    cases e2 : s.2 with
    | none =>
      rw [e2] at h3
      cases r with
      | nil => exact ⟨fun t ht => by rw [List.mem_singleton] at ht; subst ht; exact h2, List.pairwise_singleton _ _⟩
      | cons a b => cases h3
    | some q =>
      rw [e2] at h3
      have q0 := (hG q (I.hi s (List.mem_cons_self ..) q e2)).bot
      have W := WF_of r q q0 Ir h3
      have L := (wf_lt r q q0 (fun t ht => ⟨(hG _ (Ir.lo t ht)).bot, fun x hx => (hG _ (Ir.hi t ht x hx)).bot⟩) h3).1
      refine ⟨fun t ht => ?_, List.pairwise_cons.mpr ⟨fun t ht => ⟨q, e2, L t ht⟩, W.ap⟩⟩
      rcases List.mem_cons.mp ht with rfl | ht
      · exact h2
      · exact W.up t ht
theorem wf_tail {s : SpT} {r : List SpT} (W : WF (s :: r)) (I : In G (s :: r)) : WF r ∧ In G r :=
  ⟨⟨fun t ht => W.up t (List.mem_cons_of_mem _ ht), (List.pairwise_cons.mp W.ap).2⟩, ⟨fun t ht => I.lo t (List.mem_cons_of_mem _ ht), fun t ht => I.hi t (List.mem_cons_of_mem _ ht)⟩⟩
/-- below all of them -/
theorem has_below {w : PQ} {s : SpT} {r : List SpT} (hw : 0 < w.2) (W : WF (s :: r)) (I : In G (s :: r)) (h : ltP w s.1) : hasS w (s :: r) = false := by
  refine hasS_false fun t ht => ins_lt ?_
  rcases List.mem_cons.mp ht with rfl | ht'
  · exact h
  · have g := (List.pairwise_cons.mp W.ap).1 t ht'
    have hs := List.mem_cons_self (a := s) (l := r)
    have k := gap_lt hG (I.lo s hs) (I.hi s hs) (I.lo t ht) (W.up s hs) g
    exact lt_trans' hw (hG _ (I.lo s hs)).bot (hG _ (I.lo t ht)).bot (lt_le h) k
/-- at the end of the first one, or ahead of it -/
theorem has_rest {w : PQ} {s : SpT} {r : List SpT} {h : PQ} (hw : 0 < w.2) (W : WF (s :: r)) (I : In G (s :: r)) (e : s.2 = some h) (l : leP w h) : hasS w r = false := by
  refine hasS_false fun t ht => ins_lt ?_
  obtain ⟨h', e', k⟩ := (List.pairwise_cons.mp W.ap).1 t ht
  rw [e] at e'
  injection e' with e'
  subst e'
  exact lt_trans' hw (hG _ (I.hi s (List.mem_cons_self ..) h e)).bot (hG _ (I.lo t (List.mem_cons_of_mem _ ht))).bot l k
theorem has_self {s : SpT} {r : List SpT} (W : WF (s :: r)) : hasS s.1 (s :: r) = true := by
  rw [hasS_cons]
  have e : inS s.1 s = true := by
    unfold inS
    rw [W.up s (List.mem_cons_self ..), decide_eq_false (nlt_of_le (Int.le_refl _))]
    rfl
  rw [e]
  rfl
end
theorem pt_eq {p q : PQ} (hp : POk p) (hq : POk q) (h1 : ¬ ltP p q) (h2 : ¬ ltP q p) : p = q := by
  obtain ⟨a, b⟩ := p
  obtain ⟨c, d⟩ := q
  have e : a * d = c * b := by
    have := le_of_nlt h1
    have := le_of_nlt h2
    unfold leP at *
    simp only at *
    omega
  have b0 : 0 < b := hp.bot
  have d0 : 0 < d := hq.bot
  have g1 : Nat.gcd a.natAbs b.natAbs = 1 := hp.low
  have g2 : Nat.gcd c.natAbs d.natAbs = 1 := hq.low
  have e1 : a.natAbs * d.natAbs = c.natAbs * b.natAbs := by
    rw [← Int.natAbs_mul, ← Int.natAbs_mul, e]
  have q1 : b.natAbs ∣ d.natAbs := by
    have z : b.natAbs ∣ a.natAbs * d.natAbs := ⟨c.natAbs, by rw [e1, Nat.mul_comm]⟩
    exact (show Nat.Coprime b.natAbs a.natAbs from by unfold Nat.Coprime; rw [Nat.gcd_comm]; exact g1).dvd_of_dvd_mul_left z
  have q2 : d.natAbs ∣ b.natAbs := by
    have z : d.natAbs ∣ c.natAbs * b.natAbs := ⟨a.natAbs, by rw [← e1, Nat.mul_comm]⟩
    exact (show Nat.Coprime d.natAbs c.natAbs from by unfold Nat.Coprime; rw [Nat.gcd_comm]; exact g2).dvd_of_dvd_mul_left z
  have q3 := Nat.dvd_antisymm q1 q2
  have q4 : b = d := by omega
  subst q4
  rw [Int.eq_of_mul_eq_mul_right (by omega) e]
section
variable {G : List PQ} (hG : Grd G)
include hG
theorem low_le {s t : SpT} {r q : List SpT} (W : WF (s :: r)) (W' : WF (t :: q)) (I : In G (s :: r)) (I' : In G (t :: q)) (h : ∀ w : PQ, 0 < w.2 → 0 ≤ w.1 → hasS w (s :: r) = hasS w (t :: q)) : ¬ ltP s.1 t.1 := fun z => by
  have P := hG _ (I.lo s (List.mem_cons_self ..))
  have a := h s.1 P.bot P.top
  rw [has_self hG W, has_below hG P.bot W' I' z] at a
  cases a
theorem high_le {s t : SpT} {r q : List SpT} (W : WF (s :: r)) (I : In G (s :: r)) (W' : WF (t :: q)) (h : ∀ w : PQ, 0 < w.2 → 0 ≤ w.1 → hasS w (s :: r) = hasS w (t :: q)) (e : s.1 = t.1) {x : PQ} (ex : s.2 = some x) : below x t.2 = false := by
  have hs := List.mem_cons_self (a := s) (l := r)
  have P := hG _ (I.hi s hs x ex)
  have a := h x P.bot P.top
  have l := up_lt (W.up s hs) ex
  have e1 : inS x s = false := by
    unfold inS
    rw [ex]
    show (_ && decide (ltP x x)) = false
    rw [decide_eq_false (nlt_of_le (Int.le_refl _)), Bool.and_false]
  rw [hasS_cons, e1, has_rest hG P.bot W I ex (Int.le_refl _), hasS_cons] at a
  have b := (Bool.or_eq_false_iff.mp a.symm).1
  unfold inS at b
  rw [← e, decide_eq_false (nlt_of_le (lt_le l))] at b
  exact b
theorem wf_uniq : ∀ (l l' : List SpT), WF l → WF l' → In G l → In G l' → (∀ w : PQ, 0 < w.2 → 0 ≤ w.1 → hasS w l = hasS w l') → l = l'
  | [], [], _, _, _, _, _ => rfl
  | [], t :: q, _, W', _, I', h => by
    have P := hG _ (I'.lo t (List.mem_cons_self ..))
    have a := h t.1 P.bot P.top
    rw [has_self hG W'] at a
    cases a
  | s :: r, [], W, _, I, _, h => by
    have P := hG _ (I.lo s (List.mem_cons_self ..))
    have a := h s.1 P.bot P.top
    rw [has_self hG W] at a
    cases a
  | s :: r, t :: q, W, W', I, I', h => by
    have hs := List.mem_cons_self (a := s) (l := r)
    have ht := List.mem_cons_self (a := t) (l := q)
    have h' : ∀ w : PQ, 0 < w.2 → 0 ≤ w.1 → hasS w (t :: q) = hasS w (s :: r) := fun w a b => (h w a b).symm
    have e1 : s.1 = t.1 := pt_eq (hG _ (I.lo s hs)) (hG _ (I'.lo t ht)) (low_le hG W W' I I' h) (low_le hG W' W I' I h')
    have e2 : s.2 = t.2 := by
      cases a : s.2 with
      | none =>
        cases b : t.2 with
        | none => rfl
        | some y =>
          have z := high_le hG W' I' W h' e1.symm b
          rw [a] at z
          cases z
      | some x =>
        have z1 := high_le hG W I W' h e1 a
        cases b : t.2 with
        | none =>
          rw [b] at z1
          cases z1
        | some y =>
          have z2 := high_le hG W' I' W h' e1.symm b
          rw [b] at z1
          rw [a] at z2
          rw [pt_eq (hG _ (I.hi s hs x a)) (hG _ (I'.hi t ht y b)) (of_decide_eq_false z1) (of_decide_eq_false z2)]
    have e : s = t := Prod.ext e1 e2
    subst e
    have T := wf_tail hG W I
    have T' := wf_tail hG W' I'
    rw [wf_uniq r q T.1 T'.1 T.2 T'.2 fun w w0 w1 => ?_]
    by_cases c : inS w s = true
    · have k : ∀ r' : List SpT, WF (s :: r') → In G (s :: r') → hasS w r' = false := fun r' X Y => by
        cases a : s.2 with
        | none =>
          cases r' with
          | nil => rfl
          | cons u v =>
            obtain ⟨x, ex, _⟩ := (List.pairwise_cons.mp X.ap).1 u (List.mem_cons_self ..)
            rw [a] at ex
            cases ex
        | some x =>
          have c' := c
          unfold inS at c'
          rw [a, Bool.and_eq_true] at c'
          exact has_rest hG w0 X Y a (lt_le (of_decide_eq_true c'.2))
      rw [k r W I, k q W' I']
    · have z := h w w0 w1
      rw [hasS_cons, hasS_cons, Bool.eq_false_iff.mpr c, Bool.false_or, Bool.false_or] at z
      exact z
end
end Wd
end

section
namespace Wd
open PySem PySem.Spec PyProof.Rows L2 Y
/-! ### merging, joining, what is outside -/
def laterF : Option PQ → Option PQ → Option PQ
  | some a, some b => some (if ltP a b then b else a)
  | _, _ => none
theorem has_mem {w : PQ} {m l r : List SpT} (h : ∀ s, s ∈ m ↔ s ∈ l ∨ s ∈ r) : hasS w m = (hasS w l || hasS w r) := by
  unfold hasS
  rw [Bool.eq_iff_iff, Bool.or_eq_true, List.any_eq_true, List.any_eq_true, List.any_eq_true]
  constructor
  · rintro ⟨x, hx, e⟩
    rcases (h x).mp hx with a | a
    · exact .inl ⟨x, a, e⟩
    · exact .inr ⟨x, a, e⟩
  · rintro (⟨x, hx, e⟩ | ⟨x, hx, e⟩)
    · exact ⟨x, (h x).mpr (.inl hx), e⟩
    · exact ⟨x, (h x).mpr (.inr hx), e⟩
theorem In.of {G : List PQ} {m l r : List SpT} (h : ∀ s, s ∈ m ↔ s ∈ l ∨ s ∈ r) (a : In G l) (b : In G r) : In G m :=
  ⟨fun s hs => ((h s).mp hs).elim (a.lo s) (b.lo s), fun s hs => ((h s).mp hs).elim (a.hi s) (b.hi s)⟩
/-- two lists, so far as they are merged -/
structure Mg (l1 l2 : List SpT) (i j : Nat) (m : List SpT) : Prop where
  asc : Asc m
  mem : ∀ s, s ∈ m ↔ s ∈ l1.take i ∨ s ∈ l2.take j
  lo1 : ∀ s ∈ m, ∀ t ∈ l1.drop i, leP s.1 t.1
  lo2 : ∀ s ∈ m, ∀ t ∈ l2.drop j, leP s.1 t.1
  len : m.length = i + j
theorem mg_nil {l1 l2 : List SpT} : Mg l1 l2 0 0 [] := ⟨.nil, fun s => by simp, fun s hs => by (cases hs), fun s hs => by (cases hs), rfl⟩
theorem drop_at {α : Type} {l : List α} {i : Nat} {x : α} (h : l[i]? = some x) : l.drop i = x :: l.drop (i + 1) := by
  obtain ⟨k, e⟩ := List.getElem?_eq_some_iff.mp h
  rw [List.drop_eq_getElem_cons k, e]
theorem take_at {α : Type} {l : List α} {i : Nat} {x : α} (h : l[i]? = some x) : l.take (i + 1) = l.take i ++ [x] := by
  rw [List.take_add_one, h]
  rfl
theorem asc_drop {l : List SpT} {i : Nat} {x : SpT} (a : Asc l) (h : l[i]? = some x) : ∀ t ∈ l.drop (i + 1), leP x.1 t.1 := by
  have z : Asc (l.drop i) := List.Pairwise.sublist (List.drop_sublist _ _) a
  rw [drop_at h] at z
  exact (List.pairwise_cons.mp z).1
theorem mg_two {G : List PQ} (hG : Grd G) {l1 l2 : List SpT} {i j : Nat} {m : List SpT} {p t : SpT} (M : Mg l1 l2 i j m) (I1 : In G l1) (I2 : In G l2) (a1 : Asc l1) (a2 : Asc l2) (hp : l1[i]? = some p) (ht : l2[j]? = some t) (l : ltP t.1 p.1) : Mg l1 l2 i (j + 1) (m ++ [t]) := by
  have mt : t ∈ l2.drop j := by
    rw [drop_at ht]
    exact List.mem_cons_self ..
  refine ⟨List.pairwise_append.mpr ⟨M.asc, List.pairwise_singleton _ _, fun s hs u hu => ?_⟩, fun s => ?_, fun s hs u hu => ?_, fun s hs u hu => ?_, by rw [List.length_append, M.len]; rfl⟩
  · rw [List.mem_singleton] at hu
    subst hu
    exact M.lo2 s hs u mt
  · rw [List.mem_append, List.mem_singleton, take_at ht, List.mem_append, List.mem_singleton, M.mem]
    exact or_assoc
  · rcases List.mem_append.mp hs with hs | hs
    · exact M.lo1 s hs u hu
    · rw [List.mem_singleton] at hs
      subst hs
      rw [drop_at hp] at hu
      rcases List.mem_cons.mp hu with rfl | hu
      · exact lt_le l
      · have pm := List.mem_of_getElem? hp
        have um := List.mem_of_mem_drop hu
        have sm := List.mem_of_getElem? ht
        exact le_trans' (hG _ (I2.lo s sm)).bot (hG _ (I1.lo p pm)).bot (hG _ (I1.lo u um)).bot (lt_le l) (asc_drop a1 hp u hu)
  · rcases List.mem_append.mp hs with hs | hs
    · exact M.lo2 s hs u (by rw [drop_at ht]; exact List.mem_cons_of_mem _ hu)
    · rw [List.mem_singleton] at hs
      subst hs
      exact asc_drop a2 ht u hu
theorem mg_one {G : List PQ} (hG : Grd G) {l1 l2 : List SpT} {i j : Nat} {m : List SpT} {p : SpT} (M : Mg l1 l2 i j m) (I1 : In G l1) (I2 : In G l2) (a1 : Asc l1) (a2 : Asc l2) (hp : l1[i]? = some p) (l : ∀ t, l2[j]? = some t → leP p.1 t.1) : Mg l1 l2 (i + 1) j (m ++ [p]) := by
  have mp : p ∈ l1.drop i := by
    rw [drop_at hp]
    exact List.mem_cons_self ..
  refine ⟨List.pairwise_append.mpr ⟨M.asc, List.pairwise_singleton _ _, fun s hs u hu => ?_⟩, fun s => ?_, fun s hs u hu => ?_, fun s hs u hu => ?_, by rw [List.length_append, M.len]; simp only [List.length_cons, List.length_nil]; omega⟩
  · rw [List.mem_singleton] at hu
    subst hu
    exact M.lo1 s hs u mp
  · rw [List.mem_append, List.mem_singleton, take_at hp, List.mem_append, List.mem_singleton, M.mem]
    exact or_right_comm
  · rcases List.mem_append.mp hs with hs | hs
    · exact M.lo1 s hs u (by rw [drop_at hp]; exact List.mem_cons_of_mem _ hu)
    · rw [List.mem_singleton] at hs
      subst hs
      exact asc_drop a1 hp u hu
  · rcases List.mem_append.mp hs with hs | hs
    · exact M.lo2 s hs u hu
    · rw [List.mem_singleton] at hs
      subst hs
      obtain ⟨t, ht⟩ : ∃ t, l2[j]? = some t := by
        by_cases c : j < l2.length
        · exact ⟨_, List.getElem?_eq_getElem c⟩
        · rw [List.drop_eq_nil_of_le (by omega)] at hu
          cases hu
      have k := l t ht
      have tm := List.mem_of_getElem? ht
      have um := List.mem_of_mem_drop hu
      have pm := List.mem_of_getElem? hp
      rw [drop_at ht] at hu
      rcases List.mem_cons.mp hu with rfl | hu
      · exact k
      · exact le_trans' (hG _ (I1.lo s pm)).bot (hG _ (I2.lo t tm)).bot (hG _ (I2.lo u um)).bot k (asc_drop a2 ht u hu)
theorem mg_end {l1 l2 : List SpT} {j : Nat} {m : List SpT} (M : Mg l1 l2 l1.length j m) (a2 : Asc l2) (hj : j ≤ l2.length) : Asc (m ++ l2.drop j) ∧ (∀ s, s ∈ m ++ l2.drop j ↔ s ∈ l1 ∨ s ∈ l2) ∧ (m ++ l2.drop j).length = l1.length + l2.length := by
  refine ⟨List.pairwise_append.mpr ⟨M.asc, List.Pairwise.sublist (List.drop_sublist _ _) a2, M.lo2⟩, fun s => ?_, ?_⟩
  · rw [List.mem_append, M.mem, List.take_length, or_assoc]
    have e : s ∈ l2 ↔ s ∈ l2.take j ∨ s ∈ l2.drop j := by
      rw [← List.mem_append, List.take_append_drop]
    rw [e]
  · rw [List.length_append, M.len, List.length_drop]
    omega
/-- spans put together, so far -/
structure Jn (G : List PQ) (ps : List SpT) (i : Nat) (m : List SpT) : Prop where
  wf : WF m
  inn : In G m
  has : ∀ w : PQ, 0 < w.2 → hasS w m = hasS w (ps.take i)
  lo : ∀ s ∈ m, ∀ t ∈ ps.drop i, leP s.1 t.1
  len : m.length ≤ i
theorem jn_nil {G : List PQ} {ps : List SpT} : Jn G ps 0 [] := ⟨⟨fun s hs => by (cases hs), .nil⟩, ⟨fun s hs => by (cases hs), fun s hs => by (cases hs)⟩, fun w _ => rfl, fun s hs => by (cases hs), Nat.le_refl _⟩
theorem below_later {a b : Option PQ} {w : PQ} (hw : 0 < w.2) (ha : ∀ h, a = some h → 0 < h.2) (hb : ∀ h, b = some h → 0 < h.2) : below w (laterF a b) = (below w a || below w b) := by
  cases a with
  | none => rfl
  | some x =>
    cases b with
    | none => exact (Bool.or_true _).symm
    | some y =>
      have x0 := ha x rfl
      have y0 := hb y rfl
      show decide (ltP w (if ltP x y then y else x)) = (decide (ltP w x) || decide (ltP w y))
      by_cases c : ltP x y
      · rw [if_pos c]
        by_cases d : ltP w x
        · rw [decide_eq_true d, decide_eq_true (lt_trans' hw x0 y0 (lt_le d) c)]
          rfl
        · rw [decide_eq_false d, Bool.false_or]
      · rw [if_neg c]
        by_cases d : ltP w y
        · rw [decide_eq_true d, decide_eq_true (lt_lt' hw y0 x0 d (le_of_nlt c))]
          rfl
        · rw [decide_eq_false d, Bool.or_false]
section
variable {G : List PQ} (hG : Grd G) {ps : List SpT} (I : In G ps) (A : Asc ps) (U : ∀ s ∈ ps, below s.1 s.2 = true)
include hG I A U
theorem jn_add {i : Nat} {m : List SpT} {p : SpT} (J : Jn G ps i m) (hp : ps[i]? = some p) (g : ∀ s ∈ m, gap s p) : Jn G ps (i + 1) (m ++ [p]) := by
  have pm := List.mem_of_getElem? hp
  refine ⟨⟨fun s hs => ?_, List.pairwise_append.mpr ⟨J.wf.ap, List.pairwise_singleton _ _, fun s hs u hu => ?_⟩⟩, ⟨fun s hs => ?_, fun s hs => ?_⟩, fun w hw => ?_, fun s hs u hu => ?_, by have := J.len; rw [List.length_append]; simp only [List.length_cons, List.length_nil]; omega⟩
  · rcases List.mem_append.mp hs with hs | hs
    · exact J.wf.up s hs
    · rw [List.mem_singleton] at hs
      subst hs
      exact U s pm
  · rw [List.mem_singleton] at hu
    subst hu
    exact g s hs
  · rcases List.mem_append.mp hs with hs | hs
    · exact J.inn.lo s hs
    · rw [List.mem_singleton] at hs
      subst hs
      exact I.lo s pm
  · rcases List.mem_append.mp hs with hs | hs
    · exact J.inn.hi s hs
    · rw [List.mem_singleton] at hs
      subst hs
      exact I.hi s pm
  · rw [take_at hp, hasS_app, hasS_app, J.has w hw]
  · rcases List.mem_append.mp hs with hs | hs
    · exact J.lo s hs u (by rw [drop_at hp]; exact List.mem_cons_of_mem _ hu)
    · rw [List.mem_singleton] at hs
      subst hs
      exact asc_drop A hp u hu
theorem jn_apart {i : Nat} {l : List SpT} {s p : SpT} (J : Jn G ps i (l ++ [s])) (hp : ps[i]? = some p) {h : PQ} (e : s.2 = some h) (c : ltP h p.1) : Jn G ps (i + 1) (l ++ [s] ++ [p]) := by
  refine jn_add hG I A U J hp fun t ht => ?_
  rcases List.mem_append.mp ht with ht | ht
  · obtain ⟨x, ex, lx⟩ := (List.pairwise_append.mp J.wf.ap).2.2 t ht s (List.mem_singleton.mpr rfl)
    have pm := List.mem_of_getElem? hp
    have sm : s ∈ l ++ [s] := by simp
    have tm : t ∈ l ++ [s] := List.mem_append_left _ ht
    have k1 := up_lt (J.wf.up s sm) e
    have b1 := (hG _ (J.inn.hi t tm x ex)).bot
    have b2 := (hG _ (J.inn.lo s sm)).bot
    have b3 := (hG _ (J.inn.hi s sm h e)).bot
    have b4 := (hG _ (I.lo p pm)).bot
    exact ⟨x, ex, lt_trans' b1 b2 b4 (lt_le lx) (lt_trans' b2 b3 b4 (lt_le k1) c)⟩
  · rw [List.mem_singleton] at ht
    subst ht
    exact ⟨h, e, c⟩
theorem jn_join {i : Nat} {l : List SpT} {s p : SpT} (J : Jn G ps i (l ++ [s])) (hp : ps[i]? = some p) (c : ∀ h, s.2 = some h → leP p.1 h) : Jn G ps (i + 1) (l ++ [(s.1, laterF s.2 p.2)]) := by
  have pm := List.mem_of_getElem? hp
  have sm : s ∈ l ++ [s] := by simp
  have sp : leP s.1 p.1 := J.lo s sm p (by rw [drop_at hp]; exact List.mem_cons_self ..)
  have s0 := (hG _ (J.inn.lo s sm)).bot
  have p0 := (hG _ (I.lo p pm)).bot
  have sh : ∀ h, s.2 = some h → 0 < h.2 := fun h e => (hG _ (J.inn.hi s sm h e)).bot
  have ph : ∀ h, p.2 = some h → 0 < h.2 := fun h e => (hG _ (I.hi p pm h e)).bot
  have lat : ∀ h, laterF s.2 p.2 = some h → h ∈ G := fun h e => by
    cases a : s.2 with
    | none =>
      rw [a] at e
      cases e
    | some x =>
      cases b : p.2 with
      | none =>
        rw [a, b] at e
        cases e
      | some y =>
        rw [a, b] at e
        have e' : (if ltP x y then y else x) = h := Option.some.inj e
        subst e'
        split
        · exact I.hi p pm y b
        · exact J.inn.hi s sm x a
  have ul : below s.1 (laterF s.2 p.2) = true := by
    rw [below_later s0 sh ph, J.wf.up s sm]
    rfl
  have ap := List.pairwise_append.mp J.wf.ap
  refine ⟨⟨fun t ht => ?_, List.pairwise_append.mpr ⟨ap.1, List.pairwise_singleton _ _, fun t ht u hu => ?_⟩⟩, ⟨fun t ht => ?_, fun t ht => ?_⟩, fun w hw => ?_, fun t ht u hu => ?_, by have := J.len; rw [List.length_append] at this ⊢; simp only [List.length_cons, List.length_nil] at *; omega⟩
  · rcases List.mem_append.mp ht with ht | ht
    · exact J.wf.up t (List.mem_append_left _ ht)
    · rw [List.mem_singleton] at ht
      subst ht
      exact ul
  · rw [List.mem_singleton] at hu
    subst hu
    exact ap.2.2 t ht s (List.mem_singleton.mpr rfl)
  · rcases List.mem_append.mp ht with ht | ht
    · exact J.inn.lo t (List.mem_append_left _ ht)
    · rw [List.mem_singleton] at ht
      subst ht
      exact J.inn.lo s sm
  · rcases List.mem_append.mp ht with ht | ht
    · exact J.inn.hi t (List.mem_append_left _ ht)
    · rw [List.mem_singleton] at ht
      subst ht
      exact lat
  · rw [take_at hp, hasS_app, hasS_app, hasS_one, ← J.has w hw, hasS_app, hasS_one, hasS_one, Bool.or_assoc]
    congr 1
    unfold inS
    show (!decide (ltP w s.1) && below w (laterF s.2 p.2)) = ((!decide (ltP w s.1) && below w s.2) || (!decide (ltP w p.1) && below w p.2))
    rw [below_later hw sh ph]
    by_cases d : ltP w s.1
    · rw [decide_eq_true d, decide_eq_true (lt_lt' hw s0 p0 d sp)]
      rfl
    · rw [decide_eq_false d]
      by_cases e : ltP w p.1
      · have k : below w s.2 = true := by
          cases a : s.2 with
          | none => rfl
          | some x => exact decide_eq_true (lt_lt' hw p0 (sh x a) e (c x a))
        rw [k, decide_eq_true e]
        rfl
      · rw [decide_eq_false e]
        simp
  · rcases List.mem_append.mp ht with ht | ht
    · exact J.lo t (List.mem_append_left _ ht) u (by rw [drop_at hp]; exact List.mem_cons_of_mem _ hu)
    · rw [List.mem_singleton] at ht
      subst ht
      exact J.lo s sm u (by rw [drop_at hp]; exact List.mem_cons_of_mem _ hu)
end
/-- what is outside, so far; f the end up to which it was gone -/
structure Out (G : List PQ) (ps : List SpT) (i : Nat) (m : List SpT) (f : Option PQ) : Prop where
  wf : WF m
  inn : In G m
  fin : ∀ x, f = some x → x ∈ G
  has : ∀ w : PQ, 0 < w.2 → 0 ≤ w.1 → hasS w m = (below w f && !hasS w (ps.take i))
  old : ∀ s ∈ ps.take i, ∀ x, f = some x → ∃ h, s.2 = some h ∧ leP h x
  gp : ∀ s ∈ m, ∀ x, f = some x → ∃ h, s.2 = some h ∧ ltP h x
  nx : ∀ t, (ps.drop i).head? = some t → ∃ x, f = some x ∧ leP x t.1
  len : m.length ≤ i
theorem out_nil {G : List PQ} (hG : Grd G) {ps : List SpT} (I : In G ps) (h0 : (0, 1) ∈ G) : Out G ps 0 [] (some (0, 1)) := by
  refine ⟨⟨fun s hs => by (cases hs), .nil⟩, ⟨fun s hs => by (cases hs), fun s hs => by (cases hs)⟩, fun x e => ?_, fun w w0 w1 => ?_, fun s hs => ?_, fun s hs => by (cases hs), fun t ht => ⟨_, rfl, ?_⟩, Nat.le_refl _⟩
  · injection e with e
    subst e
    exact h0
  · have z : ¬ ltP w (0, 1) := by
      unfold ltP
      simp only
      omega
    show false = (decide (ltP w (0, 1)) && _)
    rw [decide_eq_false z]
    rfl
  · rw [List.take_zero] at hs
    cases hs
  · rw [List.drop_zero] at ht
    have k := (hG _ (I.lo t (List.mem_of_head? ht))).top
    unfold leP
    simp only
    omega
section
variable {G : List PQ} (hG : Grd G) {ps : List SpT} (I : In G ps) (W : WF ps)
include hG I W
theorem out_nx {i : Nat} {p : SpT} (hp : ps[i]? = some p) : ∀ t, (ps.drop (i + 1)).head? = some t → ∃ x, p.2 = some x ∧ leP x t.1 := fun t ht => by
  have z : (ps.drop i).Pairwise gap := List.Pairwise.sublist (List.drop_sublist _ _) W.ap
  rw [drop_at hp] at z
  obtain ⟨x, e, l⟩ := (List.pairwise_cons.mp z).1 t (List.mem_of_head? ht)
  exact ⟨x, e, lt_le l⟩
/-- the bits that both turns have in common -/
theorem out_has {i : Nat} {m m' : List SpT} {f x : PQ} {p : SpT} (O : Out G ps i m (some x)) (hp : ps[i]? = some p) (l : leP x p.1) (hm : ∀ w : PQ, 0 < w.2 → hasS w m' = (hasS w m || (!decide (ltP w x) && decide (ltP w p.1)))) :
    ∀ w : PQ, 0 < w.2 → 0 ≤ w.1 → hasS w m' = (below w p.2 && !hasS w (ps.take (i + 1))) := fun w w0 w1 => by
  have pm := List.mem_of_getElem? hp
  have x0 := (hG _ (O.fin x rfl)).bot
  have p0 := (hG _ (I.lo p pm)).bot
  have pu := W.up p pm
  rw [hm w w0, O.has w w0 w1, take_at hp, hasS_app, hasS_one]
  show ((decide (ltP w x) && !hasS w (ps.take i)) || (!decide (ltP w x) && decide (ltP w p.1))) = (below w p.2 && !(hasS w (ps.take i) || (!decide (ltP w p.1) && below w p.2)))
  by_cases a : ltP w x
  · have b : ltP w p.1 := lt_lt' w0 x0 p0 a l
    have c : below w p.2 = true := by
      cases e : p.2 with
      | none => rfl
      | some h => exact decide_eq_true (lt_trans' w0 p0 (hG _ (I.hi p pm h e)).bot (lt_le b) (up_lt pu e))
    rw [decide_eq_true a, decide_eq_true b, c]
    simp
  · have o : hasS w (ps.take i) = false := hasS_false fun s hs => by
      obtain ⟨h, e, k⟩ := O.old s hs x rfl
      have z : ¬ ltP w h := nlt_of_le (le_trans' (hG _ (I.hi s (List.mem_of_mem_take hs) h e)).bot x0 w0 k (le_of_nlt a))
      unfold inS
      rw [e]
      show (_ && decide (ltP w h)) = false
      rw [decide_eq_false z, Bool.and_false]
    rw [decide_eq_false a, o]
    by_cases b : ltP w p.1
    · have c : below w p.2 = true := by
        cases e : p.2 with
        | none => rfl
        | some h => exact decide_eq_true (lt_trans' w0 p0 (hG _ (I.hi p pm h e)).bot (lt_le b) (up_lt pu e))
      rw [decide_eq_true b, c]
      rfl
    · rw [decide_eq_false b]
      cases below w p.2 <;> rfl
theorem out_old {i : Nat} {m : List SpT} {x : PQ} {p : SpT} (O : Out G ps i m (some x)) (hp : ps[i]? = some p) (l : leP x p.1) : ∀ s ∈ ps.take (i + 1), ∀ y, p.2 = some y → ∃ h, s.2 = some h ∧ leP h y := fun s hs y e => by
  have pm := List.mem_of_getElem? hp
  rw [take_at hp] at hs
  rcases List.mem_append.mp hs with hs | hs
  · obtain ⟨h, eh, k⟩ := O.old s hs x rfl
    have b1 := (hG _ (I.hi s (List.mem_of_mem_take hs) h eh)).bot
    have b2 := (hG _ (O.fin x rfl)).bot
    have b3 := (hG _ (I.lo p pm)).bot
    have b4 := (hG _ (I.hi p pm y e)).bot
    exact ⟨h, eh, le_trans' b1 b2 b4 k (le_trans' b2 b3 b4 l (lt_le (up_lt (W.up p pm) e)))⟩
  · rw [List.mem_singleton] at hs
    subst hs
    exact ⟨y, e, Int.le_refl _⟩
theorem out_add {i : Nat} {m : List SpT} {x : PQ} {p : SpT} (O : Out G ps i m (some x)) (hp : ps[i]? = some p) (l : ltP x p.1) : Out G ps (i + 1) (m ++ [(x, some p.1)]) p.2 := by
  have pm := List.mem_of_getElem? hp
  have x0 := (hG _ (O.fin x rfl)).bot
  have p0 := (hG _ (I.lo p pm)).bot
  refine ⟨⟨fun s hs => ?_, List.pairwise_append.mpr ⟨O.wf.ap, List.pairwise_singleton _ _, fun s hs u hu => ?_⟩⟩, ⟨fun s hs => ?_, fun s hs => ?_⟩, fun y e => I.hi p pm y e, out_has hG I W (f := x) O hp (lt_le l) fun w w0 => ?_, out_old hG I W O hp (lt_le l), fun s hs y e => ?_, out_nx hG I W hp, by have := O.len; rw [List.length_append]; simp only [List.length_cons, List.length_nil]; omega⟩
  · rcases List.mem_append.mp hs with hs | hs
    · exact O.wf.up s hs
    · rw [List.mem_singleton] at hs
      subst hs
      exact decide_eq_true l
  · rw [List.mem_singleton] at hu
    subst hu
    exact O.gp s hs x rfl
  · rcases List.mem_append.mp hs with hs | hs
    · exact O.inn.lo s hs
    · rw [List.mem_singleton] at hs
      subst hs
      exact O.fin x rfl
  · rcases List.mem_append.mp hs with hs | hs
    · exact O.inn.hi s hs
    · rw [List.mem_singleton] at hs
      subst hs
      intro h e
      injection e with e
      subst e
      exact I.lo p pm
  · rw [hasS_app, hasS_one]
    rfl
  · have b4 := (hG _ (I.hi p pm y e)).bot
    have k := up_lt (W.up p pm) e
    rcases List.mem_append.mp hs with hs | hs
    · obtain ⟨h, eh, z⟩ := O.gp s hs x rfl
      have b1 := (hG _ (O.inn.hi s hs h eh)).bot
      exact ⟨h, eh, lt_trans' b1 x0 b4 (lt_le z) (lt_trans' x0 p0 b4 (lt_le l) k)⟩
    · rw [List.mem_singleton] at hs
      subst hs
      exact ⟨p.1, rfl, k⟩
theorem out_same {i : Nat} {m : List SpT} {x : PQ} {p : SpT} (O : Out G ps i m (some x)) (hp : ps[i]? = some p) (l : leP x p.1) (nl : ¬ ltP x p.1) : Out G ps (i + 1) m p.2 := by
  have pm := List.mem_of_getElem? hp
  have x0 := (hG _ (O.fin x rfl)).bot
  have p0 := (hG _ (I.lo p pm)).bot
  refine ⟨O.wf, O.inn, fun y e => I.hi p pm y e, out_has hG I W (f := x) O hp l fun w w0 => ?_, out_old hG I W O hp l, fun s hs y e => ?_, out_nx hG I W hp, Nat.le_succ_of_le O.len⟩
  · by_cases a : ltP w x
    · rw [decide_eq_true a]
      simp
    · have b : ¬ ltP w p.1 := nlt_of_le (le_trans' p0 x0 w0 (le_of_nlt nl) (le_of_nlt a))
      rw [decide_eq_false b]
      simp
  · have b4 := (hG _ (I.hi p pm y e)).bot
    have k := up_lt (W.up p pm) e
    obtain ⟨h, eh, z⟩ := O.gp s hs x rfl
    have b1 := (hG _ (O.inn.hi s hs h eh)).bot
    exact ⟨h, eh, lt_trans' b1 x0 b4 (lt_le z) (lt_trans' x0 p0 b4 l k)⟩
theorem out_endN {m : List SpT} (O : Out G ps ps.length m none) : ∀ w : PQ, 0 < w.2 → 0 ≤ w.1 → hasS w m = !hasS w ps := fun w w0 w1 => by
  rw [O.has w w0 w1, List.take_length]
  rfl
theorem out_endS {m : List SpT} {x : PQ} (O : Out G ps ps.length m (some x)) : WF (m ++ [(x, none)]) ∧ In G (m ++ [(x, none)]) ∧ ∀ w : PQ, 0 < w.2 → 0 ≤ w.1 → hasS w (m ++ [(x, none)]) = !hasS w ps := by
  have x0 := (hG _ (O.fin x rfl)).bot
  refine ⟨⟨fun s hs => ?_, List.pairwise_append.mpr ⟨O.wf.ap, List.pairwise_singleton _ _, fun s hs u hu => ?_⟩⟩, ⟨fun s hs => ?_, fun s hs => ?_⟩, fun w w0 w1 => ?_⟩
  · rcases List.mem_append.mp hs with hs | hs
    · exact O.wf.up s hs
    · rw [List.mem_singleton] at hs
      subst hs
      rfl
  · rw [List.mem_singleton] at hu
    subst hu
    exact O.gp s hs x rfl
  · rcases List.mem_append.mp hs with hs | hs
    · exact O.inn.lo s hs
    · rw [List.mem_singleton] at hs
      subst hs
      exact O.fin x rfl
  · rcases List.mem_append.mp hs with hs | hs
    · exact O.inn.hi s hs
    · rw [List.mem_singleton] at hs
      subst hs
      intro h e
      cases e
  · rw [hasS_app, hasS_one, O.has w w0 w1, List.take_length]
    show ((decide (ltP w x) && !hasS w ps) || (!decide (ltP w x) && true)) = !hasS w ps
    by_cases a : ltP w x
    · rw [decide_eq_true a]
      simp
    · have o : hasS w ps = false := hasS_false fun s hs => by
        obtain ⟨h, e, k⟩ := O.old s (by rw [List.take_length]; exact hs) x rfl
        have z : ¬ ltP w h := nlt_of_le (le_trans' (hG _ (I.hi s hs h e)).bot x0 w0 k (le_of_nlt a))
        unfold inS
        rw [e]
        show (_ && decide (ltP w h)) = false
        rw [decide_eq_false z, Bool.and_false]
      rw [decide_eq_false a, o]
      rfl
end
end Wd
end

section
namespace Wd
open PySem PySem.Spec PyProof.Rows L2 Y
theorem cell_of {w : PQ} : ∀ (g : List PQ), g ≠ [] → (∀ p, g.head? = some p → leP p w) → ∃ k p, g[k]? = some p ∧ leP p w ∧ ∀ q, g[k + 1]? = some q → ltP w q
  | [], h, _ => absurd rfl h
  | [p], _, h => ⟨0, p, rfl, h p rfl, fun q z => by cases z⟩
  | p :: q :: r, _, h => by
    by_cases c : ltP w q
    · refine ⟨0, p, rfl, h p rfl, fun x z => ?_⟩
      have z' : some q = some x := z
      injection z' with z'
      rw [← z']
      exact c
    · obtain ⟨k, x, a, b, d⟩ := cell_of (q :: r) (fun z => by cases z) fun x z => by
        have z' : some q = some x := z
        injection z' with z'
        rw [← z']
        exact le_of_nlt c
      exact ⟨k + 1, x, a, b, d⟩
theorem has_at {g : List PQ} {bs : List Bool} {k : Nat} {w p : PQ} {b : Bool} (G : GridOk g) (hl : bs.length = g.length) (hw : 0 < w.2) (hp : g[k]? = some p) (lo : leP p w) (hi : ∀ q, g[k + 1]? = some q → ltP w q) (hb : bs[k]? = some b) : hasS w (spansF [] g bs) = b := by
  have pos : ∀ p ∈ g, 0 < p.2 := fun p h => (G.ok p h).bot
  rw [has_spans hw g bs [] pos G.inc acc_nil]
  show (false || cellsHas w g bs) = b
  rw [Bool.false_or]
  obtain ⟨hk, hbk⟩ := List.getElem?_eq_some_iff.mp hb
  obtain ⟨hkg, hpk⟩ := List.getElem?_eq_some_iff.mp hp
  have e1 : g = g.take k ++ p :: g.drop (k + 1) := by
    rw [← hpk, ← List.drop_eq_getElem_cons hkg, List.take_append_drop]
  have e2 : bs = bs.take k ++ b :: bs.drop (k + 1) := by
    rw [← hbk, ← List.drop_eq_getElem_cons hk, List.take_append_drop]
  have z := cells_in (b := b) (br := bs.drop (k + 1)) hw lo (fun q hq => hi q (by rw [List.head?_drop] at hq; exact hq)) (g.take k) (bs.take k) (by rw [List.length_take, List.length_take]; omega) (by rw [← e1]; exact pos) (by rw [← e1]; exact G.inc)
  rw [← e1, ← e2] at z
  exact z
theorem grd {g : List PQ} (G : GridOk g) : Grd g := G.ok
theorem zero_in {g : List PQ} (G : GridOk g) : ((0, 1) : PQ) ∈ g := List.mem_of_head? G.hd
theorem spans_in {g : List PQ} (G : GridOk g) (bs : List Bool) : In g (spansF [] g bs) := by
  have m := spans_mem (G := g) g bs [] (fun p h => h) (fun s hs => by cases hs)
  exact ⟨fun s hs => (m s hs).1, fun s hs => (m s hs).2⟩
theorem spans_WF {g : List PQ} (G : GridOk g) (bs : List Bool) : WF (spansF [] g bs) :=
  WF_of (grd G) _ (-1, 1) (by decide) (spans_in G bs) (wf_all g bs (-1, 1) (fun p h => (G.ok p h).bot) G.inc fun p h => neg_lt (G.ok p h) (by decide) (by decide))
/-- a set is known by the cells that it has -/
theorem set_eq {g : List PQ} {bs : List Bool} {l : List SpT} (G : GridOk g) (hl : bs.length = g.length) (W : WF l) (I : In g l)
    (h : ∀ (w : PQ) (k : Nat) (p : PQ), 0 < w.2 → 0 ≤ w.1 → g[k]? = some p → leP p w → (∀ q, g[k + 1]? = some q → ltP w q) → bs[k]? = some (hasS w l)) : l = spansF [] g bs := by
  refine wf_uniq (grd G) _ _ W (spans_WF G bs) I (spans_in G bs) fun w w0 w1 => ?_
  obtain ⟨k, p, a, b, c⟩ := cell_of (w := w) g (fun z => by have := G.one; rw [z] at this; cases this) fun p hp => by
    rw [G.hd] at hp
    injection hp with hp
    subst hp
    unfold leP
    simp only
    omega
  exact (has_at G hl w0 a b c (h w k p w0 w1 a b c)).symm
theorem get_some {α : Type} {l : List α} {k n : Nat} (h : l.length = n) (hk : k < n) : ∃ b, l[k]? = some b := ⟨_, List.getElem?_eq_getElem (by omega)⟩
theorem kin {g : List PQ} {k : Nat} {p : PQ} (h : g[k]? = some p) : k < g.length := (List.getElem?_eq_some_iff.mp h).1
theorem or_eq {g : List PQ} {bs cs : List Bool} {l : List SpT} (G : GridOk g) (hb : bs.length = g.length) (hc : cs.length = g.length) (W : WF l) (I : In g l)
    (h : ∀ w : PQ, 0 < w.2 → hasS w l = (hasS w (spansF [] g bs) || hasS w (spansF [] g cs))) : l = spansF [] g (List.zipWith (fun a b => a || b) bs cs) := by
  refine set_eq G (by rw [List.length_zipWith, hb, hc, Nat.min_self]) W I fun w k p w0 w1 hp lo hi => ?_
  obtain ⟨b, eb⟩ := get_some hb (kin hp)
  obtain ⟨c, ec⟩ := get_some hc (kin hp)
  rw [List.getElem?_zipWith, eb, ec, h w w0, has_at G hb w0 hp lo hi eb, has_at G hc w0 hp lo hi ec]
theorem not_eq {g : List PQ} {bs : List Bool} {l : List SpT} (G : GridOk g) (hb : bs.length = g.length) (W : WF l) (I : In g l)
    (h : ∀ w : PQ, 0 < w.2 → 0 ≤ w.1 → hasS w l = !hasS w (spansF [] g bs)) : l = spansF [] g (bs.map not) := by
  refine set_eq G (by rw [List.length_map, hb]) W I fun w k p w0 w1 hp lo hi => ?_
  obtain ⟨b, eb⟩ := get_some hb (kin hp)
  rw [List.getElem?_map, eb, h w w0 w1, has_at G hb w0 hp lo hi eb]
  rfl
theorem and_not : ∀ (bs cs : List Bool), (List.zipWith (fun a b => a || b) (bs.map not) (cs.map not)).map not = List.zipWith (fun a b => a && b) bs cs
  | [], _ => rfl
  | _ :: _, [] => rfl
  | b :: bs, c :: cs => by
    show (!((!b) || (!c))) :: _ = (b && c) :: _
    rw [and_not bs cs]
    cases b <;> cases c <;> rfl
/-! ### what the defs are worth -/
abbrev fs_greater : FSpec := fun ds R _ => ∃ p q : PQ, ds = [toP p, toP q] ∧ (Sm 400 p.1 ∧ Sm 400 p.2 ∧ Sm 400 q.1 ∧ Sm 400 q.2) ∧ R (.val (toP (if ltP p q then q else p)))
abbrev fs_later : FSpec := fun ds R _ => ∃ (G : List PQ) (a b : Option PQ), ds = [nxD a, nxD b] ∧ Grd G ∧ (∀ h, a = some h → h ∈ G) ∧ (∀ h, b = some h → h ∈ G) ∧ R (.val (nxD (laterF a b)))
abbrev fs_merged : FSpec := fun ds R _ => ∃ (G : List PQ) (l1 l2 : List SpT), ds = [.lst (l1.map toS), .lst (l2.map toS)] ∧ Grd G ∧ In G l1 ∧ In G l2 ∧ Asc l1 ∧ Asc l2 ∧ l1.length ≤ 40 ∧ l2.length ≤ 40 ∧
  ∀ m : List SpT, Asc m → (∀ s, s ∈ m ↔ s ∈ l1 ∨ s ∈ l2) → m.length = l1.length + l2.length → R (.own (m.map toS))
abbrev fs_joined : FSpec := fun ds R _ => ∃ (G : List PQ) (ps : List SpT), ds = [.lst (ps.map toS)] ∧ Grd G ∧ In G ps ∧ Asc ps ∧ (∀ s ∈ ps, below s.1 s.2 = true) ∧ ps.length ≤ 80 ∧
  ∀ m : List SpT, WF m → In G m → (∀ w : PQ, 0 < w.2 → hasS w m = hasS w ps) → R (.own (m.map toS))
abbrev fs_by_low (n : Nat) : FSpec := fun ds R _ => ∃ (G : List PQ) (ps : List SpT), ds = [.lst (ps.map toS)] ∧ n ≠ 0 ∧ Grd G ∧ In G ps ∧ ps.length ≤ 2 ^ (n - 1) ∧ ps.length ≤ 40 ∧
  ∀ m : List SpT, Asc m → (∀ s, s ∈ m ↔ s ∈ ps) → m.length = ps.length → R (.own (m.map toS)) ∧ R (.val (.lst (m.map toS)))
abbrev fs_look_at (C : Addr) : FSpec := fun ds R Ex => ∃ d, ds = [d] ∧ ok3 d = true ∧ sz3 d ∧ ((isSpansD d = false ∧ False ∧ Ex (.ref C)) ∨ (isSpansD d = true ∧ R (.val .non)))
abbrev fs_outside (C : Addr) : FSpec := fun ds R Ex => ∃ d, ds = [d] ∧ ok3 d = true ∧ sz3 d ∧ ((isSpansD d = false ∧ False ∧ Ex (.ref C)) ∨
  (∃ (G : List PQ) (ps : List SpT), d = .lst (ps.map toS) ∧ isSpansD d = true ∧ Grd G ∧ (0, 1) ∈ G ∧ In G ps ∧ WF ps ∧ ps.length ≤ 40 ∧
    ∀ m : List SpT, WF m → In G m → (∀ w : PQ, 0 < w.2 → 0 ≤ w.1 → hasS w m = !hasS w ps) → R (.own (m.map toS))))
abbrev fs_united (C : Addr) : FSpec := fun ds R Ex => ∃ d e, ds = [d, e] ∧ (ok3 d = true ∧ sz3 d ∧ ok3 e = true ∧ sz3 e) ∧ ((isSpansD d = false ∧ False ∧ Ex (.ref C)) ∨ (isSpansD d = true ∧ isSpansD e = false ∧ False ∧ Ex (.ref C)) ∨
  (∃ (G : List PQ) (ps qs : List SpT), d = .lst (ps.map toS) ∧ e = .lst (qs.map toS) ∧ isSpansD d = true ∧ isSpansD e = true ∧ Grd G ∧ In G ps ∧ In G qs ∧ WF ps ∧ WF qs ∧ ps.length ≤ 40 ∧ qs.length ≤ 40 ∧
    ∀ m : List SpT, WF m → In G m → (∀ w : PQ, 0 < w.2 → hasS w m = (hasS w ps || hasS w qs)) → R (.own (m.map toS))))
abbrev fs_common (C : Addr) : FSpec := fun ds R Ex => ∃ d e, ds = [d, e] ∧ (ok3 d = true ∧ sz3 d ∧ ok3 e = true ∧ sz3 e) ∧ ((isSpansD d = false ∧ False ∧ Ex (.ref C)) ∨
  (isSpansD e = false ∧ (False ∧ Ex (.ref C)) ∧ ∃ (G : List PQ) (ps : List SpT), d = .lst (ps.map toS) ∧ isSpansD d = true ∧ Grd G ∧ (0, 1) ∈ G ∧ In G ps ∧ WF ps ∧ ps.length ≤ 40) ∨
  (∃ (g : List PQ) (bs cs : List Bool), GridOk g ∧ bs.length = g.length ∧ cs.length = g.length ∧ d = .lst ((spansF [] g bs).map toS) ∧ e = .lst ((spansF [] g cs).map toS) ∧ R (.own ((spansF [] g (List.zipWith (fun a b => a && b) bs cs)).map toS))))
abbrev fs_spans_of (C : Addr) : FSpec := fun ds R Ex => ∃ d, ds = [d] ∧ ok3 d = true ∧ sz3 d ∧ ((isPairsD d = false ∧ Ex (.ref C)) ∨
  (∃ (G : List PQ) (ps : List SpT), d = .lst (ps.map toS) ∧ isPairsD d = true ∧ Grd G ∧ (∀ s ∈ ps, s.1 ∈ G ∧ (∀ h, s.2 = some h → Sm 400 h.1 ∧ Sm 400 h.2) ∧ (below s.1 s.2 = true → ∀ h, s.2 = some h → h ∈ G)) ∧ ps.length ≤ 12 ∧
    ∀ m : List SpT, WF m → In G m → (∀ w : PQ, 0 < w.2 → hasS w m = hasS w (ps.filter fun s => below s.1 s.2)) → R (.own (m.map toS))))
theorem in_sm {G : List PQ} (hG : Grd G) {p : PQ} (h : p ∈ G) : Sm 400 p.1 ∧ Sm 400 p.2 := ⟨Sm.le (hG p h).s1 (by decide), Sm.le (hG p h).s2 (by decide)⟩
theorem spans_len40 {g : List PQ} (G : GridOk g) (bs : List Bool) : (spansF [] g bs).length ≤ 40 := by
  have k := spans_len g bs []
  have k2 := G.most
  simp only [List.length_nil] at k
  omega
theorem cut_from' {l : List SpT} {i : Nat} (h : i ≤ (l.map toS).length) : Y.cutD (l.map toS) (some (i : Int)) none = (l.drop i).map toS := by
  unfold Y.cutD
  rw [HT.sIx_nat, HT.sIx_none, Nat.min_eq_left h, ← List.map_drop, List.take_of_length_le (by simp)]
theorem cut_to' {l : List SpT} {i : Nat} (h : i ≤ (l.map toS).length) : Y.cutD (l.map toS) none (some (i : Int)) = (l.take i).map toS := by
  unfold Y.cutD
  rw [HT.sIx_nat, HT.sIx_none, Nat.min_eq_left h, List.drop_zero, Nat.sub_zero, List.map_take]
end Wd
end

section
namespace Wd
open PySem PySem.Spec PyProof.Rows L2 Y
/-! ### pairs of ends of a grid, and the cells that they have -/
def keep (ps : List SpT) : List SpT := ps.filter fun s => below s.1 s.2
theorem keep_app {ps qs : List SpT} : keep (ps ++ qs) = keep ps ++ keep qs := List.filter_append _ _
structure POks (g : List PQ) (ps : List SpT) : Prop where
  lo : ∀ s ∈ ps, s.1 ∈ g
  hi : ∀ s ∈ ps, ∀ h, s.2 = some h → (h ∈ g ∨ h.1 < 0) ∧ 0 < h.2 ∧ Nat.gcd h.1.natAbs h.2.natAbs = 1 ∧ Sm 100 h.1 ∧ Sm 100 h.2
def HasCells (g : List PQ) (ps : List SpT) (bs : List Bool) : Prop :=
  ∀ (w : PQ) (k : Nat) (p : PQ), 0 < w.2 → 0 ≤ w.1 → g[k]? = some p → leP p w → (∀ q, g[k + 1]? = some q → ltP w q) → bs[k]? = some (hasS w (keep ps))
section
variable {g : List PQ} (G : GridOk g)
include G
theorem grid_lt {i j : Nat} {p q : PQ} (h : i < j) (hp : g[i]? = some p) (hq : g[j]? = some q) : ltP p q := by
  obtain ⟨k1, e1⟩ := List.getElem?_eq_some_iff.mp hp
  obtain ⟨k2, e2⟩ := List.getElem?_eq_some_iff.mp hq
  have w := List.pairwise_iff_getElem.mp G.inc i j k1 k2 h
  rw [e1, e2] at w
  exact w
theorem cell_lo {w p q : PQ} {k a : Nat} (hw : 0 < w.2) (hp : g[k]? = some p) (lo : leP p w) (hi : ∀ q, g[k + 1]? = some q → ltP w q) (ha : g[a]? = some q) : decide (ltP w q) = decide (k < a) := by
  have p0 := (G.ok p (List.mem_of_getElem? hp)).bot
  have q0 := (G.ok q (List.mem_of_getElem? ha)).bot
  refine decide_eq_decide.mpr ⟨fun h => ?_, fun h => ?_⟩
  · by_cases c : k < a
    · exact c
    · exfalso
      have z : leP q p := by
        by_cases d : a = k
        · subst d
          rw [hp] at ha
          injection ha with ha
          rw [ha]
          exact Int.le_refl _
        · exact lt_le (grid_lt G (by omega) ha hp)
      exact nlt_of_le (le_trans' q0 p0 hw z lo) h
  · obtain ⟨x, hx⟩ : ∃ x, g[k + 1]? = some x := ⟨_, List.getElem?_eq_getElem (by have := kin ha; omega)⟩
    have x0 := (G.ok x (List.mem_of_getElem? hx)).bot
    by_cases d : a = k + 1
    · subst d
      exact hi q ha
    · exact lt_trans' hw x0 q0 (lt_le (hi x hx)) (grid_lt G (by omega) hx ha)
theorem pair_cell {w p pa : PQ} {k a c : Nat} (hw : 0 < w.2) (hp : g[k]? = some p) (lo : leP p w) (hi : ∀ q, g[k + 1]? = some q → ltP w q) (ha : g[a]? = some pa) (hc : c ≤ g.length) :
    hasS w (keep [(pa, g[c]?)]) = (decide (a ≤ k) && decide (k < c)) := by
  have e1 := cell_lo G hw hp lo hi ha
  have hk := kin hp
  have ins : inS w (pa, g[c]?) = (decide (a ≤ k) && decide (k < c)) := by
    show (!decide (ltP w pa) && below w g[c]?) = _
    rw [e1]
    have e2 : below w g[c]? = decide (k < c) := by
      by_cases d : c < g.length
      · obtain ⟨q, hq⟩ : ∃ q, g[c]? = some q := ⟨_, List.getElem?_eq_getElem d⟩
        rw [hq]
        exact cell_lo G hw hp lo hi hq
      · rw [List.getElem?_eq_none (by omega)]
        exact (decide_eq_true (by omega)).symm
    rw [e2]
    congr 1
    by_cases d : a ≤ k
    · rw [decide_eq_true d, decide_eq_false (by omega)]
      rfl
    · rw [decide_eq_false d, decide_eq_true (by omega)]
      rfl
  have hk2 : keep [(pa, g[c]?)] = if below pa g[c]? then [(pa, g[c]?)] else [] := by
    unfold keep
    rw [List.filter_cons]
    rfl
  rw [hk2]
  by_cases b : below pa g[c]? = true
  · rw [if_pos b, hasS_one, ins]
  · rw [if_neg b]
    have hca : c ≤ a := by
      by_cases d : c < g.length
      · obtain ⟨q, hq⟩ : ∃ q, g[c]? = some q := ⟨_, List.getElem?_eq_getElem d⟩
        rw [hq] at b
        by_cases z : c ≤ a
        · exact z
        · exact absurd (decide_eq_true (grid_lt G (by omega) ha hq)) b
      · rw [List.getElem?_eq_none (by omega)] at b
        exact absurd rfl b
    show false = _
    by_cases d : a ≤ k
    · rw [decide_eq_false (show ¬ k < c by omega), Bool.and_false]
    · rw [decide_eq_false d, Bool.false_and]
theorem neg_keep {pa : PQ} (ha : pa ∈ g) {x : Int} (hx : x < 0) : keep [(pa, some (x, 1))] = [] := by
  have b : below pa (some (x, 1)) = false := by
    refine decide_eq_false fun z => ?_
    have P := G.ok pa ha
    have t := P.top
    have z' : pa.1 * 1 < x * pa.2 := z
    have k := Int.mul_neg_of_neg_of_pos hx P.bot
    omega
  unfold keep
  rw [List.filter_cons, b]
  rfl
theorem pok_pair {ps : List SpT} (h : POks g ps) : (∀ x ∈ ps.map toS, isPairD x = true ∧ szP x ∧ ok2 x = true) := by
  intro x hx
  obtain ⟨s, hs, rfl⟩ := List.mem_map.mp hx
  have P := G.ok _ (h.lo s hs)
  have ps1 := P.s1
  have ps2 := P.s2
  refine ⟨?_, ⟨⟨Sm.le ps1 (by decide), Sm.le ps2 (by decide)⟩, ?_⟩, ?_⟩
  · show (isWidthD (toP s.1) && (isNon (nxD s.2) || isPartD (nxD s.2))) = true
    rw [widthD P]
    cases e : s.2 with
    | none => rfl
    | some q =>
      obtain ⟨_, q0, qg, _, _⟩ := h.hi s hs q e
      show (true && (false || (decide (0 < q.2) && decide (Nat.gcd q.1.natAbs q.2.natAbs = 1)))) = true
      rw [decide_eq_true q0, decide_eq_true qg]
      rfl
  · cases e : s.2 with
    | none => trivial
    | some q =>
      obtain ⟨_, _, _, k1, k2⟩ := h.hi s hs q e
      exact ⟨Sm.le k1 (by decide), Sm.le k2 (by decide)⟩
  · show (true && tyOk (nxD s.2)) = true
    cases e : s.2 with
    | none => rfl
    | some q => rfl
theorem pok_spans {ps : List SpT} (h : POks g ps) : ∀ s ∈ ps, s.1 ∈ g ∧ (∀ x, s.2 = some x → Sm 400 x.1 ∧ Sm 400 x.2) ∧ (below s.1 s.2 = true → ∀ x, s.2 = some x → x ∈ g) := fun s hs => by
  refine ⟨h.lo s hs, fun x e => ?_, fun b x e => ?_⟩
  · obtain ⟨_, _, _, k1, k2⟩ := h.hi s hs x e
    exact ⟨Sm.le k1 (by decide), Sm.le k2 (by decide)⟩
  · obtain ⟨k, x0, _, _, _⟩ := h.hi s hs x e
    rcases k with k | k
    · exact k
    · exfalso
      have P := G.ok _ (h.lo s hs)
      have l : s.1.1 * x.2 < x.1 * s.1.2 := up_lt b e
      have a1 := Int.mul_nonneg P.top (Int.le_of_lt x0)
      have a2 := Int.mul_neg_of_neg_of_pos k P.bot
      omega
end
theorem dep_S {s : SpT} : (toS s).dep ≤ 2 := by
  obtain ⟨a, b⟩ := s
  cases b with
  | none => exact Nat.le_of_ble_eq_true rfl
  | some b => exact Nat.le_of_ble_eq_true rfl
abbrev fs_law_pairs : FSpec := fun ds R _ => ∃ (g : List PQ) (rows : List Int) (many : Nat), ds = [.lst (g.map toP), .lst (rows.map D.int), .int many] ∧ GridOk g ∧ (∀ x ∈ rows, 0 ≤ x ∧ x < 10 ^ 40) ∧ many ≤ 12 ∧ many ≤ rows.length ∧
  ∀ (ps : List SpT) (bs : List Bool), ps.length = many → bs.length = g.length → POks g ps → HasCells g ps bs → R (.val (.tup [.lst (ps.map toS), .lst (bs.map D.bl)]))
structure Odd (d : D) : Prop where
  no : isPairsD d = false
  ok : ok3 d = true
  sz : sz3 d
abbrev fs_law_none : FSpec := fun ds R _ => ∃ n : Int, ds = [.int n] ∧ ∀ d, Odd d → R (.val d)
abbrev fs_law_refused : FSpec := fun ds R _ => ∃ (n : Int) (d : D), ds = [.int n, d] ∧ ok3 d = true ∧ sz3 d ∧ isSpansD d = false ∧ (n = 0 → isPairsD d = false) ∧ R (.val (.bl true))
/-- what isinstance tells of an error of the class at C, the one that is called x -/
structure KitX (K : PySem.W.Frag) (C : Addr) (x : Str) (c0 c1 c2 c3 c4 c5 c6 c7 c8 c9 : Addr) : Prop where
  e : ExcC K C
  ve : PySem.W.kitOne K (.ref C) (.type "ValueError") = some true
  k0 : PySem.W.kitOne K (.ref C) (.ref c0) = some (decide (("NoPart" : Str) = x))
  k1 : PySem.W.kitOne K (.ref C) (.ref c1) = some (decide (("NoSpan" : Str) = x))
  k2 : PySem.W.kitOne K (.ref C) (.ref c2) = some (decide (("NoBox" : Str) = x))
  k3 : PySem.W.kitOne K (.ref C) (.ref c3) = some (decide (("NoText" : Str) = x))
  k4 : PySem.W.kitOne K (.ref C) (.ref c4) = some (decide (("NoItem" : Str) = x))
  k5 : PySem.W.kitOne K (.ref C) (.ref c5) = some (decide (("NoName" : Str) = x))
  k6 : PySem.W.kitOne K (.ref C) (.ref c6) = some (decide (("NoWish" : Str) = x))
  k7 : PySem.W.kitOne K (.ref C) (.ref c7) = some (decide (("NoChange" : Str) = x))
  k8 : PySem.W.kitOne K (.ref C) (.ref c8) = some (decide (("NoRow" : Str) = x))
  k9 : PySem.W.kitOne K (.ref C) (.ref c9) = some (decide (("TooMany" : Str) = x))
abbrev fs_law_of_class (C : Addr) (x : Str) : FSpec := fun ds R _ => ds = [.exc C, .str x] ∧ R (.val (.bl true))
def szTB : D → Bool
  | .tup [.int a, .int b] => decide (a.natAbs < 1000) && decide (b.natAbs < 1000)
  | _ => true
def szPB : D → Bool
  | .tup [x, y] => szTB x && szTB y
  | _ => true
def sz3B : D → Bool
  | .lst xs => decide (xs.length ≤ 1000) && xs.all szPB
  | _ => true
theorem szT_of {d : D} (h : szTB d = true) : szT d := by
  unfold szTB at h
  split at h
  · rw [Bool.and_eq_true] at h
    have a := of_decide_eq_true h.1
    have b := of_decide_eq_true h.2
    have k : (1000 : Nat) ≤ 2 ^ 10 := by decide
    exact ⟨Sm.le (n := 10) (show _ < 2 ^ 10 by omega) (by decide), Sm.le (n := 10) (show _ < 2 ^ 10 by omega) (by decide)⟩
  · rename_i no
    unfold szT
    split
    · exact absurd rfl (no _ _)
    · trivial
theorem szP_of {d : D} (h : szPB d = true) : szP d := by
  unfold szPB at h
  split at h
  · rw [Bool.and_eq_true] at h
    exact ⟨szT_of h.1, szT_of h.2⟩
  · rename_i no
    unfold szP
    split
    · exact absurd rfl (no _ _)
    · trivial
theorem sz3_of {d : D} (h : sz3B d = true) : sz3 d := by
  cases d <;> first | trivial | skip
  rename_i xs
  have h' : (decide (xs.length ≤ 1000) && xs.all szPB) = true := h
  rw [Bool.and_eq_true] at h'
  exact ⟨of_decide_eq_true h'.1, fun x hx => szP_of (List.all_eq_true.mp h'.2 x hx)⟩
theorem pairs_spans {d : D} (z : isPairsD d = false) : isSpansD d = false := by
  cases d <;> first | rfl | skip
  rename_i ys
  show (ys.all isPairD && _) = false
  rw [show ys.all isPairD = false from z, Bool.false_and]
end Wd
end

section
namespace Y
open PySem PySem.Spec PyProof.Rows L2
/-! ### a list of two lists of one's own, which are changed in place -/
/-- data that asks nothing of the lists at ps -/
def Fre (ps : List Addr) (d : D) : Prop := d.imm = true ∨ ∃ q ds, d = .pin q (.lst ds) ∧ immAll ds = true ∧ ¬ q ∈ ps
def FreS (ps : List Addr) : Slot → Prop
  | .emp => True
  | .val d => Fre ps d
  | .own ds => ∀ d ∈ ds, Fre ps d
def Pinned (ρ : List Slot) (q : Addr) : Prop := (∃ (j : Nat) (ds es : List D), ρ[j]? = some (Slot.own ds) ∧ D.pin q (D.lst es) ∈ ds) ∨ ∃ (j : Nat) (es : List D), ρ[j]? = some (Slot.val (.pin q (D.lst es)))
section
variable {K : PySem.W.Frag} {Ex : Value → List Slot → Prop} {E : L2.St → XK} {ρ : List Slot} {De : DE} {G0 H0 G : Hp} {σ : L2.St} {H : Hp}
theorem Rp.inv_pin {G : Hp} {v : V} {a : Addr} {d : D} (h : Rp K G v (.pin a d)) : v = .ref a ∧ Rp K G (.ref a) d := by
  cases h with
  | pin h => exact ⟨rfl, h⟩
theorem Rp.mem {G : Hp} : ∀ {vs : List V} {ds : List D} {d : D}, Rps K G vs ds → d ∈ ds → ∃ v, Rp K G v d
  | _, _, d, .nil, h => by cases h
  | _, _, d, .cons h r, m => by
    rcases List.mem_cons.mp m with rfl | m
    · exact ⟨_, h⟩
    · exact Rp.mem r m
theorem fre_rp {ps : List Addr} {G' G5 : Hp} (hl : ∀ p ∈ ps, ∃ xs, G' p = some (.lst xs)) (h5 : ∀ b, ¬ b ∈ ps → G5 b = G' b) {v : V} {d : D} (r : Rp K G' v d) (f : Fre ps d) : Rp K G5 v d := by
  have nl : ∀ b o, G' b = some o → (∀ xs, o ≠ .lst xs) → G5 b = some o := fun b o e n => by
    by_cases hb : b ∈ ps
    · obtain ⟨xs, h⟩ := hl b hb
      rw [e] at h
      exact absurd (Option.some.inj h) (n xs)
    · rw [h5 b hb]
      exact e
  rcases f with f | ⟨q, ds, rfl, im, nq⟩
  · exact Rp.imm nl r f
  · obtain ⟨rfl, r2⟩ := r.inv_pin
    obtain ⟨a, xs, e, g, rr⟩ := r2.inv_lst
    have e' := V.ref.inj e
    subst e'
    exact .pin (.lst (by rw [h5 _ nq]; exact g) (Rps.imm nl rr im))
theorem fre_rps {ps : List Addr} {G' G5 : Hp} (hl : ∀ p ∈ ps, ∃ xs, G' p = some (.lst xs)) (h5 : ∀ b, ¬ b ∈ ps → G5 b = G' b) : ∀ {vs : List V} {ds : List D}, Rps K G' vs ds → (∀ d ∈ ds, Fre ps d) → Rps K G5 vs ds
  | _, _, .nil, _ => .nil
  | _, _, .cons r rr, f => .cons (fre_rp hl h5 r (f _ (List.mem_cons_self ..))) (fre_rps hl h5 rr fun d hd => f d (List.mem_cons_of_mem _ hd))
theorem e_valPin {i : Nat} {a : Addr} {d : D} {R : Res → Prop} (hi : ρ[i]? = some (.val (.pin a d))) (h : R (.val d)) : tE K Ex E (tVar i) ρ R := fun G0 H0 G σ H Q S X k => by
  obtain ⟨v, h1, h2⟩ := S.val i _ hi
  obtain ⟨rfl, r⟩ := h2.inv_pin
  exact ⟨_, h1, k _ h _ G H (Ev.refl S.ev.sub) r⟩
theorem e_unpin {t : TE} {R : Res → Prop} (h : tE K Ex E t ρ fun r => ∃ a d, r = .val (.pin a d) ∧ R (.val d)) : tE K Ex E t ρ R := fun G0 H0 G σ H Q S X k =>
  h G0 H0 G σ H Q S X fun r ⟨a, d, e, hr⟩ v G' H' ev ok => by
    subst e
    obtain ⟨rfl, r⟩ := Rp.inv_pin (show Rp K G' v (.pin a d) from ok)
    exact k _ hr _ G' H' ev r
theorem s_pinVal {t : TS} {i : Nat} {ds : List D} (hi : ρ[i]? = some (.val (.lst ds))) (h : ∀ p, tS K Ex E t (ρ.set i (.val (.pin p (.lst ds)))) De) : tS K Ex E t ρ De := fun G0 H0 G σ H D S X k => by
  obtain ⟨v, h1, h2⟩ := S.val i _ hi
  obtain ⟨a, xs, rfl, g, rr⟩ := h2.inv_lst
  have S' := S.setVal (i := i) (v := .ref a) (d := .pin a (.lst ds)) (.pin (.lst g rr))
  have e : σ.set i (some (.ref a)) = σ := by
    obtain ⟨hl, hg⟩ := List.getElem?_eq_some_iff.mp h1
    rw [← hg, List.set_getElem_self]
  rw [e] at S'
  exact h a G0 H0 G σ H D S' X k
theorem s_pinOwn {t : TS} {i : Nat} {a b : List D} (hi : ρ[i]? = some (.own [.lst a, .lst b])) (h : ∀ p q, tS K Ex E t (ρ.set i (.own [.pin p (.lst a), .pin q (.lst b)])) De) : tS K Ex E t ρ De := fun G0 H0 G σ H D S X k => by
  obtain ⟨l, xs, h1, h2, h3, h4, h5⟩ := S.own i _ hi
  cases h5 with
  | cons ra r5 =>
    cases r5 with
    | cons rb r5 =>
      cases r5
      obtain ⟨p, xa, rfl, ga, rra⟩ := ra.inv_lst
      obtain ⟨q, xb, rfl, gb, rrb⟩ := rb.inv_lst
      have S' := S.chg hi h1 (ys := [.ref p, .ref q]) (es := [.pin p (.lst a), .pin q (.lst b)]) (.cons (.pin (.lst ga rra)) (.cons (.pin (.lst gb rrb)) .nil))
      have e : upd H l (.lst [.ref p, .ref q]) = H := by
        funext x
        by_cases hx : x = l
        · subst hx
          rw [upd_same, h4]
        · rw [upd_ne hx]
      rw [e] at S'
      exact h p q G0 H0 G σ H D S' X k
def strip : D → D
  | .pin _ d => d
  | d => d
theorem Rp.strip {G : Hp} {v : V} {d : D} (r : Rp K G v d) : Rp K G v (Y.strip d) := by
  cases r with
  | pin h => exact h
  | non => exact .non
  | bl b => exact .bl b
  | int i => exact .int i
  | str x => exact .str x
  | ty n => exact .ty n
  | cls C => exact .cls C
  | tup h r => exact .tup h r
  | lst h r => exact .lst h r
  | fz h r => exact .fz h r
  | exc h hd => exact .exc h hd
  | dk0 h => exact .dk0 h
theorem Rps.strip {G : Hp} : ∀ {vs : List V} {ds : List D}, Rps K G vs ds → Rps K G vs (ds.map Y.strip)
  | _, _, .nil => .nil
  | _, _, .cons h r => .cons h.strip (Rps.strip r)
/-- what is handed over may be pinned -/
theorem e_callU {f : FSpec} {t : TA} {R : Res → Prop} {dvs : List V} {dds : List D} (hd : ∀ G, Rps K G dvs dds) (h : tVs K Ex E t ρ fun ds => f (ds.map strip ++ dds) R fun _ => False) : tE K Ex E (tCall (spD K f) dvs E0 t) ρ R :=
  fun G0 H0 G σ H Q S X k => h G0 H0 G σ H _ S X fun ds hf vs G1 H1 e1 r1 =>
    ⟨G1, ds.map strip ++ dds, R, fun _ => False, e1.sub, r1.strip.append (hd G1), hf, fun r hr v G2 H2 e2 r2 => k r hr v G2 H2 (e1.trans e2) (r2.from fun l n => e1.hs.free n), fun c hc _ _ _ _ => hc.elim⟩
theorem s_stripVal {t : TS} {i : Nat} {d e : D} (hi : ρ[i]? = some (.val d)) (he : strip d = e) (h : tS K Ex E t (ρ.set i (.val e)) De) : tS K Ex E t ρ De := fun G0 H0 G σ H D S X k => by
  subst he
  obtain ⟨v, h1, h2⟩ := S.val i _ hi
  have S' := S.setVal (i := i) (v := v) (d := strip d) h2.strip
  have e : σ.set i (some v) = σ := by
    obtain ⟨hl, hg⟩ := List.getElem?_eq_some_iff.mp h1
    rw [← hg, List.set_getElem_self]
  rw [e] at S'
  exact h G0 H0 G σ H D S' X k
theorem s_unpinOwn {t : TS} {i : Nat} {ds es : List D} {ρ' : List Slot} (hi : ρ[i]? = some (.own ds)) (he : ds.map strip = es) (hs : SS ρ i (.own es) ρ') (h : tS K Ex E t ρ' De) : tS K Ex E t ρ De := fun G0 H0 G σ H D S X k => by
  rw [hs.eq] at h
  subst he
  obtain ⟨l, xs, h1, h2, h3, h4, h5⟩ := S.own i _ hi
  have S' := S.chg hi h1 (ys := xs) (es := ds.map strip) h5.strip
  have e : upd H l (.lst xs) = H := by
    funext x
    by_cases hx : x = l
    · subst hx
      rw [upd_same, h4]
    · rw [upd_ne hx]
  rw [e] at S'
  exact h G0 H0 G σ H D S' X k
def dropL (ρ : List Slot) : List Nat → List Slot
  | [] => ρ
  | i :: r => dropL (ρ.set i .emp) r
theorem Sig.dropL {G0 H0 G : Hp} {σ : L2.St} {H : Hp} : ∀ (r : List Nat) {ρ : List Slot}, Sig K G0 H0 G ρ σ H → Sig K G0 H0 G (Y.dropL ρ r) σ H
  | [], _, S => S
  | i :: r, _, S => Sig.dropL r (S.drop i)
/-- xs = [e0, e1]; block; xs[0].append(None); xs[1].clear(); rest -/
theorem s_nested {i : Nat} {t0 t1 : TE} {B u : TS} (hi : i < ρ.length)
    (h : tE K Ex E t0 ρ fun r0 => ∃ ds0, r0 = .own ds0 ∧ ds0.length < sizeLine ∧ tE K Ex E t1 ρ fun r1 => ∃ ds1, r1 = .own ds1 ∧
      ∀ l p0 p1 : Addr, (∀ q, Pinned ρ q → ¬ q ∈ [l, p0, p1]) →
        tS K Ex E B (ρ.set i (.val (.pin l (.lst [.lst ds0, .lst ds1])))) { nx := fun ρ1 => ∃ (r : List Nat) (ρ' : List Slot), dropL ρ1 r = ρ' ∧ (∃ d, ρ'[i]? = some (.val (.pin l d))) ∧ (∀ j s, i ≠ j → ρ'[j]? = some s → FreS [l, p0, p1] s) ∧ tS K Ex E u (ρ'.set i .emp) De, rt := fun _ => False }) :
    tS K Ex E (tSeq (tAsg (tLst (tCons t0 (tCons t1 tNil))) (gName i)) (tSeq B (tSeq (tDrop (tBM K "list" rAppend (tOp (rIx K) (tVar i) (tC (.int 0))) (tCons (tC .non) tNil)))
      (tSeq (tDrop (tBM0 K "list" rClear (tOp (rIx K) (tVar i) (tC (.int 1))))) u)))) ρ De := by
  intro G0 H0 G σ H D S X k
  refine h G0 H0 G σ H _ S X fun r0 ⟨ds0, e0, len0, h1⟩ v0 G1 H1 e1 r1 => ?_
  subst e0
  obtain ⟨p0, xs0, rfl, a1, a2, a3, a4⟩ := r1
  refine h1 G0 H0 G1 σ H1 _ (S.step e1) X fun r1 ⟨ds1, e1', hb⟩ v1 G2 H2 e2 r2 => ?_
  subst e1'
  obtain ⟨p1, xs1, rfl, b1, b2, b3, b4⟩ := r2
  refine ⟨Nat.le_of_ble_eq_true rfl, fun l nl => ?_⟩
  have S2 := (S.step e1).step e2
  have hp0 : H2 p0 = some (.lst xs0) := e2.hs _ _ a3
  have gp0 : G2 p0 = none := e2.new p0 xs0 a3 a2
  have gl : G2 l = none := e2.sub.free nl
  have n01 : p0 ≠ p1 := fun z => by
    rw [z, b1] at a3
    cases a3
  have nl0 : l ≠ p0 := fun z => by
    rw [z, hp0] at nl
    cases nl
  have nl1 : l ≠ p1 := fun z => by
    rw [z, b3] at nl
    cases nl
  have z0 : H0 p0 = none := S.ev.hs.free a1
  have z1 : H0 p1 = none := (S.step e1).ev.hs.free b1
  have zl : H0 l = none := S2.ev.hs.free nl
  obtain ⟨H3, eH3⟩ : ∃ H3, upd H2 l (.lst [.ref p0, .ref p1]) = H3 := ⟨_, rfl⟩
  obtain ⟨G3, eG3⟩ : ∃ G3, upd (upd (upd G2 p0 (.lst xs0)) p1 (.lst xs1)) l (.lst [.ref p0, .ref p1]) = G3 := ⟨_, rfl⟩
  have g3l : G3 l = some (.lst [.ref p0, .ref p1]) := by rw [← eG3, upd_same]
  have g31 : G3 p1 = some (.lst xs1) := by rw [← eG3, upd_ne nl1.symm, upd_same]
  have g30 : G3 p0 = some (.lst xs0) := by rw [← eG3, upd_ne nl0.symm, upd_ne n01, upd_same]
  have g3o : ∀ b, b ≠ l → b ≠ p0 → b ≠ p1 → G3 b = G2 b := fun b k1 k2 k3 => by rw [← eG3, upd_ne k1, upd_ne k3, upd_ne k2]
  have h3l : H3 l = some (.lst [.ref p0, .ref p1]) := by rw [← eH3, upd_same]
  have h3o : ∀ b, b ≠ l → H3 b = H2 b := fun b k1 => by rw [← eH3, upd_ne k1]
  have sG : Same G2 G3 := fun b o e => by
    rw [g3o b (ne_of_none e gl) (ne_of_none e gp0) (ne_of_none e b2)]
    exact e
  have sH : Same H2 H3 := fun b o e => by
    rw [h3o b (ne_of_none e nl)]
    exact e
  have sub3 : Same G3 H3 := fun b o e => by
    by_cases k1 : b = l
    · subst k1
      rw [g3l] at e
      rw [h3l]
      exact e
    · rw [h3o b k1]
      by_cases k2 : b = p0
      · subst k2
        rw [g30] at e
        rw [hp0]
        exact e
      · by_cases k3 : b = p1
        · subst k3
          rw [g31] at e
          rw [b3]
          exact e
        · rw [g3o b k1 k2 k3] at e
          exact e2.sub _ _ e
  have S3 : Sig K G0 H0 G3 ρ σ H3 := by
    refine ⟨⟨S2.ev.hs.trans sH, S2.ev.gs.trans sG, sub3, fun b xs e g => ?_⟩, S2.len, fun j d hj => ?_, fun j ds hj => ?_, S2.inj⟩
    · rw [g3o b (ne_of_none e zl) (ne_of_none e z0) (ne_of_none e z1)]
      exact S2.ev.new b xs e g
    · obtain ⟨v, k1, k2⟩ := S2.val j d hj
      exact ⟨v, k1, k2.mono sG⟩
    · obtain ⟨m, xs, k1, k2, k3, k4, k5⟩ := S.own j ds hj
      obtain ⟨m', xs', q1, q2, q3, q4, q5⟩ := S2.own j ds hj
      rw [k1] at q1
      have em := V.ref.inj (Option.some.inj (Option.some.inj q1))
      subst em
      refine ⟨m, xs', k1, q2, ?_, by rw [h3o m (ne_of_none q4 nl)]; exact q4, q5.mono sG⟩
      rw [g3o m (ne_of_none q4 nl) (ne_of_none k4 a1) (ne_of_none (e1.hs _ _ k4) b1)]
      exact q3
  have S4 := S3.setVal (i := i) (v := .ref l) (d := .pin l (.lst [.lst ds0, .lst ds1])) (.pin (.lst g3l (.cons (.lst g30 ((a4.mono e2.gs).mono sG)) (.cons (.lst g31 (b4.mono sG)) .nil))))
  obtain ⟨HR, SR, le⟩ := S4.root
  have pins : ∀ q, Pinned ρ q → ¬ q ∈ [l, p0, p1] := fun q hq hm => by
    have hs : ∃ xs, H q = some (.lst xs) := by
      rcases hq with ⟨j, ds, es, hj, hm⟩ | ⟨j, es, hj⟩
      · obtain ⟨m, xs, k1, k2, k3, k4, k5⟩ := S.own j ds hj
        obtain ⟨v, rv⟩ := Rp.mem k5 hm
        obtain ⟨_, rv⟩ := rv.inv_pin
        obtain ⟨a, ys, e, g, _⟩ := rv.inv_lst
        have e' := V.ref.inj e
        subst e'
        exact ⟨ys, S.ev.sub _ _ g⟩
      · obtain ⟨v, k1, rv⟩ := S.val j _ hj
        obtain ⟨_, rv⟩ := rv.inv_pin
        obtain ⟨a, ys, e, g, _⟩ := rv.inv_lst
        have e' := V.ref.inj e
        subst e'
        exact ⟨ys, S.ev.sub _ _ g⟩
    obtain ⟨xs, hs⟩ := hs
    simp only [List.mem_cons, List.not_mem_nil, or_false] at hm
    rcases hm with rfl | rfl | rfl
    · rw [e2.hs _ _ (e1.hs _ _ hs)] at nl
      cases nl
    · rw [hs] at a1
      cases a1
    · rw [e1.hs _ _ hs] at b1
      cases b1
  rw [eH3]
  refine hb l p0 p1 pins G3 HR G3 _ H3 _ SR (fun c ρ' hc G' σ' H' dx S' hd => X c ρ' hc G' σ' H' dx (S'.up S4.ev le) hd) ⟨fun ρ1 G' σ' H' ⟨dl, ρ', edl, ⟨d, hi'⟩, fr, hu⟩ S1' => ?_, fun _ _ _ _ z => z.elim, fun _ _ _ _ z => z.elim, fun _ _ _ _ z => z.elim⟩
  have S' := S1'.dropL dl
  rw [edl] at S'
  have U := S'.up S4.ev le
  have gl' : G' l = some (.lst [.ref p0, .ref p1]) := S'.ev.gs _ _ g3l
  have g0' : G' p0 = some (.lst xs0) := S'.ev.gs _ _ g30
  have g1' : G' p1 = some (.lst xs1) := S'.ev.gs _ _ g31
  have hl' := S'.ev.sub _ _ gl'
  have h0' := S'.ev.sub _ _ g0'
  have h1' := S'.ev.sub _ _ g1'
  obtain ⟨v, vi, vr⟩ := S'.val i _ hi'
  obtain ⟨rfl, _⟩ := vr.inv_pin
  refine ⟨_, vi, .inl ⟨l, [.ref p0, .ref p1], 0, .ref p0, rfl, rfl, .inl (.inl hl'), atI_nat (j := 0) rfl, ?_⟩⟩
  refine ⟨.inl ⟨rfl, xs0, .inl (.inl h0')⟩, p0, xs0, .non, rfl, rfl, h0', by rw [a4.length]; exact len0, ?_⟩
  have hl4 : upd H' p0 (.lst (xs0 ++ [.non])) l = some (.lst [.ref p0, .ref p1]) := by rw [upd_ne nl0]; exact hl'
  have h14 : upd H' p0 (.lst (xs0 ++ [.non])) p1 = some (.lst xs1) := by rw [upd_ne n01.symm]; exact h1'
  refine ⟨_, vi, .inl ⟨l, [.ref p0, .ref p1], 1, .ref p1, rfl, rfl, .inl (.inl hl4), atI_nat (j := 1) rfl, ?_⟩⟩
  refine ⟨.inl ⟨rfl, xs1, .inl (.inl h14)⟩, p1, xs1, rfl, rfl, h14, ?_⟩
  obtain ⟨H5, eH5⟩ : ∃ H5, upd (upd H' p0 (.lst (xs0 ++ [.non]))) p1 (.lst []) = H5 := ⟨_, rfl⟩
  have h5o : ∀ b, b ≠ p0 → b ≠ p1 → H5 b = H' b := fun b k1 k2 => by rw [← eH5, upd_ne k2, upd_ne k1]
  have G5 : ∃ G5 : Hp, (∀ b, ¬ b ∈ [l, p0, p1] → G5 b = G' b) ∧ (∀ b, b ∈ [l, p0, p1] → G5 b = none) := ⟨fun b => if b ∈ [l, p0, p1] then none else G' b, fun b hb => if_neg hb, fun b hb => if_pos hb⟩
  obtain ⟨G5, g5o, g5n⟩ := G5
  have mem3 : ∀ b, ¬ b ∈ [l, p0, p1] ↔ b ≠ l ∧ b ≠ p0 ∧ b ≠ p1 := fun b => by
    simp only [List.mem_cons, List.not_mem_nil, or_false, not_or, ne_eq]
  have lists : ∀ p ∈ [l, p0, p1], ∃ xs, G' p = some (.lst xs) := fun p hp => by
    simp only [List.mem_cons, List.not_mem_nil, or_false] at hp
    rcases hp with rfl | rfl | rfl
    · exact ⟨_, gl'⟩
    · exact ⟨_, g0'⟩
    · exact ⟨_, g1'⟩
  have nj : ∀ (m : Nat) (s : Slot), s ≠ .emp → (ρ'.set i .emp)[m]? = some s → i ≠ m ∧ ρ'[m]? = some s := fun m s hs hm => by
    by_cases z : i = m
    · subst z
      by_cases hlt : i < ρ'.length
      · rw [get_set_eq hlt] at hm
        exact absurd (Option.some.inj hm).symm hs
      · rw [List.getElem?_eq_none (by rw [List.length_set]; omega)] at hm
        cases hm
    · rw [get_set_ne z] at hm
      exact ⟨z, hm⟩
  have S5 : Sig K G0 H0 G5 (ρ'.set i .emp) σ' H5 := by
    refine ⟨⟨fun b o e => ?_, fun b o e => ?_, fun b o e => ?_, fun b xs e g => ?_⟩, by rw [List.length_set]; exact U.len, fun j d hj => ?_, fun j ds hj => ?_, fun j m ds es a hj hm q1 q2 => ?_⟩
    · rw [h5o b (ne_of_none e z0) (ne_of_none e z1)]
      exact U.ev.hs _ _ e
    · have e' := S2.ev.gs _ _ e
      rw [g5o b ((mem3 b).mpr ⟨ne_of_none e' gl, ne_of_none e' gp0, ne_of_none e' b2⟩)]
      exact U.ev.gs _ _ e
    · by_cases hb : b ∈ [l, p0, p1]
      · rw [g5n b hb] at e
        cases e
      · obtain ⟨k1, k2, k3⟩ := (mem3 b).mp hb
        rw [g5o b hb] at e
        rw [h5o b k2 k3]
        exact U.ev.sub _ _ e
    · by_cases hb : b ∈ [l, p0, p1]
      · exact g5n b hb
      · rw [g5o b hb]
        exact U.ev.new b xs e g
    · obtain ⟨nz, hj'⟩ := nj j (.val d) (fun z => nomatch z) hj
      obtain ⟨v, k1, k2⟩ := U.val j d hj'
      exact ⟨v, k1, fre_rp lists g5o k2 (fr j _ nz hj')⟩
    · obtain ⟨nz, hj'⟩ := nj j (.own ds) (fun z => nomatch z) hj
      obtain ⟨m, xs, k1, k2, k3, k4, k5⟩ := U.own j ds hj'
      have hb : ¬ m ∈ [l, p0, p1] := fun hm => by
        obtain ⟨ys, hy⟩ := lists m hm
        rw [hy] at k3
        cases k3
      obtain ⟨_, c2, c3⟩ := (mem3 m).mp hb
      exact ⟨m, xs, k1, k2, by rw [g5o m hb]; exact k3, by rw [h5o m c2 c3]; exact k4, fre_rps lists g5o k5 (fr j _ nz hj')⟩
    · obtain ⟨_, hj'⟩ := nj j (.own ds) (fun z => nomatch z) hj
      obtain ⟨_, hm'⟩ := nj m (.own es) (fun z => nomatch z) hm
      exact U.inj j m ds es a hj' hm' q1 q2
  show u _ σ' (upd (upd H' p0 (.lst (xs0 ++ [.non]))) p1 (.lst []))
  rw [eH5]
  exact hu G0 H0 G5 σ' H5 D S5 X k
theorem s_nested4 {i : Nat} {t0 t1 : TE} {b1 b2 b3 b4 u : TS} (hi : i < ρ.length)
    (h : tE K Ex E t0 ρ fun r0 => ∃ ds0, r0 = .own ds0 ∧ ds0.length < sizeLine ∧ tE K Ex E t1 ρ fun r1 => ∃ ds1, r1 = .own ds1 ∧
      ∀ l p0 p1 : Addr, (∀ q, Pinned ρ q → ¬ q ∈ [l, p0, p1]) →
        tS K Ex E (tSeq b1 (tSeq b2 (tSeq b3 b4))) (ρ.set i (.val (.pin l (.lst [.lst ds0, .lst ds1])))) { nx := fun ρ1 => ∃ (r : List Nat) (ρ' : List Slot), dropL ρ1 r = ρ' ∧ (∃ d, ρ'[i]? = some (.val (.pin l d))) ∧ (∀ j s, i ≠ j → ρ'[j]? = some s → FreS [l, p0, p1] s) ∧ tS K Ex E u (ρ'.set i .emp) De, rt := fun _ => False }) :
    tS K Ex E (tSeq (tAsg (tLst (tCons t0 (tCons t1 tNil))) (gName i)) (tSeq b1 (tSeq b2 (tSeq b3 (tSeq b4 (tSeq (tDrop (tBM K "list" rAppend (tOp (rIx K) (tVar i) (tC (.int 0))) (tCons (tC .non) tNil)))
      (tSeq (tDrop (tBM0 K "list" rClear (tOp (rIx K) (tVar i) (tC (.int 1))))) u))))))) ρ De := s_nested hi h
theorem pg_tupK {X : Cx} {K : PySem.W.Frag} {pos : Pos} {es : List Expr} {k n : Nat} {t : TGs} (hc : X.calm = true) (h : PGs X es t) (hn : (assignEach es X.env).length = n := by rfl) (hf : List.findIdx? (fun x => x.fst) (assignEach es X.env) = none := by rfl) (hK : X.K = K := by rfl) : PG X (.Tuple es k pos) (gTup K n t) := by
  subst hK
  exact pg_tup hc h hn hf
end
end Y
end

section
namespace Y
open PySem PySem.Spec PyProof.Rows L2
section
variable {K : PySem.W.Frag} {Ex : Value → List Slot → Prop} {E : L2.St → XK} {ρ : List Slot} {R : Res → Prop} {ta tb : TE}
abbrev rMin2 : List V → Hp → VK → Prop := fun xs H Q => ∃ i j, xs = [.int i, .int j] ∧ Q (.int (if j < i then j else i)) H
theorem e_min2 (h : tE K Ex E ta ρ fun a => tE K Ex E tb ρ fun b => ∃ i j, a.dat = .int i ∧ b.dat = .int j ∧ R (.val (.int (min i j)))) : tE K Ex E (tCB rMin2 (tCons ta (tCons tb tNil))) ρ R :=
  e_cb (f := fun ds k => ∃ i j, ds = [.int i, .int j] ∧ k (.int (min i j))) (fun H vs ds Q k r ⟨i, j, e, hk⟩ hq => by
    subst e
    cases r with
    | cons r1 r =>
      cases r with
      | cons r2 r =>
        cases r
        refine ⟨i, j, by rw [r1.inv_int, r2.inv_int], ?_⟩
        have e : (if j < i then j else i) = min i j := by
          split <;> omega
        rw [e]
        exact hq _ _ hk sc_int) (a_cons (h.imp fun r hr => a_cons (hr.imp fun r2 ⟨i, j, h1, h2, h3⟩ => a_nil ⟨i, j, by rw [List.map, List.map, List.map, h1, h2], h3⟩)))
theorem call_sumK {X : Cx} {K : PySem.W.Frag} (hc : X.calm = true) (hK : X.K = K := by rfl) : CallR X (.builtin "sum") (rSum K) := by subst hK; exact cr_sum hc
theorem rps_int : ∀ {vs : List V} {ns : List Int} {G : Hp}, Rps K G vs (ns.map D.int) → vs = ns.map V.int
  | _, [], _, .nil => rfl
  | _, n :: ns, _, .cons h r => by
    rw [List.map_cons, h.inv_int, rps_int r]
theorem e_sum (h : tE K Ex E ta ρ fun a => ∃ ns : List Int, a.dat = .lst (ns.map D.int) ∧ R (.val (.int ns.sum))) : tE K Ex E (tCB (rSum K) (tCons ta tNil)) ρ R :=
  fun G0 H0 G σ H Q S X k => h G0 H0 G σ H _ S X fun a ⟨ns, ea, hr⟩ v G1 H1 e1 r1 => by
    have q := r1.rd e1.sub
    rw [ea] at q
    obtain ⟨p, xs, rfl, hp, rr⟩ := q.inv_lst
    have ex := rps_int rr
    subst ex
    exact ⟨p, ns, rfl, .inl (.inl hp), k _ hr _ G1 H1 e1 (.int _)⟩
/-- a tuple that stands at the top -/
theorem e_c01 {a : Addr} {i j : Int} (q : ∀ G, SqT K G a [.int i, .int j]) (h : R (.val (.tup [.int i, .int j]))) : tE K Ex E (tC (.ref a)) ρ R :=
  fun G0 H0 G σ H Q S X k => k (.val (.tup [.int i, .int j])) h (.ref a) G H (Ev.refl S.ev.sub) (.tup (q G) (.cons (.int i) (.cons (.int j) .nil)))
def rCntB (K : PySem.W.Frag) : V → List V → Hp → VK → Prop := fun x xs H Q => ∃ (bs : List Bool) (k : Bool), Rp K H x (.lst (bs.map D.bl)) ∧ xs = [.bl k] ∧ Q (.int ((bs.count k : Nat) : Int)) H
theorem countIn_bools (k : Bool) : ∀ bs : List Bool, countIn (.bool k) (pyAll (bs.map D.bl)) = ((bs.count k : Nat) : Int)
  | [] => rfl
  | b :: bs => by
    have ih := countIn_bools k bs
    rw [List.map_cons, pyAll, List.count_cons]
    show (if same (PyData.bool b) (PyData.bool k) = true then 1 else 0) + countIn (.bool k) (pyAll (bs.map D.bl)) = _
    rw [ih]
    have e : same (PyData.bool b) (PyData.bool k) = (b == k) := by cases b <;> cases k <;> rfl
    rw [e]
    cases b == k
    · show (0 : Int) + _ = _
      simp
    · show (1 : Int) + _ = _
      simp
      omega
theorem all_bools : ∀ bs : List Bool, (pyAll (bs.map D.bl)).all Shape.bool.has = true
  | [] => rfl
  | b :: bs => all_bools bs
theorem plain_bls : ∀ l : List Bool, plainAll (l.map D.bl) = true
  | [] => rfl
  | s :: l => plain_bls l
theorem mt_lcountB {X : Cx} : MtR X "list.count" (rCntB X.K) := by
  intro pins s σ H x xs v us Q I rx r ⟨bs, k, rp, e2, q⟩
  subst e2
  obtain ⟨u, rfl, ru⟩ := vals1 r
  obtain ⟨as, rd⟩ := Dp.reads I _ x v (rp.dp (by rw [D.plain]; exact plain_bls bs)) rx
  have eu : u = .bool k := ru
  subst eu
  rw [D.py] at rd
  cases rd with
  | list h1 h2 h3 h4 =>
    refine PyProof.Rows.count_list_bools (l := _) ⟨_, h1, h2, _, h3⟩ h4 (all_bools bs) ?_
    rw [countIn_bools]
    exact ⟨.int _, H, I.kept fun _ _ z => z, ⟨_, rfl⟩, q⟩
theorem e_index {to : TE} (h : tE K Ex E to ρ fun a => ∃ bs : List Bool, a.dat = .lst (bs.map D.bl) ∧ tE K Ex E tb ρ fun b => ∃ j : Nat, b.dat = .bl true ∧ bs[j]? = some true ∧ (∀ m, m < j → bs[m]? = some false) ∧ R (.val (.int (j : Int)))) :
    tE K Ex E (tBM K "list" (rIndex K) to (tCons tb tNil)) ρ R := fun G0 H0 G σ H Q S X k =>
  h G0 H0 G σ H _ S X fun a ⟨bs, ea, hb⟩ v G1 H1 e1 r1 => by
    have q := r1.rd e1.sub
    rw [ea] at q
    obtain ⟨p, xs, rfl, hp, rr⟩ := q.inv_lst
    have ex := rps_bl rr
    subst ex
    refine ⟨.inl ⟨rfl, _, .inl (.inl hp)⟩, hb G0 H0 G1 σ H1 _ (S.step e1) X fun b ⟨j, eb, hj, hm, hr⟩ u G2 H2 e2 r2 => ?_⟩
    have q2 := r2.rd e2.sub
    rw [eb] at q2
    rw [q2.inv_bl]
    refine ⟨p, bs.map V.bl, .bl true, j, .bl true, rfl, rfl, .inl (.inl (e2.hs _ _ hp)), rfl, ?_, by rw [List.getElem?_map, hj]; rfl, rfl, fun m z hm' hz => ?_, k _ hr _ G2 H2 (e1.trans e2) (.int _)⟩
    · rw [List.all_eq_true]
      intro x hx
      obtain ⟨b, _, rfl⟩ := List.mem_map.mp hx
      rfl
    · rw [List.getElem?_map, hm m hm'] at hz
      have z' := Option.some.inj hz
      subst z'
      rfl
theorem e_count {to : TE} (h : tE K Ex E to ρ fun a => ∃ bs : List Bool, a.dat = .lst (bs.map D.bl) ∧ tE K Ex E tb ρ fun b => ∃ k : Bool, b.dat = .bl k ∧ R (.val (.int ((bs.count k : Nat) : Int)))) :
    tE K Ex E (tBM K "list" (rCntB K) to (tCons tb tNil)) ρ R := fun G0 H0 G σ H Q S X k =>
  h G0 H0 G σ H _ S X fun a ⟨bs, ea, hb⟩ v G1 H1 e1 r1 => by
    have q := r1.rd e1.sub
    rw [ea] at q
    obtain ⟨p, xs, rfl, hp, rr⟩ := q.inv_lst
    refine ⟨.inl ⟨rfl, _, .inl (.inl hp)⟩, hb G0 H0 G1 σ H1 _ (S.step e1) X fun b ⟨j, eb, hr⟩ u G2 H2 e2 r2 => ?_⟩
    have q2 := r2.rd e2.sub
    rw [eb] at q2
    rw [q2.inv_bl]
    exact ⟨bs, j, .lst (e2.hs _ _ hp) (rr.mono e2.hs), rfl, k _ hr _ G2 H2 (e1.trans e2) (.int _)⟩
theorem sl_tAK {X : Cx} {K : PySem.W.Frag} (hK : X.K = K := by rfl) : SlR X (rSlA K) := by subst hK; exact sl_tupA
theorem e_slT {tl th : TO} (h : tE K Ex E ta ρ fun a => tOo K Ex E tl ρ fun lo => tOo K Ex E th ρ fun hi => ∃ ds, a.dat = .tup ds ∧ R (.val (.tup (cutD ds lo hi)))) : tE K Ex E (tSl (rSlA K) ta tl th) ρ R :=
  fun G0 H0 G σ H Q S X k => h G0 H0 G σ H _ S X fun a ha v G1 H1 e1 r1 => ha G0 H0 G1 σ H1 _ (S.step e1) X fun lo hlo G2 H2 e2 => hlo G0 H0 G2 σ H2 _ ((S.step e1).step e2) X fun hi ⟨ds, ea, hr⟩ G3 H3 e3 => by
    have e := (e1.trans e2).trans e3
    have r1 := (r1.step e2).step e3
    cases a with
    | own _ => cases ea
    | bor _ => cases ea
    | val d =>
      have ed : d = .tup ds := ea
      subst ed
      obtain ⟨p, xs, rfl, hp, rr⟩ := Rp.inv_tup (show Rp K G3 v (.tup ds) from r1)
      refine ⟨p, xs, rfl, same_seqT e3.sub hp, fun ⟨w1, w2⟩ => ?_, fun _ np0 nn => ?_⟩
      · refine k _ hr _ G3 H3 e ?_
        have z : cutD ds lo hi = ds := by
          unfold cutD
          rw [← rr.length, w1, w2, List.drop_zero, Nat.sub_zero, rr.length, List.take_length]
        rw [z]
        exact .tup hp rr
      · exact k _ hr _ (upd G3 np0 _) _ (e.trans (Ev.laid e3.sub nn)) (.tup (.inl (.inl upd_same)) ((rr.cut lo hi).mono (Ev.laid e3.sub nn).gs))
end
end Y
end

section
namespace Y
open PySem PySem.Spec PyProof.Rows L2
/-! ### more rules: what is never reached; not of a list; a range down; a list of lists of one's own -/
section
variable {K : PySem.W.Frag} {Ex : Value → List Slot → Prop} {E : L2.St → XK} {ρ : List Slot} {R : Res → Prop} {De : DE}
theorem pe_notTK {X : Cx} {K : PySem.W.Frag} {a : Expr} {ta : TE} {pos : Pos} (ha : PE X a ta) (hK : X.K = K := by rfl) : PE X (.UnaryOp .Not a pos) (tNotT K ta) := by subst hK; exact pe_notT ha
theorem e_notT {ta : TE} (h : tE K Ex E ta ρ fun a => ∃ c, TrD a.dat c ∧ R (.val (.bl (!c)))) : tE K Ex E (tNotT K ta) ρ R :=
  fun G0 H0 G σ H Q S X k => h G0 H0 G σ H _ S X fun a ⟨c, hd, h1⟩ v G1 H1 e1 r1 => ⟨c, trD_ok (r1.rd e1.sub) hd, k _ h1 _ G1 H1 e1 (.bl _)⟩
def rangeDn (hi : Int) (n : Nat) : List D := (List.range n).map fun (i : Nat) => D.int (hi + ((i : Nat) : Int) * (-1))
theorem rangeDn_len {hi : Int} {n : Nat} : (rangeDn hi n).length = n := by unfold rangeDn; rw [List.length_map, List.length_range]
theorem rangeDn_get {hi : Int} {n i : Nat} {d : D} (h : (rangeDn hi n)[i]? = some d) : i < n ∧ d = .int (hi - (i : Int)) := by
  have hl : i < n := by
    have := (List.getElem?_eq_some_iff.mp h).1
    rw [rangeDn_len] at this
    exact this
  unfold rangeDn at h
  rw [List.getElem?_map, List.getElem?_range hl] at h
  have z := (Option.some.inj h).symm
  rw [z]
  exact ⟨hl, congrArg D.int (show hi + (i : Int) * (-1) = hi - (i : Int) by omega)⟩
theorem walkRd {lo : Int} {n : Nat} {G' : Hp} : Walk (Itc lo (-1) n) (rangeDn lo n).length (fun H => Same G' H) (YD K G' (rangeDn lo n)) := by
  have w := (walk_rangeC (lo := lo) (c := -1) (n := n)).mono (G' := fun H => Same G' H) (Y' := YD K G' (rangeDn lo n)) (fun _ _ => trivial) fun i H x H' hi g y G2 g2 h2 => by
    obtain ⟨rfl, e⟩ := y
    refine ⟨.int (lo + (i : Int) * (-1)), G2, ?_, Ev.refl h2, by rw [e]; exact .int _⟩
    unfold rangeDn
    rw [List.getElem?_map, List.getElem?_range hi]
    rfl
  have e : (rangeDn lo n).length = n := rangeDn_len
  rw [e]
  exact w
theorem i_rangeDn {t u v : TE} {R : List D → Prop} (h : tE K Ex E t ρ fun a => tE K Ex E u ρ fun b => tE K Ex E v ρ fun c => ∃ i j, a.dat = .int i ∧ b.dat = .int j ∧ c.dat = .int (-1) ∧ (-(2 ^ 62) ≤ i ∧ i < 2 ^ 62 ∧ -(2 ^ 62) ≤ j ∧ j < 2 ^ 62) ∧ R (rangeDn i (i - j).toNat)) : tIt K Ex E (iRng3 (tCons t (tCons u (tCons v tNil)))) ρ R :=
  fun G0 H0 G σ H Q S X k => h G0 H0 G σ H _ S X fun a ha v G1 H1 e1 r1 => ha G0 H0 G1 σ H1 _ (S.step e1) X fun b hb u G2 H2 e2 r2 => hb G0 H0 G2 σ H2 _ ((S.step e1).step e2) X fun c ⟨i, j, h1, h2, h3, ⟨b1, b2, b3, b4⟩, hr⟩ u G3 H3 e3 r3 => by
    have q := ((r1.step e2).step e3).rd e3.sub
    rw [h1] at q
    have q2 := (r2.step e3).rd e3.sub
    rw [h2] at q2
    have q3 := r3.rd e3.sub
    rw [h3] at q3
    exact ⟨i, j, -1, _, by rw [q.inv_int, q2.inv_int, q3.inv_int], RgC.neg b1 b2 b3 b4, k _ hr _ G3 H3 ((e1.trans e2).trans e3) walkRd⟩
end
/-! lists within a list of one's own: the slot holds bare places, behind the slots stand the lists -/
section
variable {K : PySem.W.Frag} {G0 H0 G : Hp} {σ : L2.St} {H : Hp} {ρ : List Slot}
abbrev ghS (dss : List (List D)) : List Slot := dss.map Slot.own
abbrev ghV (ps : List Addr) : L2.St := ps.map fun p => some (V.ref p)
theorem Sig.preN : ∀ {s : List Slot} {x : L2.St}, x.length = s.length → Sig K G0 H0 G (ρ ++ s) (σ ++ x) H → Sig K G0 H0 G ρ σ H := by
  intro s
  induction s generalizing ρ σ with
  | nil =>
    intro x hx S
    cases x with
    | nil => rwa [List.append_nil, List.append_nil] at S
    | cons a b => simp at hx
  | cons a b ih =>
    intro x hx S
    cases x with
    | nil => simp at hx
    | cons c d =>
      have e1 : ρ ++ a :: b = (ρ ++ [a]) ++ b := by simp
      have e2 : σ ++ c :: d = (σ ++ [c]) ++ d := by simp
      rw [e1, e2] at S
      exact (ih (by simpa using hx) S).pre
def SigN (K : PySem.W.Frag) (G0 H0 G : Hp) (i : Nat) (ρ : List Slot) (dss : List (List D)) (σ : L2.St) (H : Hp) : Prop :=
  i < ρ.length ∧ ∃ ps : List Addr, ps.length = dss.length ∧ Sig K G0 H0 G (ρ.set i (.own (ps.map D.cls)) ++ ghS dss) (σ ++ ghV ps) H
def lendS (ρ : List Slot) : List Slot := ρ.map fun | .own ds => .val (.lst ds) | s => s
theorem get_app {α : Type} {l m : List α} {i : Nat} {x : α} (h : l[i]? = some x) : (l ++ m)[i]? = some x := by
  rw [List.getElem?_append_left (List.getElem?_eq_some_iff.mp h).1]
  exact h
theorem set_app {α : Type} {l m : List α} {i : Nat} {x : α} (h : i < l.length) : (l ++ m).set i x = l.set i x ++ m := List.set_append_left _ _ h
variable {i : Nat} {dss : List (List D)}
theorem SigN.start (S : Sig K G0 H0 G ρ σ H) (hi : ρ[i]? = some (.own [])) : SigN K G0 H0 G i ρ [] σ H := by
  refine ⟨(List.getElem?_eq_some_iff.mp hi).1, [], rfl, ?_⟩
  have e : ρ.set i (.own []) = ρ := by
    obtain ⟨hl, hg⟩ := List.getElem?_eq_some_iff.mp hi
    rw [← hg, List.set_getElem_self]
  show Sig K G0 H0 G (ρ.set i (.own []) ++ []) (σ ++ []) H
  rw [e, List.append_nil, List.append_nil]
  exact S
theorem SigN.step {G' H' : Hp} (S : SigN K G0 H0 G i ρ dss σ H) (e : Ev G H G' H') : SigN K G0 H0 G' i ρ dss σ H' := by
  obtain ⟨hi, ps, hl, S⟩ := S
  exact ⟨hi, ps, hl, S.step e⟩
theorem SigN.ev (S : SigN K G0 H0 G i ρ dss σ H) : Ev G0 H0 G H := by
  obtain ⟨hi, ps, hl, S⟩ := S
  exact S.ev
theorem SigN.len (S : SigN K G0 H0 G i ρ dss σ H) : σ.length = ρ.length := by
  obtain ⟨hi, ps, hl, S⟩ := S
  have := S.len
  simp only [List.length_append, List.length_set, List.length_map, hl] at this
  omega
theorem SigN.setVal {j : Nat} {v : V} {d : D} (S : SigN K G0 H0 G i ρ dss σ H) (hj : j ≠ i) (hl : j < ρ.length) (r : Rp K G v d) : SigN K G0 H0 G i (ρ.set j (.val d)) dss (σ.set j (some v)) H := by
  have ln := S.len
  obtain ⟨hi, ps, hp, S⟩ := S
  refine ⟨by rw [List.length_set]; exact hi, ps, hp, ?_⟩
  have q := S.setVal (i := j) r
  rw [set_app (by rw [List.length_set]; exact hl), set_app (by omega), List.set_comm _ _ (Ne.symm hj)] at q
  exact q
theorem SigN.out (S : SigN K G0 H0 G i ρ dss σ H) {j : Nat} {d : D} (hj : j ≠ i) (h : ρ[j]? = some (.val d)) : ∃ v, σ[j]? = some (some v) ∧ Rp K G v d := by
  have ln := S.len
  obtain ⟨hi, ps, hp, S⟩ := S
  obtain ⟨v, h1, h2⟩ := S.val j d (get_app (by rw [get_set_ne (Ne.symm hj)]; exact h))
  refine ⟨v, ?_, h2⟩
  rw [List.getElem?_append_left (by rw [ln]; exact (List.getElem?_eq_some_iff.mp h).1)] at h1
  exact h1
/-- the list and what stands in it -/
theorem SigN.lists (S : SigN K G0 H0 G i ρ dss σ H) : ∃ (l : Addr) (ps : List Addr), ps.length = dss.length ∧ σ[i]? = some (some (.ref l)) ∧ H0 l = none ∧ G l = none ∧ H l = some (.lst (ps.map V.ref)) ∧
    (∀ (j : Nat) (p : Addr) (ds : List D), ps[j]? = some p → dss[j]? = some ds → H0 p = none ∧ G p = none ∧ p ≠ l ∧ ∃ xs, H p = some (.lst xs) ∧ Rps K G xs ds) ∧
    Sig K G0 H0 G (ρ.set i (.own (ps.map D.cls)) ++ ghS dss) (σ ++ ghV ps) H := by
  have ln := S.len
  obtain ⟨hi, ps, hp, S⟩ := S
  have gi : (ρ.set i (.own (ps.map D.cls)) ++ ghS dss)[i]? = some (.own (ps.map D.cls)) := get_app (get_set_eq hi)
  obtain ⟨l, xs, h1, h2, h3, h4, h5⟩ := S.own i _ gi
  have h1' := h1
  rw [List.getElem?_append_left (by omega)] at h1
  have ex : xs = ps.map V.ref := by
    clear h1 h1' h2 h3 h4 gi S hp
    induction ps generalizing xs with
    | nil => cases h5; rfl
    | cons p r ih =>
      cases h5 with
      | cons a b => rw [List.map_cons, a.inv_cls, ih _ b]
  subst ex
  refine ⟨l, ps, hp, h1, h2, h3, h4, fun j p ds hj hd => ?_, S⟩
  have gj : (ρ.set i (.own (ps.map D.cls)) ++ ghS dss)[ρ.length + j]? = some (.own ds) := by
    rw [List.getElem?_append_right (by rw [List.length_set]; omega), List.length_set, Nat.add_sub_cancel_left, List.getElem?_map, hd]
    rfl
  have sj : (σ ++ ghV ps)[ρ.length + j]? = some (some (.ref p)) := by
    rw [List.getElem?_append_right (by omega), ln, Nat.add_sub_cancel_left, List.getElem?_map, hj]
    rfl
  obtain ⟨m, ys, k1, k2, k3, k4, k5⟩ := S.own _ _ gj
  rw [sj] at k1
  have e := V.ref.inj (Option.some.inj (Option.some.inj k1))
  subst e
  refine ⟨k2, k3, fun z => ?_, ys, k4, k5⟩
  subst z
  have := S.inj i (ρ.length + j) _ _ p gi gj h1' sj
  omega
theorem rps_lists {Hx : Hp} : ∀ {ps : List Addr} {dss : List (List D)}, ps.length = dss.length → (∀ (j : Nat) (p : Addr) (ds : List D), ps[j]? = some p → dss[j]? = some ds → ∃ xs, Hx p = some (.lst xs) ∧ Rps K Hx xs ds) → Rps K Hx (ps.map V.ref) (dss.map D.lst)
  | [], [], _, _ => .nil
  | p :: ps, ds :: dss, e, h => by
    obtain ⟨xs, h1, h2⟩ := h 0 p ds rfl rfl
    exact .cons (.lst h1 h2) (rps_lists (by simpa using e) fun j q es hq he => h (j + 1) q es (by simpa using hq) (by simpa using he))
  | [], _ :: _, e, _ => by simp at e
  | _ :: _, [], e, _ => by simp at e
/-- all is shared, for a while -/
theorem SigN.lend (S : SigN K G0 H0 G i ρ dss σ H) : Sig K H H H (lendS (ρ.set i (.own (dss.map D.lst)))) σ H := by
  have ln := S.len
  have hi := S.1
  obtain ⟨l, ps, hp, h1, h2, h3, h4, h5, S'⟩ := S.lists
  refine ⟨Ev.refl (Same.refl _), by unfold lendS; rw [List.length_map, List.length_set]; exact ln, fun j d h => ?_, fun j ds h => ?_, fun j k ds es m h => ?_⟩
  · unfold lendS at h
    rw [List.getElem?_map] at h
    by_cases hj : i = j
    · subst hj
      rw [get_set_eq hi] at h
      have z := Slot.val.inj (Option.some.inj h)
      subst z
      refine ⟨_, h1, .lst h4 (rps_lists hp fun j p ds hj hd => ?_)⟩
      obtain ⟨_, _, _, xs, k1, k2⟩ := h5 j p ds hj hd
      exact ⟨xs, k1, k2.mono S.ev.sub⟩
    · rw [get_set_ne hj] at h
      cases e : ρ[j]? with
      | none => rw [e] at h; cases h
      | some s =>
        rw [e] at h
        have lj : j < σ.length := by
          rw [ln]
          exact (List.getElem?_eq_some_iff.mp e).1
        have ge : (ρ.set i (.own (ps.map D.cls)) ++ ghS dss)[j]? = some s := get_app (by rw [get_set_ne hj]; exact e)
        cases s with
        | emp => cases h
        | val d' =>
          have z := Slot.val.inj (Option.some.inj h)
          subst z
          obtain ⟨v, k1, k2⟩ := S'.val j _ ge
          rw [List.getElem?_append_left lj] at k1
          exact ⟨v, k1, k2.mono S.ev.sub⟩
        | own ds =>
          have z := Slot.val.inj (Option.some.inj h)
          subst z
          obtain ⟨m, xs, k1, k2, k3, k4, k5⟩ := S'.own j _ ge
          rw [List.getElem?_append_left lj] at k1
          exact ⟨_, k1, .lst k4 (k5.mono S.ev.sub)⟩
  · exfalso
    unfold lendS at h
    rw [List.getElem?_map] at h
    cases e : (ρ.set i (.own (dss.map D.lst)))[j]? with
    | none => rw [e] at h; cases h
    | some s => rw [e] at h; cases s <;> cases h
  · exfalso
    unfold lendS at h
    rw [List.getElem?_map] at h
    cases e : (ρ.set i (.own (dss.map D.lst)))[j]? with
    | none => rw [e] at h; cases h
    | some s => rw [e] at h; cases s <;> cases h
/-- the last one within gets an item -/
theorem SigN.appLast {es : List D} {v : V} {d : D} (S : SigN K G0 H0 G i ρ (dss ++ [es]) σ H) (r : Rp K G v d) : ∃ (l p : Addr) (qs : List V) (xs : List V), σ[i]? = some (some (.ref l)) ∧ H l = some (.lst (qs ++ [.ref p])) ∧ H p = some (.lst xs) ∧ xs.length = es.length ∧ SigN K G0 H0 G i ρ (dss ++ [es ++ [d]]) σ (upd H p (.lst (xs ++ [v]))) := by
  have ln := S.len
  have hi := S.1
  obtain ⟨l, ps, hp, h1, h2, h3, h4, h5, S'⟩ := S.lists
  rw [List.length_append, List.length_singleton] at hp
  have lt : dss.length < ps.length := by omega
  have pl : ps[dss.length]? = some ps[dss.length] := List.getElem?_eq_getElem lt
  have dl : (dss ++ [es])[dss.length]? = some es := by rw [List.getElem?_append_right (Nat.le_refl _), Nat.sub_self]; rfl
  obtain ⟨_, _, _, xs, k1, k2⟩ := h5 _ _ _ pl dl
  have epd : ps = ps.take dss.length ++ [ps[dss.length]] := by
    have := List.take_append_drop dss.length ps
    rw [List.drop_eq_getElem_cons lt, List.drop_eq_nil_of_le (by omega)] at this
    exact this.symm
  have eq4 : ps.map V.ref = (ps.take dss.length).map V.ref ++ [V.ref ps[dss.length]] := by
    conv => lhs; rw [epd]
    rw [List.map_append]
    rfl
  refine ⟨l, ps[dss.length], (ps.take dss.length).map V.ref, xs, h1, by rw [h4, eq4], k1, k2.length, hi, ps, by rw [List.length_append, List.length_singleton]; exact hp, ?_⟩
  have gj : (ρ.set i (.own (ps.map D.cls)) ++ ghS (dss ++ [es]))[ρ.length + dss.length]? = some (.own es) := by
    rw [List.getElem?_append_right (by rw [List.length_set]; omega), List.length_set, Nat.add_sub_cancel_left, List.getElem?_map, dl]
    rfl
  have sj : (σ ++ ghV ps)[ρ.length + dss.length]? = some (some (.ref ps[dss.length])) := by
    rw [List.getElem?_append_right (by omega), ln, Nat.add_sub_cancel_left, List.getElem?_map, pl]
    rfl
  have q := S'.chg gj sj (k2.append (Rps.one r))
  have e : (ρ.set i (.own (ps.map D.cls)) ++ ghS (dss ++ [es])).set (ρ.length + dss.length) (.own (es ++ [d])) = ρ.set i (.own (ps.map D.cls)) ++ ghS (dss ++ [es ++ [d]]) := by
    rw [List.set_append_right _ _ (by rw [List.length_set]; omega), List.length_set, Nat.add_sub_cancel_left]
    unfold ghS
    rw [List.map_append, List.map_append, List.set_append_right _ _ (by rw [List.length_map]; omega), List.length_map, Nat.sub_self]
    rfl
  rw [e] at q
  exact q
/-- a new list goes in -/
theorem SigN.appNew {p : Addr} {xs : List V} {es : List D} (S : SigN K G0 H0 G i ρ dss σ H) (np : H p = none) (r : Rps K G xs es) : ∃ (l : Addr) (qs : List V), σ[i]? = some (some (.ref l)) ∧ l ≠ p ∧ H l = some (.lst qs) ∧ qs.length = dss.length ∧ SigN K G0 H0 G i ρ (dss ++ [es]) σ (upd (upd H p (.lst xs)) l (.lst (qs ++ [.ref p]))) := by
  have ln := S.len
  have hi := S.1
  have ev := S.ev
  obtain ⟨l, ps, hp, h1, h2, h3, h4, h5, S'⟩ := S.lists
  have nlp : l ≠ p := fun z => by
    rw [z, np] at h4
    cases h4
  refine ⟨l, ps.map V.ref, h1, nlp, h4, by rw [List.length_map]; exact hp, hi, ps ++ [p], by rw [List.length_append, List.length_append, hp]; rfl, ?_⟩
  have S1 := S'.step (Ev.own (o := .lst xs) ev.sub np)
  have S2 := Sig.push (xs := xs) (ds := es) S1 (ev.hs.free np) (ev.sub.free np) upd_same r fun j fs hj z => by
    obtain ⟨m, ys, k1, k2, k3, k4, k5⟩ := S'.own j fs hj
    rw [z] at k1
    have e := V.ref.inj (Option.some.inj (Option.some.inj k1))
    subst e
    rw [np] at k4
    cases k4
  have e1 : (ρ.set i (.own (ps.map D.cls)) ++ ghS dss) ++ [Slot.own es] = ρ.set i (.own (ps.map D.cls)) ++ ghS (dss ++ [es]) := by
    unfold ghS
    rw [List.map_append, List.append_assoc]
    rfl
  have e2 : (σ ++ ghV ps) ++ [some (V.ref p)] = σ ++ ghV (ps ++ [p]) := by
    unfold ghV
    rw [List.map_append, List.append_assoc]
    rfl
  rw [e1, e2] at S2
  have gi : (ρ.set i (.own (ps.map D.cls)) ++ ghS (dss ++ [es]))[i]? = some (.own (ps.map D.cls)) := get_app (get_set_eq hi)
  have si : (σ ++ ghV (ps ++ [p]))[i]? = some (some (.ref l)) := get_app h1
  have rc : Rps K G (ps.map V.ref ++ [.ref p]) ((ps ++ [p]).map D.cls) := by
    clear S2 S1 S' h4 h5 hp e1 e2 gi si
    induction ps with
    | nil => exact .cons (.cls p) .nil
    | cons a b ih => exact .cons (.cls a) ih
  have q := S2.chg gi si rc
  rw [set_app (by rw [List.length_set]; exact hi), List.set_set] at q
  exact q
/-- all lists are shared from now on, but the one around them -/
theorem SigN.close (S : SigN K G0 H0 G i ρ dss σ H) : ∃ G', Same G G' ∧ Sig K G0 H0 G' (ρ.set i (.own (dss.map D.lst))) σ H := by
  have ln := S.len
  have hi := S.1
  obtain ⟨l, ps, hp, h1, h2, h3, h4, h5, S'⟩ := S.lists
  have fr : ∀ n, n ≤ dss.length → ∃ G', Same G G' ∧ Sig K G0 H0 G' (ρ.set i (.own (ps.map D.cls)) ++ ((dss.take n).map fun ds => Slot.val (.lst ds)) ++ ghS (dss.drop n)) (σ ++ ghV ps) H := by
    intro n
    induction n with
    | zero => exact fun _ => ⟨G, Same.refl _, by simpa using S'⟩
    | succ n ih =>
      intro hn
      obtain ⟨G1, s1, S1⟩ := ih (by omega)
      have hd : dss.drop n = dss[n] :: dss.drop (n + 1) := List.drop_eq_getElem_cons (by omega)
      have lt : (ρ.set i (.own (ps.map D.cls)) ++ ((dss.take n).map fun ds => Slot.val (.lst ds))).length = ρ.length + n := by
        rw [List.length_append, List.length_set, List.length_map, List.length_take]
        omega
      have gn : (ρ.set i (.own (ps.map D.cls)) ++ ((dss.take n).map fun ds => Slot.val (.lst ds)) ++ ghS (dss.drop n))[ρ.length + n]? = some (.own dss[n]) := by
        rw [List.getElem?_append_right (by omega), lt, Nat.sub_self, hd]
        rfl
      obtain ⟨G2, s2, S2⟩ := S1.freeze gn
      refine ⟨G2, s1.trans s2, ?_⟩
      have e : (ρ.set i (.own (ps.map D.cls)) ++ ((dss.take n).map fun ds => Slot.val (.lst ds)) ++ ghS (dss.drop n)).set (ρ.length + n) (.val (.lst dss[n])) = ρ.set i (.own (ps.map D.cls)) ++ ((dss.take (n + 1)).map fun ds => Slot.val (.lst ds)) ++ ghS (dss.drop (n + 1)) := by
        rw [List.set_append_right _ _ (by omega), lt, Nat.sub_self, hd, List.take_succ_eq_append_getElem (by omega), List.map_append]
        show _ ++ (Slot.val (.lst dss[n]) :: ghS (dss.drop (n + 1))) = _
        simp
      rw [e] at S2
      exact S2
  obtain ⟨G1, s1, S1⟩ := fr dss.length (Nat.le_refl _)
  rw [List.drop_length, List.take_length] at S1
  have S2 : Sig K G0 H0 G1 (ρ.set i (.own (ps.map D.cls)) ++ (dss.map fun ds => Slot.val (.lst ds))) (σ ++ ghV ps) H := by
    have e : ghS [] = [] := rfl
    rw [e, List.append_nil] at S1
    exact S1
  have gi : (ρ.set i (.own (ps.map D.cls)) ++ (dss.map fun ds => Slot.val (.lst ds)))[i]? = some (.own (ps.map D.cls)) := get_app (get_set_eq hi)
  have rl : Rps K G1 (ps.map V.ref) (dss.map D.lst) := by
    refine rps_lists hp fun j p ds hj hd => ?_
    have gj : (ρ.set i (.own (ps.map D.cls)) ++ (dss.map fun ds => Slot.val (.lst ds)))[ρ.length + j]? = some (.val (.lst ds)) := by
      rw [List.getElem?_append_right (by rw [List.length_set]; omega), List.length_set, Nat.add_sub_cancel_left, List.getElem?_map, hd]
      rfl
    have sj : (σ ++ ghV ps)[ρ.length + j]? = some (some (.ref p)) := by
      rw [List.getElem?_append_right (by omega), ln, Nat.add_sub_cancel_left, List.getElem?_map, hj]
      rfl
    obtain ⟨v, k1, k2⟩ := S2.val _ _ gj
    rw [sj] at k1
    have e := Option.some.inj (Option.some.inj k1)
    subst e
    obtain ⟨a, xs, ea, k3, k4⟩ := k2.inv_lst
    have e := V.ref.inj ea
    subst e
    exact ⟨xs, k3, k4⟩
  have q := S2.chg gi (get_app h1) rl
  have eh : upd H l (.lst (ps.map V.ref)) = H := by
    funext x
    by_cases hx : x = l
    · subst hx
      rw [upd_same, h4]
    · rw [upd_ne hx]
  rw [eh, set_app (by rw [List.length_set]; exact hi), List.set_set] at q
  exact ⟨G1, s1, q.preN (by unfold ghV; rw [List.length_map, List.length_map]; exact hp)⟩
end
/-! statements over such a list -/
def tSN (K : PySem.W.Frag) (i : Nat) (tb : TS) (ρ : List Slot) (dss : List (List D)) (P : List Slot → List (List D) → Prop) : Prop :=
  ∀ (G0 H0 G : Hp) (σ : L2.St) (H : Hp) (D : Ends), SigN K G0 H0 G i ρ dss σ H → (∀ ρ' dss' G' σ' H', P ρ' dss' → SigN K G0 H0 G' i ρ' dss' σ' H' → D.nx σ' H') → tb D σ H
section
variable {K : PySem.W.Frag} {E : L2.St → XK} {Ex : Value → List Slot → Prop} {ρ : List Slot} {De : DE} {i : Nat} {dss : List (List D)} {P : List Slot → List (List D) → Prop}
theorem n_if {c : TT} {t u : TS} (h : tT K (fun _ _ => False) E c (lendS (ρ.set i (.own (dss.map D.lst)))) fun b => (b = true → tSN K i t ρ dss P) ∧ (b = false → tSN K i u ρ dss P)) : tSN K i (tIfS c t u) ρ dss P :=
  fun G0 H0 G σ H D S k => h H H H σ H _ S.lend (fun _ _ z => z.elim) fun b hb G1 H1 e1 => by
    have S' := S.step (Ev.join S.ev.sub e1.gs e1.sub)
    cases b with
    | true => exact iteT (hb.1 rfl G0 H0 _ σ H1 D S' k)
    | false => exact iteF (hb.2 rfl G0 H0 _ σ H1 D S' k)
/-- xs[-1].append(y) -/
theorem n_appLast {j : Nat} {es : List D} {d : D} (hj : j ≠ i) (h : ρ[j]? = some (.val d)) (hl : es.length < sizeLine) (q : P ρ (dss ++ [es ++ [d]])) :
    tSN K i (tDrop (tBM K "list" rAppend (tOp (rIx K) (tVar i) (tUn (rU fun i => .int (-i)) (tC (.int 1)))) (tCons (tVar j) tNil))) ρ (dss ++ [es]) P := fun G0 H0 G σ H D S k => by
  obtain ⟨v, h1, h2⟩ := S.out hj h
  obtain ⟨l, p, qs, xs, k1, k2, k3, k4, k5⟩ := S.appLast h2
  refine ⟨_, k1, 1, rfl, .inl ⟨l, qs ++ [.ref p], -1, .ref p, rfl, rfl, .inl (.inl k2), ?_, ?_⟩⟩
  · unfold atI
    have e : ixN (qs ++ [V.ref p]).length (-1) = some qs.length := by
      rw [List.length_append, List.length_singleton]
      unfold ixN
      simp
      omega
    rw [e]
    simp
  · exact ⟨.inl ⟨rfl, xs, .inl (.inl k3)⟩, v, h1, p, xs, v, rfl, rfl, k3, by rw [k4]; exact hl, k _ _ _ _ _ q k5⟩
/-- xs.append([y]) -/
theorem n_appNew {j : Nat} {d : D} (hj : j ≠ i) (h : ρ[j]? = some (.val d)) (hl : dss.length < sizeLine) (q : P ρ (dss ++ [[d]])) :
    tSN K i (tDrop (tBM K "list" rAppend (tVar i) (tCons (tLst (tCons (tVar j) tNil)) tNil))) ρ dss P := fun G0 H0 G σ H D S k => by
  obtain ⟨v, h1, h2⟩ := S.out hj h
  obtain ⟨l0, _, _, hl0, _, _, hH, _⟩ := S.lists
  refine ⟨_, hl0, .inl ⟨rfl, _, .inl (.inl hH)⟩, v, h1, Nat.le_of_ble_eq_true rfl, fun p np => ?_⟩
  obtain ⟨l, qs, k1, k2, k3, k4, k5⟩ := S.appNew np (Rps.one h2)
  rw [hl0] at k1
  have e := V.ref.inj (Option.some.inj (Option.some.inj k1))
  subst e
  exact ⟨l0, qs, .ref p, rfl, rfl, by rw [upd_ne k2]; exact k3, by rw [k4]; exact hl, k _ _ _ _ _ q k5⟩
/-- for a, b in ..: the list in slot i gets lists -/
theorem s_forN {a b : Nat} {wi : TI} {tb : TS} (hi : ρ[i]? = some (.own [])) (ai : a ≠ i) (bi : b ≠ i) (h : tIt K Ex E wi ρ fun ds => ∃ I : Nat → List Slot → List (List D) → Prop, I 0 ρ [] ∧
      (∀ k d ρ' dss, ds[k]? = some d → I k ρ' dss → ∃ d1 d2, d = .tup [d1, d2] ∧ a < ρ'.length ∧ b < ρ'.length ∧ tSN K i tb ((ρ'.set a (.val d1)).set b (.val d2)) dss (I (k + 1))) ∧ ∀ ρ' dss, I ds.length ρ' dss → De.nx (ρ'.set i (.own (dss.map D.lst)))) :
    tS K Ex E (tFor wi (gTup K 2 (gCons (gName a) (gCons (gName b) gNil))) tb) ρ De :=
  fun G0 H0 G σ H D S X k => h G0 H0 G σ H _ S X fun ds ⟨I, h0, hs, hd⟩ J G1 H1 e1 w => by
    obtain ⟨Hr, Sr, hr⟩ := (S.step e1).root
    have ev := (S.step e1).ev
    refine for_it w (fun m σ H => ∃ ρ' dss G', I m ρ' dss ∧ SigN K G1 Hr G' i ρ' dss σ H) ⟨ρ, [], G1, h0, SigN.start Sr hi⟩ (fun m σ H _ ⟨ρ', dss, G', _, S'⟩ => S'.ev.gs.trans S'.ev.sub) (fun m x σ H H' hm ⟨ρ', dss, G', hI, S'⟩ hy => ?_) (fun σ H ⟨ρ', dss, G', hI, S'⟩ => ?_)
    · obtain ⟨d, G3, hd', e3, r3⟩ := hy G' S'.ev.gs S'.ev.sub
      obtain ⟨d1, d2, ed, la, lb, hb⟩ := hs m d ρ' dss hd' hI
      subst ed
      obtain ⟨p, xs, rfl, sq, rr⟩ := r3.inv_tup
      cases rr with
      | cons r1 rr =>
        cases rr with
        | cons r2 rr =>
          cases rr
          have S3 := ((S'.step e3).setVal ai la r1).setVal bi (by rw [List.length_set]; exact lb) r2
          refine ⟨p, _, rfl, same_seqT S3.ev.sub sq, rfl, _, _, rfl, _, _, rfl, rfl, ?_⟩
          exact hb G1 Hr G3 _ H' _ S3 fun ρ2 dss2 G2 σ2 H2 q S2 => ⟨ρ2, dss2, G2, q, S2⟩
    · obtain ⟨G2, sg, S2⟩ := S'.close
      exact k.nx _ G2 σ H (hd ρ' dss hI) (S2.up ev hr)
end
end Y
end

section
set_option maxHeartbeats 4000000
namespace Y
open PySem PySem.Spec PyProof.Rows L2
/-! ### sorted(set(xs)), xs a list of ints -/
/-- a set that has just been made -/
abbrev newS (w : World) : Obj := { cls := .type "set", dict := none, data := .set #[] 0 (.fresh 0 0 (!w.params.followText "set-order")) }
/-- what is told of the set of a list -/
abbrev SetMade (w : World) (s : Shared) (ns : List Int) (s' : Shared) : Prop := ∃ (hp : Heap) (tk c : Nat), s' = { s with heap := hp, toks := tk } ∧ SetR w hp s.heap.objs.size (fun j => decide (j ∈ ns)) c ∧ c ≤ ns.length ∧ ∀ b o, s.heap.get? b = some o → hp.get? b = some o
section
variable {P : Program} {w : World} {A : Around} {E : Value → Shared → Prop} {s : Shared}
theorem set_listI {l : Addr} {items : Array Value} {ns : List Int} {Q : Value → Shared → Prop} (hh : A.handled = none) (hl : s.heap.IsList l items) (hit : IntsAre items.toList ns) (hb : ns.length + 1 < scanBound)
    (h : ∀ s', SetMade w s ns s' → Q (.ref s.heap.objs.size) s') : wpAny (model P w) A (call (.type "set") [.ref l]) Q E s := by
  have sz : items.size = ns.length := by rw [← Array.length_toList]; exact hit.length
  obtain ⟨c0, tl0, hm0⟩ := F.called_set.mro; have k1 := F.called_set.made; have k2 := F.called_set.sub; have k3 := F.called_set.notType; have k4 := F.called_set.canCreate; have k5 := F.typeCall_set_1 (.ref l)
  apply wpAny_call; apply codeAny_of_tree; show wpAny _ _ (callAny (.type "set") _) _ _ _
  apply wpAny_pure; apply And.intro (Code.quiet_builtin _ (by decide +kernel)); apply codeAny_builtin F.entry_type_call; rw [Around.under_plain (weight_type_call_type "set" [.ref l] []) rfl]
  repeat (any_goals (first | assumption | wp_step))
  apply codeAny_mono (code_set_led1 (.ref l) (E := E) (Q₁ := fun v t => v = .ref s.heap.objs.size ∧ t = { s with heap := s.heap.push (newS w) }) ⟨rfl, rfl⟩); intro r1 t1 q1
  match r1, q1 with
  | .error e, q1 => exact q1
  | .ok .next, q1 => exact q1.elim
  | .ok .brk, q1 => exact q1.elim
  | .ok .cont, q1 => exact q1.elim
  | .ok (.ret v1), q1 =>
    obtain ⟨rfl, rfl⟩ := q1
    have at0 : (s.heap.push (newS w)).get? s.heap.objs.size = some (newS w) := Heap.get?_push_size _ rfl
    have ty0 : Shared.TypeIs { s with heap := s.heap.push (newS w) } (.ref s.heap.objs.size) "set" := ⟨_, at0, rfl⟩
    have i1 := F.called_set.init.lookup; have i2 := F.called_set.init.bind (.ref s.heap.objs.size)
    repeat (any_goals (first | assumption | wp_step))
    apply codeAny_mono (codeAny_call_builtin (R := wants (fun v t => v = .none ∧ SetMade w s ns t) E) F.called_set.init.plain F.entry_set_init (check_set_init_1 ty0 ?init))
    case init =>
      obtain ⟨ob, gob, cob, nob, dob⟩ := hl
      obtain ⟨x1, x2, x3, x4⟩ := ob
      simp only at cob dob
      subst cob dob
      have g1 : (s.heap.push (newS w)).get? l = some { cls := .type "list", dict := x2, data := .seq items nob, slots := x4 } := Heap.get?_push_of_some _ gob
      have il : (s.heap.push (newS w)).IsList l items := ⟨_, g1, rfl, nob, rfl⟩
      have z1 := F.sub_list_set; have z2 := F.sub_list_frozenset; have z3 : (Value.type "list" == Value.type "dict") = false := by decide
      unfold Builtin.«set.__init__» noKeywords Builtin.Frozenset.updateFrom
      generalize hIt : pyIter = It
      wp_walk
      subst hIt
      apply wpAny_pyIter_list il
      refine wpAny_bind (wpAny_runValue ?_)
      have small : ∀ b, b < s.heap.objs.size → b ≠ (s.heap.push (newS w)).objs.size := fun b z => by rw [Heap.size_push]; omega
      have ls := Heap.lt_size gob
      have nin : s.heap.objs.size ∉ [(s.heap.push (newS w)).objs.size, l] := fun z => by
        rcases List.mem_cons.mp z with z | z
        · rw [Heap.size_push] at z; omega
        · exact absurd (List.mem_singleton.mp z) (Nat.ne_of_gt ls)
      have each : ∀ (j : Nat) (v : Value), items[j]? = some v → ∃ k t, ns[j]? = some k ∧ v = .int k t := fun j v hv => by
        have hj : j < ns.length := by rw [← sz]; exact (Array.getElem?_eq_some_iff.mp hv).1
        obtain ⟨tk, ev⟩ := IntsAre.int_at hit j v (by rw [Array.getElem?_toList]; exact hv)
        exact ⟨ns[j], tk, List.getElem?_eq_getElem hj, by rw [ev, List.getD_eq_getElem?_getD, List.getElem?_eq_getElem hj]; rfl⟩
      have free : A.in1.in1.in1.handled = none := by simp [hh]
      have fresh2 : ((s.heap.push (newS w)).push { cls := .type "list_iterator", data := .fields #[.ref l, .int 0 0] }).get? s.heap.objs.size = some (newS w) := Heap.get?_push_of_some _ at0
      refine set_update_ints ((Walks.list free _ l (small l ls) items).toS) s.heap.objs.size nin ns sz hb each (items.size - 0) 0 _ (by omega) (Nat.zero_le _) ⟨⟨_, Heap.get?_push_size _ rfl, rfl, rfl⟩, il.push _⟩ ⟨0, Nat.le_refl 0, setR_new_at fresh2⟩ fun t3 c3 mv hc3 hR3 => ?_
      obtain ⟨h3, g3, d3, k3', o3⟩ := t3
      obtain rfl : g3 = s.gens := mv.gens
      obtain rfl : d3 = s.drawn := mv.drawn
      obtain rfl : o3 = s.os := mv.os
      show wpAny _ _ _ _ _ _; apply wpAny_pure; show wpAny _ _ (ret Value.none) _ _ _
      refine wpAny_pure ⟨rfl, h3, k3', c3, rfl, hR3, by omega, fun b o e => ?_⟩
      have lb := Heap.lt_size e
      exact mv.heap b o (fun z => by
        rcases List.mem_cons.mp z with z | z
        · exact absurd z (Nat.ne_of_lt lb)
        · exact small b lb (List.mem_singleton.mp z)) (Heap.get?_push_of_some _ (Heap.get?_push_of_some _ e))
    intro r2 t2 q2
    match r2, q2 with
    | .error e, q2 => exact q2
    | .ok .next, q2 => exact q2.elim
    | .ok .brk, q2 => exact q2.elim
    | .ok .cont, q2 => exact q2.elim
    | .ok (.ret v2), q2 =>
      obtain ⟨rfl, made⟩ := q2
      repeat (any_goals (first | assumption | wp_step))
      exact h _ made
end
/-- sorted(set(a)) -/
def tSortedSet (K : PySem.W.Frag) (ta : TE) : TE := fun σ H Q => ta σ H fun x H1 => ∃ (l : Addr) (ns : List Int), x = .ref l ∧ SqL K H1 l (ns.map V.int) ∧ ns.length < 64 ∧
  ∀ (out : List Int) (p : Addr), out.Pairwise (· < ·) → (∀ k : Int, k ∈ out ↔ k ∈ ns) → out.length ≤ ns.length → H1 p = none → Q (.ref p) (upd H1 p (.lst (out.map V.int)))
theorem pe_sortedSet {X : Cx} {K : PySem.W.Frag} {a : Expr} {ta : TE} {p p2 q pos : Pos} (hg : Gl X "sorted") (hm : X.mg "sorted" = none) (hg2 : Gl X "set") (hm2 : X.mg "set" = none) (ha : PE X a ta) (hK : X.K = K := by rfl) (hc : X.calm = true := by rfl)
    (na : starEach [a] X.env = (false, eval a X.env) :: starEach [] X.env := by rfl) : PE X (.Call (.Name "sorted" p) [.Call (.Name "set" p2) [a] [] q] [] pos) (tSortedSet K ta) := by
  subst hK
  refine ⟨fun pins s σ H Q I h => ?_⟩
  refine Call_ (ld_blt I hg hm boot_sorted ?_)
  refine PyProof.Rows.callWith_builtin1 (PyProof.Rows.args_cons ?_ rfl) rfl rfl
  refine Call_ (ld_blt I hg2 hm2 PyProof.Rows.boot_set ?_)
  refine PyProof.Rows.callWith_type1 (PyProof.Rows.args_cons (thn (ha.run pins s σ H _ I h) fun v s1 ⟨x, H1, I1, r1, q1⟩ => PyProof.Rows.args_nil ?_) na) na rfl
  obtain ⟨l, ns, rfl, hq, hn, q1⟩ := q1
  cases r1
  obtain ⟨its, r, pl, hz⟩ := I1.list hq
  refine set_listI (I1.ok.hd hc) pl.isList (show IntsAre its.toArray.toList ns from ints_of_vals r) (by unfold scanBound; omega) fun s' ⟨hp, tk, c, es, R, hc2, kp⟩ => ?_
  subst es
  refine PyProof.Rows.args_nil ?_
  refine sorted_set R (I1.ok.hd hc) (by omega) fun t p out cc ms k2 e2 o2 ge gp gi inc mem cnt => ?_
  have ge1 : s1.heap.objs.size ≤ p := Nat.le_trans (Nat.le_of_lt R.lt) ge
  have k3 : ∀ b o, s1.heap.get? b = some o → t.heap.get? b = some o := fun b o e => k2 b o (kp b o e)
  have np : H1 p = none := I1.hok.fresh ge1
  have len : (ms.map V.int).length ≤ sizeLine := small_len' (by rw [List.length_map, cnt]; omega)
  have J : Inv X pins σ (upd H1 p (.lst (ms.map V.int))) { s1 with heap := t.heap, gens := t.gens, drawn := t.drawn, toks := t.toks } :=
    I1.call (ch := []) (Un.laid k3 ge1 np) (I1.hok.laid k3 ge1 ⟨len, out.toList, cc, vals_of_ints gi, gp⟩) (by rw [e2]; exact I1.bare) fun _ z => nomatch z
  have et : t = { s1 with heap := t.heap, gens := t.gens, drawn := t.drawn, toks := t.toks } := by
    obtain ⟨a1, a2, a3, a4, a5⟩ := t
    obtain rfl : a5 = s1.os := o2
    rfl
  rw [et]
  exact ⟨.ref p, _, J, rfl, q1 ms p inc (fun k => by rw [mem k]; exact decide_eq_true_iff) (by rw [cnt]; exact hc2) np⟩
section
variable {K : PySem.W.Frag} {Ex : Value → List Slot → Prop} {E : L2.St → XK} {ρ : List Slot} {R : Res → Prop} {ta : TE}
theorem e_sortedSet (h : tE K Ex E ta ρ fun a => ∃ ns : List Int, listD a.dat = some (ns.map D.int) ∧ ns.length < 64 ∧ ∀ out : List Int, out.Pairwise (· < ·) → (∀ k : Int, k ∈ out ↔ k ∈ ns) → out.length ≤ ns.length → R (.own (out.map D.int))) : tE K Ex E (tSortedSet K ta) ρ R :=
  fun G0 H0 G σ H Q S X k => h G0 H0 G σ H _ S X fun a ⟨ns, hd, hl, hr⟩ v G1 H1 e1 r1 => by
    obtain ⟨l, xs, rfl, sq, rr⟩ := r1.listSq e1.sub hd
    have ex := rps_int rr
    subst ex
    refine ⟨l, ns, rfl, sq, hl, fun out p inc mem cnt np => ?_⟩
    have ri : ∀ ms : List Int, Rps K G1 (ms.map V.int) (ms.map D.int) := fun ms => by
      induction ms with
      | nil => exact .nil
      | cons m r ih => exact .cons (.int m) ih
    exact k _ (hr out inc mem cnt) _ G1 _ (e1.trans (Ev.own e1.sub np)) ⟨p, _, rfl, e1.hs.free np, e1.sub.free np, upd_same, ri out⟩
end
end Y
end

section
set_option maxHeartbeats 4000000
namespace Y
open PySem PySem.Spec PyProof.Rows L2
/-! ### defs that show containers: they are known where nothing guards above -/
structure FnG (P : Program) (w : World) (K : PySem.W.Frag) (mg : Str → Option Value) (base : Heap) (k : Nat) (f : Addr) (fd : FuncData) (ps : List Str) (sp : Sp) : Prop where
  len : ∀ vs H Q E, sp vs H Q E → vs.length = ps.length
  run : ∀ (A : Around) (outer : List Env) (s : Shared) (H : Hp) (args : Args) (us : List Value) (vs : List V) (Q : VK) (E : XK), Room k A → A.guards = some [] → Env0 P w K mg base A outer s H → BindsTo s fd args (ps.zip us) → Vals vs us → sp vs H Q E → codeAny (model P w) A (.call (.ref f) args) (CR CX0 outer P w H s Q E) s
section
variable {P : Program} {w : World} {K : PySem.W.Frag} {mg : Str → Option Value} {base : Heap}
theorem fnG {k : Nat} {x qual : Str} {st : Stmt} {f : Addr} {fd : FuncData} {N ps : List Str} {fs : FSpec} (F : Fun K x qual st f fd) (S : FnScope N ps (defScope st)) (len : ∀ ds R Ex, fs ds R Ex → ds.length = ps.length)
    (hb : ∀ (cdv : Value) (A : Around) (outer : List Env) (s : Shared) (H : Hp) (E : XK), Room k (A.deeper (envOfC qual (defScope st) s.heap.objs.size f cdv)) → (A.deeper (envOfC qual (defScope st) s.heap.objs.size f cdv)).guards = some [] →
      ∃ t, PSs (cxOf CX0 P w K mg base N qual (defScope st) f cdv A outer s H E).nox (defBody st) t ∧ ∀ ds R Ex, fs ds R Ex → tS K (fun c _ => Ex c) (fun _ => E) t (slots0 N ds) (endDE R)) : FnG P w K mg base (k + 1) f fd ps (spD K fs) := by
  have ln : ∀ vs H Q E, spD K fs vs H Q E → vs.length = ps.length := fun vs H Q E ⟨G, ds, R, Ex, s, r, h, _⟩ => by rw [r.length]; exact len ds R Ex h
  refine ⟨ln, fun A outer s H args us vs Q E hr hG en bnd rel hq => ?_⟩
  obtain ⟨oc, od, kV, doc, pm, an, cdv, ct, osl, rfl, lk, hcd⟩ := F.ex
  have old : ∀ b o, base.get? b = some o → s.heap.get? b = some o := fun b o e => (en.bs b o e).1
  have kx := en.mod.kin.keeps old
  have knd : ∀ y ∈ ps.zip us, (defScope st).names.lookup y.1 = some .local ∨ ((defScope st).names.lookup y.1 = some .cell ∧ ((cellsFrom (s.heap.objs.size + 1) (defScope st).names []).lookup y.1).isSome = true) := fun y hy =>
    (S.par y.1 (List.of_mem_zip (show (y.1, y.2) ∈ ps.zip us from hy)).1).imp (fun z => z) fun z => ⟨z, PySem.W.cellsFrom_some _ _ _ (.inl z)⟩
  apply codeAny_call_function hr.depth (kx _ _ lk) rfl S.co S.gen rfl (PySem.W.codeRec_of kx hcd); apply bnd; apply wpAny_newFunctionEnv_cells S.kind knd
  intro env henv s1 y
  subst henv
  refine ⟨(en.mod.nolimit.keeps old).keeps y.toInCall.keep, codeAny_func ?_⟩
  obtain ⟨t, p0, ht⟩ := hb cdv A outer s H E (hr.deeper _) (by show A.guards = some []; exact hG)
  obtain ⟨G, ds, R, Ex, sm, r, h, hq1, hx⟩ := hq
  have pt := p0.nox
  have I0 := inv_start (CX := CX0) (w := w) (qual := qual) (f := f) (cd := cdv) (E := E) S hr.hd en (ln _ _ _ _ ⟨G, ds, R, Ex, sm, r, h, hq1, hx⟩) rel y
  refine wpAny_mono (pt.run [] s1 (start N vs) H _ I0 (run_body sm r (ht ds R Ex h) hq1 hx)) (fun fl s2 z => ?_) fun _ _ z => z
  match fl, z with
  | .ret u, ⟨v, _, H2, J, r2, q2⟩ => exact ⟨v, H2, J.os, J.bare, J.base, J.hok, r2, q2⟩
  | .next, ⟨_, H2, J, q2⟩ => exact ⟨V.non, H2, J.os, J.bare, J.base, J.hok, (rfl : RelV V.non Value.none), q2⟩
  | .brk, ⟨_, _, _, q2⟩ => exact q2.elim
  | .cont, ⟨_, _, _, q2⟩ => exact q2.elim
structure DfnG (P : Program) (w : World) (K : PySem.W.Frag) (mg : Str → Option Value) (base : Heap) (x : Str) (ps : List Str) (k : Nat) (fs : FSpec) : Prop where
  ex : ∃ (f : Addr) (fd : FuncData), mg x = some (.ref f) ∧ PySem.W.keepIn K (.ref f) = true ∧ Binds K fd ps [] ∧ FnG P w K mg base k f fd ps (spD K fs)
end
section
variable {X : Cx} {P : Program} {w : World} {K : PySem.W.Frag} {mg : Str → Option Value} {base : Heap} {ps : List Str} {k : Nat} {fs : FSpec} {x : Str} {p pos : Pos} {e : Expr} {es : List Expr} {t : TA}
theorem pe_dGK (d : DfnG P w K mg base x ps k fs) (hr : Room k X.A) (hG : X.A.guards = some []) (ha : PA X (e :: es) t) (hP : X.prog = P := by rfl) (hw : X.w = w := by rfl) (hK : X.K = K := by rfl) (hmg : X.mg = mg := by rfl) (hb : X.base = base := by rfl) (hg : Gl X x := by rfl) (hdb : (x == ("__debug__" : Str)) = false := by decide)
    (he : starEach (e :: es) X.env = (false, eval e X.env) :: starEach es X.env := by rfl) (hpl : (backTo pos (starEach es X.env)).any (·.1) = false := by rfl) : PE X (.Call (.Name x p) (e :: es) [] pos) (tCall (spD K fs) [] E0 t) := by
  subst hP hw hK hmg hb
  obtain ⟨f, fd, gm, kp, bn, F⟩ := d.ex
  refine ⟨fun pins s σ H Q I h => wpAny_Call_Name_kw (ld_glob I hg gm (PySem.W.callWith_K (h₀ := X.base) I.ok.mod.kin kp (thn (ha.run pos pins s σ H _ I h) fun us s1 ⟨vs, H1, I1, r, q⟩ => ⟨I1.kIn, ?_⟩) he hpl) hdb)⟩
  have r2 : Vals (vs ++ []) (us ++ []) := r.append .nil
  have ln : (us ++ []).length = ps.length := by rw [← r2.length]; exact F.len _ _ _ _ q
  refine wpAny_call (codeAny_mono (F.run X.A X.stack s1 H1 ⟨us, []⟩ (us ++ []) (vs ++ []) Q E0 hr hG I1.env0 (bn s1 us I1.kIn ln) r2 q) fun res s' hq => ?_)
  match res, hq with
  | .error e, hq => exact hq.elim
  | .ok (.ret u), hq => exact I1.after hq
  | .ok .next, hq => exact hq.elim
  | .ok .brk, hq => exact hq.elim
  | .ok .cont, hq => exact hq.elim
end
end Y
end

section
set_option maxHeartbeats 4000000
namespace Y
open PySem PySem.Spec PyProof.Rows L2
/-! ### a list within a told tuple, which is changed in place later on -/
/-- a tuple has one length -/
def Coh (K : PySem.W.Frag) (H : Hp) : Prop := ∀ a xs ys, SqT K H a xs → SqT K H a ys → xs.length = ys.length
def tCoh (K : PySem.W.Frag) (t : TE) : TE := fun σ H Q => t σ H fun v H' => Coh K H' → Q v H'
theorem pe_coh {X : Cx} {K : PySem.W.Frag} {e : Expr} {t : TE} (h : PE X e t) (hK : X.K = K := by rfl) : PE X e (tCoh K t) := by
  subst hK
  refine ⟨fun pins s σ H Q I q => thn (h.run pins s σ H _ I q) fun v s1 ⟨x, H1, I1, r1, q1⟩ => ⟨x, H1, I1, r1, q1 fun a xs ys h1 h2 => ?_⟩⟩
  rw [I1.tuple_inj h1 h2]
section
variable {K : PySem.W.Frag} {G0 H0 G : Hp} {ρ : List Slot} {σ : L2.St} {H : Hp}
open Classical in
theorem Sig.root2 (S : Sig K G0 H0 G ρ σ H) : ∃ H1, Sig K G H1 G ρ σ H ∧ Same H0 H1 ∧ ∀ b, (∀ (i : Nat) (ds : List D), ρ[i]? = some (.own ds) → σ[i]? ≠ some (some (.ref b))) → H1 b = H b := by
  refine ⟨unown ρ σ H, ⟨⟨fun b o e => ?_, Same.refl _, S.ev.sub, fun b xs e g => g⟩, S.len, S.val, fun i ds h => ?_, S.inj⟩, fun b o e => ?_, fun b n => ?_⟩
  · unfold unown at e
    split at e
    · cases e
    · exact e
  · obtain ⟨l, xs, h1, h2, h3, h4, h5⟩ := S.own i ds h
    exact ⟨l, xs, h1, if_pos ⟨i, ds, h, h1⟩, h3, h4, h5⟩
  · unfold unown
    rw [if_neg]
    · exact S.ev.hs _ _ e
    · rintro ⟨i, ds, h, h1⟩
      obtain ⟨l, xs, k1, k2, _⟩ := S.own i ds h
      rw [h1] at k1
      have z := V.ref.inj (Option.some.inj (Option.some.inj k1))
      subst z
      rw [e] at k2
      cases k2
  · unfold unown
    rw [if_neg]
    rintro ⟨i, ds, h, h1⟩
    exact n i ds h h1
/-- .. and at p a list of one's own that no slot holds -/
structure XS (K : PySem.W.Frag) (G0 H0 G : Hp) (p : Addr) (ws : List D) (ρ : List Slot) (σ : L2.St) (H : Hp) : Prop where
  S : Sig K G0 H0 G ρ σ H
  h0 : H0 p = none
  g : G p = none
  l : ∃ xs, H p = some (.lst xs) ∧ Rps K G xs ws
  ni : ∀ (i : Nat) (ds : List D), ρ[i]? = some (.own ds) → σ[i]? ≠ some (some (.ref p))
theorem XS.lend {p : Addr} {ws : List D} (S : XS K G0 H0 G p ws ρ σ H) {i : Nat} {a c d : D} (hi : ρ[i]? = some (.val (.tup [a, .cls p, c, d]))) : Sig K H H H (lendS (ρ.set i (.val (.tup [a, .lst ws, c, d])))) σ H := by
  have ln := S.S.len
  have hl := (List.getElem?_eq_some_iff.mp hi).1
  obtain ⟨xs, px, rx⟩ := S.l
  have no : ∀ (j : Nat) (ds : List D), (lendS (ρ.set i (.val (.tup [a, .lst ws, c, d]))))[j]? ≠ some (.own ds) := fun j ds h => by
    unfold lendS at h
    rw [List.getElem?_map] at h
    cases e : (ρ.set i (.val (.tup [a, .lst ws, c, d])))[j]? with
    | none => rw [e] at h; cases h
    | some s => rw [e] at h; cases s <;> cases h
  refine ⟨Ev.refl (Same.refl _), by unfold lendS; rw [List.length_map, List.length_set]; exact ln, fun j d' h => ?_, fun j ds h => absurd h (no j ds), fun j k ds es m h => absurd h (no j ds)⟩
  unfold lendS at h
  rw [List.getElem?_map] at h
  by_cases hj : i = j
  · subst hj
    rw [get_set_eq hl] at h
    have z := Slot.val.inj (Option.some.inj h)
    subst z
    obtain ⟨v, k1, k2⟩ := S.S.val i _ hi
    obtain ⟨t, ys, rfl, sq, rr⟩ := k2.inv_tup
    cases rr with
    | cons r1 rr =>
      cases rr with
      | cons r2 rr =>
        rw [r2.inv_cls] at sq
        exact ⟨_, k1, .tup (same_seqT S.S.ev.sub sq) (.cons (r1.mono S.S.ev.sub) (.cons (.lst px (rx.mono S.S.ev.sub)) (rr.mono S.S.ev.sub)))⟩
  · rw [get_set_ne hj] at h
    cases e : ρ[j]? with
    | none => rw [e] at h; cases h
    | some s =>
      rw [e] at h
      cases s with
      | emp => cases h
      | val d'' =>
        have z := Slot.val.inj (Option.some.inj h)
        subst z
        obtain ⟨v, k1, k2⟩ := S.S.val j _ e
        exact ⟨v, k1, k2.mono S.S.ev.sub⟩
      | own ds =>
        have z := Slot.val.inj (Option.some.inj h)
        subst z
        obtain ⟨m, ys, k1, k2, k3, k4, k5⟩ := S.S.own j _ e
        exact ⟨_, k1, .lst k4 (k5.mono S.S.ev.sub)⟩
end
def tX (K : PySem.W.Frag) (Ex : Value → List Slot → Prop) (E : L2.St → XK) (p : Addr) (ws : List D) (t : TS) (ρ : List Slot) (De : DE) : Prop :=
  ∀ (G0 H0 G : Hp) (σ : L2.St) (H : Hp) (D : Ends), XS K G0 H0 G p ws ρ σ H → Lk K Ex E G0 H0 → EndsOk K G0 H0 De D → t D σ H
section
variable {K : PySem.W.Frag} {Ex : Value → List Slot → Prop} {E : L2.St → XK} {ρ : List Slot} {De : DE} {p : Addr} {ws : List D}
/-- a statement that asks nothing of that list -/
theorem x_seq {t u : TS} (h : tS K Ex E t ρ { De with nx := fun ρ' => tX K Ex E p ws u ρ' De }) : tX K Ex E p ws (tSeq t u) ρ De := fun G0 H0 G σ H D S X k => by
  obtain ⟨H1, S1, le, keep⟩ := S.S.root2
  have ev := S.S.ev
  obtain ⟨xs, px, rx⟩ := S.l
  have p1 : H1 p = some (.lst xs) := by rw [keep p S.ni]; exact px
  refine h G H1 G σ H { D with nx := u D } S1 (fun c ρ' hc G' σ' H' dx S' hd => X c ρ' hc G' σ' H' dx (S'.up ev le) hd) ⟨fun ρ' G' σ' H' q S' => ?_, fun r v G' H' hr e kk => k.rt r v G' H' hr (ev.up le e) (kk.from fun l n => le.free n), fun ρ' G' σ' H' q S' => k.bk ρ' G' σ' H' q (S'.up ev le), fun ρ' G' σ' H' q S' => k.ct ρ' G' σ' H' q (S'.up ev le)⟩
  refine q G0 H0 G' σ' H' D ⟨S'.up ev le, S.h0, S'.ev.new p xs p1 S.g, ⟨xs, S'.ev.hs _ _ p1, rx.mono S'.ev.gs⟩, fun j ds hj z => ?_⟩ X k
  obtain ⟨m, ys, k1, k2, _⟩ := S'.own j ds hj
  rw [z] at k1
  have e := V.ref.inj (Option.some.inj (Option.some.inj k1))
  subst e
  rw [p1] at k2
  cases k2
/-- a test that reads it, and comes out false -/
theorem x_ifN {c : TT} {a u : TS} {i : Nat} {d0 d2 d3 : D} (hi : ρ[i]? = some (.val (.tup [d0, .cls p, d2, d3]))) (h : tT K (fun _ _ => False) E c (lendS (ρ.set i (.val (.tup [d0, .lst ws, d2, d3])))) fun b => b = false) (hu : tX K Ex E p ws u ρ De) :
    tX K Ex E p ws (tSeq (tIfS c a tNext) u) ρ De := fun G0 H0 G σ H D S X k =>
  h H H H σ H _ (S.lend hi) (fun _ _ z => z.elim) fun b hb G1 H1 e1 => by
    subst hb
    have ev := Ev.join S.S.ev.sub e1.gs e1.sub
    obtain ⟨xs, px, rx⟩ := S.l
    refine iteF (hu G0 H0 _ σ H1 D ⟨S.S.step ev, S.h0, ev.new p xs px S.g, ⟨xs, ev.hs _ _ px, rx.mono ev.gs⟩, S.ni⟩ X k)
/-- found[1].clear() -/
theorem x_clear {u : TS} {i : Nat} {d0 d2 d3 : D} (hi : ρ[i]? = some (.val (.tup [d0, .cls p, d2, d3]))) (h : tS K Ex E u ρ De) : tX K Ex E p ws (tSeq (tDrop (tBM0 K "list" rClear (tOp (rIx K) (tVar i) (tC (.int 1))))) u) ρ De := fun G0 H0 G σ H D S X k => by
  obtain ⟨v, k1, k2⟩ := S.S.val i _ hi
  obtain ⟨t, ys, rfl, sq, rr⟩ := k2.inv_tup
  obtain ⟨xs, px, rx⟩ := S.l
  cases rr with
  | @cons v0 vs _ _ r1 rr =>
    cases rr with
    | @cons v1 vs _ _ r2 rr =>
      have e1 := r2.inv_cls
      subst e1
      refine ⟨_, k1, .inr (.inl ⟨t, _, 1, .ref p, rfl, rfl, same_seqT S.S.ev.sub sq, atI_nat (j := 1) rfl, ?_⟩)⟩
      refine ⟨.inl ⟨rfl, xs, .inl (.inl px)⟩, p, xs, rfl, rfl, px, h G0 H0 G σ (upd H p (.lst [])) D ⟨⟨fun b o e => ?_, S.S.ev.gs, fun b o e => ?_, S.S.ev.new⟩, S.S.len, S.S.val, fun j ds hj => ?_, S.S.inj⟩ X k⟩
      · rw [upd_ne (ne_of_none e S.h0)]
        exact S.S.ev.hs _ _ e
      · rw [upd_ne (ne_of_none e S.g)]
        exact S.S.ev.sub _ _ e
      · obtain ⟨m, zs, q1, q2, q3, q4, q5⟩ := S.S.own j ds hj
        refine ⟨m, zs, q1, q2, q3, ?_, q5⟩
        rw [upd_ne fun z => S.ni j ds hj (by rw [q1, z])]
        exact q4
/-- found = f(xs, y): a tuple with a list in it that is new -/
theorem x_start {f : FSpec} {u : TS} {i a b : Nat} {da : List D} {db : D} (hi : i < ρ.length) (ha : ρ[a]? = some (.own da)) (hb : ρ[b]? = some (.val db)) (ia : immAll da = true) (ib : db.imm = true)
    (h : f [.lst da, db] (fun r => ∃ (d0 : D) (ws : List D) (d2 d3 : D), r = .val (.tup [d0, .lst ws, d2, d3]) ∧ d0.imm = true ∧ immAll ws = true ∧ d2.imm = true ∧ d3.imm = true ∧
      (∃ (x y : List D) (ra rw : List D), da = .tup x :: ra ∧ ws = .tup y :: rw ∧ x.length ≠ y.length) ∧ ∀ p, tX K Ex E p ws u (ρ.set i (.val (.tup [d0, .cls p, d2, d3]))) De) fun _ => False) :
    tS K Ex E (tSeq (tAsg (tCoh K (tCall (spD K f) [] E0 (tCons (tVar a) (tCons (tVar b) tNil)))) (gName i)) u) ρ De := fun G0 H0 G σ H D S X k => by
  obtain ⟨l, xs, h1, h2, h3, h4, h5⟩ := S.own a da ha
  obtain ⟨vb, k1, k2⟩ := S.val b db hb
  have lb : H l = some (.lst xs) := h4
  obtain ⟨Gs, eGs⟩ : ∃ Gs : Hp, Gs = fun x => if x = l then some (.lst xs) else (match G x with | some (.lst _) => none | o => o) := ⟨_, rfl⟩
  have gl : Gs l = some (.lst xs) := by rw [eGs]; exact if_pos rfl
  have gnl : ∀ x o, G x = some o → (∀ ys, o ≠ .lst ys) → Gs x = some o := fun x o e n => by
    have nx : x ≠ l := fun z => by rw [z, h3] at e; cases e
    rw [eGs]
    show (if x = l then _ else _) = _
    rw [if_neg nx, e]
    cases o <;> first | rfl | exact absurd rfl (n _)
  have gin : ∀ x o, Gs x = some o → x ≠ l → G x = some o := fun x o e nx => by
    rw [eGs] at e
    have e : (if x = l then some (HO.lst xs) else (match G x with | some (.lst _) => none | o => o)) = some o := e
    rw [if_neg nx] at e
    split at e
    · cases e
    · exact e
  have sGs : Same Gs H := fun x o e => by
    by_cases nx : x = l
    · subst nx
      rw [gl] at e
      rw [lb]
      exact e
    · exact S.ev.sub _ _ (gin x o e nx)
  refine ⟨_, h1, vb, k1, ?_⟩
  refine ⟨Gs, [.lst da, db], _, fun _ => False, sGs, (by rw [List.append_nil]; exact .cons (.lst gl (Rps.imm gnl h5 ia)) (.cons (Rp.imm gnl k2 ib) .nil)), h, fun r hr v G' H' e q coh => ?_, fun c hc => hc.elim⟩
  obtain ⟨d0, ws, d2, d3, er, i0, iw, i2, i3, ⟨x, y, ra, rw', ea, ew, nxy⟩, hu⟩ := hr
  subst er
  obtain ⟨t, vs, rfl, sq, rr⟩ := (show Rp K G' v (.tup [d0, .lst ws, d2, d3]) from q).inv_tup
  cases rr with
  | cons r0 rr =>
    cases rr with
    | cons r1 rr =>
      obtain ⟨p, zs, rfl, gp, rz⟩ := r1.inv_lst
      cases rr with
      | cons r2 rr =>
        cases rr with
        | cons r3 rr =>
          cases rr
          have hp : H' p = some (.lst zs) := e.sub _ _ gp
          have npl : p ≠ l := fun z => by
            subst z
            have e1 := e.hs _ _ lb
            rw [hp] at e1
            have e2 := HO.lst.inj (Option.some.inj e1)
            subst e2
            subst ea
            subst ew
            cases h5 with
            | cons s1 _ =>
              cases rz with
              | cons s2 _ =>
                obtain ⟨t1, y1, ev1, q1, l1⟩ := s1.inv_tup
                obtain ⟨t2, y2, ev2, q2, l2⟩ := s2.inv_tup
                rw [ev1] at ev2
                have et := V.ref.inj ev2
                subst et
                have c := coh t1 y1 y2 (same_seqT (S.ev.sub.trans e.hs) q1) (same_seqT e.sub q2)
                rw [l1.length, l2.length] at c
                exact nxy c
          have Hp0 : H p = none := by
            cases z : H p with
            | none => rfl
            | some o =>
              exfalso
              have e1 := e.hs _ _ z
              rw [hp] at e1
              have e2 := Option.some.inj e1
              subst e2
              have gsp : Gs p = none := by
                cases z2 : Gs p with
                | none => rfl
                | some o2 =>
                  exfalso
                  have gG := gin p o2 z2 npl
                  have e3 := S.ev.sub _ _ gG
                  rw [z] at e3
                  have e4 := Option.some.inj e3
                  subst e4
                  rw [eGs] at z2
                  have z2 : (if p = l then some (HO.lst xs) else (match G p with | some (.lst _) => none | o => o)) = some (HO.lst zs) := z2
                  rw [if_neg npl, gG] at z2
                  cases z2
              have e5 := e.new p zs z gsp
              rw [gp] at e5
              cases e5
          obtain ⟨G2, eG2⟩ : ∃ G2 : Hp, G2 = fun x => match G x with | some o => some o | none => (match G' x with | some (.lst _) => none | o => o) := ⟨_, rfl⟩
          have g2G : Same G G2 := fun x o ex => by
            rw [eG2]
            show (match G x with | some o => some o | none => _) = _
            rw [ex]
          have g2n : ∀ x, G x = none → G2 x = (match G' x with | some (.lst _) => none | o => o) := fun x ex => by
            rw [eG2]
            show (match G x with | some o => some o | none => _) = _
            rw [ex]
          have nl2 : ∀ x o, G' x = some o → (∀ ys, o ≠ .lst ys) → G2 x = some o := fun x o ex n => by
            cases z : G x with
            | some o' =>
              have e1 := e.hs _ _ (S.ev.sub _ _ z)
              rw [e.sub _ _ ex] at e1
              rw [g2G _ _ z, ← e1]
            | none =>
              rw [g2n x z, ex]
              cases o <;> first | rfl | exact absurd rfl (n _)
          have sub2 : Same G2 H' := fun x o ex => by
            cases z : G x with
            | some o' =>
              rw [g2G _ _ z] at ex
              rw [← ex]
              exact e.hs _ _ (S.ev.sub _ _ z)
            | none =>
              rw [g2n x z] at ex
              split at ex
              · cases ex
              · exact e.sub _ _ ex
          have ev2 : Ev G H G2 H' := ⟨e.hs, g2G, sub2, fun x ys hx gx => by
            rw [g2n x gx]
            cases z : G' x with
            | none => rfl
            | some o =>
              have e1 := e.sub _ _ z
              rw [e.hs _ _ hx] at e1
              have e2 := Option.some.inj e1
              subst e2
              rfl⟩
          have gp0 : G p = none := S.ev.sub.free Hp0
          have g2p : G2 p = none := by rw [g2n p gp0, gp]
          have rt : Rp K G2 (.ref t) (.tup [d0, .cls p, d2, d3]) := .tup (imm_seqT nl2 sq) (.cons (Rp.imm nl2 r0 i0) (.cons (.cls p) (.cons (Rp.imm nl2 r2 i2) (.cons (Rp.imm nl2 r3 i3) .nil))))
          refine hu p G0 H0 G2 _ H' D ⟨(S.step ev2).setVal rt, S.ev.hs.free Hp0, g2p, ⟨zs, hp, Rps.imm nl2 rz iw⟩, fun j ds hj z => ?_⟩ X k
          by_cases hij : i = j
          · subst hij
            rw [get_set_eq hi] at hj
            cases hj
          · rw [get_set_ne hij] at hj z
            obtain ⟨m, us, q1, q2, q3, q4, q5⟩ := S.own j ds hj
            rw [z] at q1
            have em := V.ref.inj (Option.some.inj (Option.some.inj q1))
            subst em
            rw [Hp0] at q4
            cases q4
end
end Y
end

section
set_option maxHeartbeats 4000000
namespace Y
open PySem PySem.Spec PyProof.Rows L2
/-! ### texts -/
section
variable {K : PySem.W.Frag} {Ex : Value → List Slot → Prop} {E : L2.St → XK} {ρ : List Slot} {R : Res → Prop} {to te : TE}
/-- of a text alone: a truth -/
theorem e_m0b {f : Str → Bool} (h : tE K Ex E to ρ (vR fun d => ∃ a, d = .str a ∧ R (.val (.bl (f a))))) : tE K Ex E (tM0 (fun x xs H Q => ∃ a, x = .str a ∧ xs = [] ∧ True ∧ Q (.bl (f a)) H) to) ρ R :=
  fun G0 H0 G σ H Q S X k => (v_of h) G0 H0 G σ H _ S X fun d ⟨a, ed, hr⟩ v G1 H1 e1 r1 => by
    subst ed
    have z := (show Rp K G1 v (.str a) from r1).inv_str
    subst z
    exact ⟨⟨a, rfl⟩, a, rfl, rfl, trivial, k _ hr _ G1 H1 e1 (.bl _)⟩
/-- of two texts: a truth -/
theorem e_m1b {f : Str → Str → Bool} (h : tE K Ex E to ρ (vR fun d => ∃ a, d = .str a ∧ tE K Ex E te ρ (vR fun e => ∃ b, e = .str b ∧ R (.val (.bl (f a b)))))) : tE K Ex E (tM1 (fun x xs H Q => ∃ a b, x = .str a ∧ xs = [.str b] ∧ Q (.bl (f a b)) H) to te) ρ R :=
  fun G0 H0 G σ H Q S X k => (v_of h) G0 H0 G σ H _ S X fun d ⟨a, ed, hr⟩ v G1 H1 e1 r1 => by
    subst ed
    have z := (show Rp K G1 v (.str a) from r1).inv_str
    subst z
    refine ⟨⟨a, rfl⟩, (v_of hr) G0 H0 G1 σ H1 _ (S.step e1) X fun e ⟨b, ee, hr⟩ u G2 H2 e2 r2 => ?_⟩
    subst ee
    have z := (show Rp K G2 u (.str b) from r2).inv_str
    subst z
    exact ⟨a, b, rfl, rfl, k _ hr _ G2 H2 (e1.trans e2) (.bl _)⟩
/-- of two texts: a text -/
theorem e_m1s {f : Str → Str → Str} (h : tE K Ex E to ρ (vR fun d => ∃ a, d = .str a ∧ tE K Ex E te ρ (vR fun e => ∃ b, e = .str b ∧ a.length ≤ sizeLine ∧ R (.val (.str (f a b)))))) : tE K Ex E (tM1 (fun x xs H Q => ∃ a b, x = .str a ∧ xs = [.str b] ∧ a.length ≤ sizeLine ∧ Q (.str (f a b)) H) to te) ρ R :=
  fun G0 H0 G σ H Q S X k => (v_of h) G0 H0 G σ H _ S X fun d ⟨a, ed, hr⟩ v G1 H1 e1 r1 => by
    subst ed
    have z := (show Rp K G1 v (.str a) from r1).inv_str
    subst z
    refine ⟨⟨a, rfl⟩, (v_of hr) G0 H0 G1 σ H1 _ (S.step e1) X fun e ⟨b, ee, hl, hr⟩ u G2 H2 e2 r2 => ?_⟩
    subst ee
    have z := (show Rp K G2 u (.str b) from r2).inv_str
    subst z
    exact ⟨a, b, rfl, rfl, hl, k _ hr _ G2 H2 (e1.trans e2) (.str _)⟩
/-- s.zfill(n) -/
theorem e_zfill (h : tE K Ex E to ρ (vR fun d => ∃ a, d = .str a ∧ tE K Ex E te ρ (vR fun e => ∃ i, e = .int i ∧ PadOk i = true ∧ R (.val (.str (Txt.zfill a i)))))) : tE K Ex E (tM1 (fun x xs H Q => ∃ (a : Str) (i : Int), x = .str a ∧ xs = [.int i] ∧ PadOk i = true ∧ Q (.str (Txt.zfill a i)) H) to te) ρ R :=
  fun G0 H0 G σ H Q S X k => (v_of h) G0 H0 G σ H _ S X fun d ⟨a, ed, hr⟩ v G1 H1 e1 r1 => by
    subst ed
    have z := (show Rp K G1 v (.str a) from r1).inv_str
    subst z
    refine ⟨⟨a, rfl⟩, (v_of hr) G0 H0 G1 σ H1 _ (S.step e1) X fun e ⟨i, ee, hl, hr⟩ u G2 H2 e2 r2 => ?_⟩
    subst ee
    have z := (show Rp K G2 u (.int i) from r2).inv_int
    subst z
    exact ⟨a, i, rfl, rfl, hl, k _ hr _ G2 H2 (e1.trans e2) (.str _)⟩
/-- s.partition(t) -/
theorem e_partition (h : tE K Ex E to ρ (vR fun d => ∃ a, d = .str a ∧ tE K Ex E te ρ (vR fun e => ∃ b, e = .str b ∧ (b.length == 0) = false ∧ a.length ≤ sizeLine ∧
      R (.val (.tup [.str (Txt.partition a b).1, .str (Txt.partition a b).2.1, .str (Txt.partition a b).2.2]))))) :
    tE K Ex E (tM1 (fun x xs H Q => ∃ a b, x = .str a ∧ xs = [.str b] ∧ (b.length == 0) = false ∧ a.length ≤ sizeLine ∧
      ∀ p, H p = none → Q (.ref p) (upd H p (.tup [.str (Txt.partition a b).1, .str (Txt.partition a b).2.1, .str (Txt.partition a b).2.2]))) to te) ρ R :=
  fun G0 H0 G σ H Q S X k => (v_of h) G0 H0 G σ H _ S X fun d ⟨a, ed, hr⟩ v G1 H1 e1 r1 => by
    subst ed
    have z := (show Rp K G1 v (.str a) from r1).inv_str
    subst z
    refine ⟨⟨a, rfl⟩, (v_of hr) G0 H0 G1 σ H1 _ (S.step e1) X fun e ⟨b, ee, h0, hl, hr⟩ u G2 H2 e2 r2 => ?_⟩
    subst ee
    have z := (show Rp K G2 u (.str b) from r2).inv_str
    subst z
    refine ⟨a, b, rfl, rfl, h0, hl, fun p np => k _ hr _ (upd G2 p (.tup _)) _ ((e1.trans e2).trans (Ev.laid e2.sub np)) (show Rp K _ _ (.tup _) from .tup (.inl (.inl upd_same)) (.cons (.str _) (.cons (.str _) (.cons (.str _) .nil))))⟩
theorem rps_strs {G : Hp} : ∀ ys : List Str, Rps K G (ys.map V.str) (ys.map D.str)
  | [] => .nil
  | y :: ys => .cons (.str y) (rps_strs ys)
/-- s.split(t) -/
theorem e_split (h : tE K Ex E to ρ (vR fun d => ∃ a, d = .str a ∧ tE K Ex E te ρ (vR fun e => ∃ b, e = .str b ∧ (b.length == 0) = false ∧ a.length + 2 ≤ sizeLine ∧ R (.own ((Txt.split a b).map D.str))))) :
    tE K Ex E (tM1 (fun x xs H Q => ∃ a b, x = .str a ∧ xs = [.str b] ∧ (b.length == 0) = false ∧ a.length + 2 ≤ sizeLine ∧ rNewStrs (Txt.split a b) H Q) to te) ρ R :=
  fun G0 H0 G σ H Q S X k => (v_of h) G0 H0 G σ H _ S X fun d ⟨a, ed, hr⟩ v G1 H1 e1 r1 => by
    subst ed
    have z := (show Rp K G1 v (.str a) from r1).inv_str
    subst z
    refine ⟨⟨a, rfl⟩, (v_of hr) G0 H0 G1 σ H1 _ (S.step e1) X fun e ⟨b, ee, h0, hl, hr⟩ u G2 H2 e2 r2 => ?_⟩
    subst ee
    have z := (show Rp K G2 u (.str b) from r2).inv_str
    subst z
    have e := e1.trans e2
    exact ⟨a, b, rfl, rfl, h0, hl, fun p np => k _ hr _ G2 _ (e.trans (Ev.own e2.sub np)) ⟨p, _, rfl, e.hs.free np, e2.sub.free np, upd_same, rps_strs _⟩⟩
/-- int(s), s a text -/
theorem e_intS (h : tE K Ex E te ρ (vR fun d => ∃ a n, d = .str a ∧ PySem.intText? a = some n ∧ a.length ≤ 640 ∧ R (.val (.int n)))) : tE K Ex E (tCB (fun xs H Q => ∃ a n, xs = [.str a] ∧ PySem.intText? a = some n ∧ a.length ≤ 640 ∧ Q (.int n) H) (tCons te tNil)) ρ R :=
  fun G0 H0 G σ H Q S X k => (v_of h) G0 H0 G σ H _ S X fun d ⟨a, n, ed, h1, h2, hr⟩ v G1 H1 e1 r1 => by
    subst ed
    have z := (show Rp K G1 v (.str a) from r1).inv_str
    subst z
    exact ⟨a, n, rfl, h1, h2, k _ hr _ G1 H1 e1 (.int _)⟩
/-- s[i], s a text -/
theorem e_ixS (h : tE K Ex E to ρ (vR fun d => ∃ z, d = .str z ∧ tE K Ex E te ρ (vR fun e => ∃ (i : Int) (c : Nat), e = .int i ∧ 0 ≤ i ∧ i < 2 ^ 63 ∧ i < z.length ∧ z.cps[i.toNat]? = some c ∧ R (.val (.str ⟨#[c]⟩))))) :
    tE K Ex E (tOp (fun x y H Q => ∃ z i c, x = .str z ∧ y = .int i ∧ 0 ≤ i ∧ i < 2 ^ 63 ∧ i < z.length ∧ z.cps[i.toNat]? = some c ∧ Q (.str ⟨#[c]⟩) H) to te) ρ R :=
  fun G0 H0 G σ H Q S X k => (v_of h) G0 H0 G σ H _ S X fun d ⟨a, ed, hr⟩ v G1 H1 e1 r1 => by
    subst ed
    have z := (show Rp K G1 v (.str a) from r1).inv_str
    subst z
    refine (v_of hr) G0 H0 G1 σ H1 _ (S.step e1) X fun e ⟨i, c, ee, h0, h1, h2, h3, hr⟩ u G2 H2 e2 r2 => ?_
    subst ee
    have z := (show Rp K G2 u (.int i) from r2).inv_int
    subst z
    exact ⟨a, i, c, rfl, rfl, h0, h1, h2, h3, k _ hr _ G2 H2 (e1.trans e2) (.str _)⟩
/-- one sign, not in a text -/
theorem e_notInS (h : tE K Ex E to ρ (vR fun d => ∃ c, d = .str ⟨#[c]⟩ ∧ tE K Ex E te ρ (vR fun e => ∃ z : Str, e = .str z ∧ R (.val (.bl (!decide (c ∈ z.cps.toList))))))) : tE K Ex E (tOp rNotInS to te) ρ R :=
  fun G0 H0 G σ H Q S X k => (v_of h) G0 H0 G σ H _ S X fun d ⟨c, ed, hr⟩ v G1 H1 e1 r1 => by
    subst ed
    have z := (show Rp K G1 v (.str _) from r1).inv_str
    subst z
    refine (v_of hr) G0 H0 G1 σ H1 _ (S.step e1) X fun e ⟨z, ee, hr⟩ u G2 H2 e2 r2 => ?_
    subst ee
    have y := (show Rp K G2 u (.str z) from r2).inv_str
    subst y
    exact ⟨c, z, rfl, rfl, k _ hr _ G2 H2 (e1.trans e2) (.bl _)⟩
/-- sign by sign -/
def signsD (z : Str) : List D := z.cps.toList.map fun c => D.str ⟨#[c]⟩
theorem signs_get {z : Str} {i : Nat} {d : D} (h : (signsD z)[i]? = some d) : ∃ c, z.cps.toList[i]? = some c ∧ d = .str ⟨#[c]⟩ := by
  unfold signsD at h
  rw [List.getElem?_map] at h
  cases e : z.cps.toList[i]? with
  | none => rw [e] at h; cases h
  | some c =>
    rw [e] at h
    exact ⟨c, rfl, (Option.some.inj h).symm⟩
theorem signs_len (z : Str) : (signsD z).length = z.cps.size := by
  unfold signsD
  rw [List.length_map, Array.length_toList]
end
end Y
end

section
set_option maxHeartbeats 4000000
namespace Y
open PySem PySem.Spec PyProof.Rows L2
/-! ### sep.join(reversed(xs)), texts sign by sign, f-strings -/
theorem strs_rev : ∀ {vs : List Value} {ys : List Str}, StrsAre vs ys → StrsAre vs.reverse ys.reverse := by
  have app : ∀ {a : List Value} {b : List Str} {c : List Value} {d : List Str}, StrsAre a b → StrsAre c d → StrsAre (a ++ c) (b ++ d) := by
    intro a b c d h k
    induction h with
    | nil => exact k
    | cons y t _ ih => exact .cons y t ih
  intro vs ys h
  induction h with
  | nil => exact .nil
  | cons y t _ ih =>
    rw [List.reverse_cons, List.reverse_cons]
    exact app ih (.cons y t .nil)
theorem rev_items {items acc : Array Value} (h : ItemsOf (fun i v => items[items.size - 1 - i]? = some v) acc items.size) : acc.toList = items.toList.reverse := by
  have hs : items.toList.length = items.size := Array.length_toList
  have hl : acc.toList.length = items.toList.length := by rw [Array.length_toList, h.1, hs]
  apply List.ext_getElem?
  intro j
  by_cases hj : j < items.toList.length
  · have hja : j < acc.toList.length := by omega
    have e1 : acc.toList[j]? = some acc.toList[j] := List.getElem?_eq_getElem hja
    have e2 : items[items.size - 1 - j]? = some acc.toList[j] := h.2 j _ (by rw [← Array.getElem?_toList]; exact e1)
    rw [e1, List.getElem?_reverse hj, ← e2, ← Array.getElem?_toList, hs]
  · rw [List.getElem?_eq_none (by omega), List.getElem?_eq_none (by rw [List.length_reverse]; omega)]
section
variable {prog : Program} {w : World} {A : Around} {E : Value → Shared → Prop} {s : Shared} {x : Str} {t : Tok} {Q : Value → Shared → Prop}
theorem join_rev {it l : Addr} {items : Array Value} {ys : List Str} (hh : A.handled = none) (hit : s.heap.IsRevIter it l ((items.size : Int) - 1)) (hl : s.heap.IsList l items) (hne : l ≠ it) (hn : items.size ≤ sizeLine) (hi : StrsAre items.toList ys)
    (hok : (ys.reverse.map (·.length)).sum + ys.reverse.length * x.length ≤ 16777216)
    (h : ∀ h' t' k, (∀ b o, b ≠ it → s.heap.get? b = some o → h'.get? b = some o) → Q (.str (Txt.join x ys.reverse) t') { s with heap := h', toks := k }) : wpAny (model prog w) A (call (.builtin "str.join") [.str x t, .ref it]) Q E s := by
  refine wpAny_call (codeAny_call_builtin F.slot_str_join.plain F.entry_str_join (F.slot_str_join.check _ _ _ _ _ _ _ _ (typeIs_str _ _ _) (F.args_str_join_2 _ _) ?_))
  rw [join_tree_other]
  refine wpAny_bind (wpAny_typeOf hit.typeIs ?_)
  show wpAny _ A.in1 ((pyIter (.ref it)).tryCatch _ >>= fun it => collect it >>= fun items => joinTail x items) _ _ s
  refine wpAny_bind (wpAny_tryCatch (wpAny_pyIter_revIter hit ?_))
  refine wpAny_bind (RT.collect_rev (A := A.in1) hh hit hl hne hn fun h' tk acc hk hacc => ?_)
  have hr := strs_rev hi
  rw [← rev_items hacc] at hr
  obtain ⟨ls, hv, ht⟩ := strsAre_values hr
  rw [hv]
  have hok' := joinOk_of hok
  rw [← ht] at hok'
  unfold JoinOk at hok'
  rw [Bool.not_eq_true'] at hok'
  have g : Gives (joinTail x (strValues ls)) (joinMade x ls) := by
    have g0 := gives_joinTail x ls hok'
    cases ls with
    | nil => exact g0
    | cons p r => cases r with
      | nil => exact g0
      | cons q r' => exact g0
  refine g prog w A (wants Q E) { s with heap := h', toks := tk } (post_join ls ⟨joinFit_length hok', fun t' k => ?_⟩)
  rw [ht]
  exact h h' t' k hk
end
/-- sep.join(reversed(xs)), xs a list of texts -/
def tJoinRev (K : PySem.W.Frag) (to te : TE) : TE := fun σ H Q => to σ H fun x H1 => (∃ a, x = .str a) ∧ te σ H1 fun v H2 => ∃ (a : Str) (q : Addr) (ys : List Str),
  x = .str a ∧ v = .ref q ∧ SqL K H2 q (ys.map V.str) ∧ (ys.reverse.map (·.length)).sum + ys.reverse.length * a.length ≤ 16777216 ∧ Q (.str (Txt.join a ys.reverse)) H2
section
variable {X : Cx}
theorem pe_joinRev {K : PySem.W.Frag} {o e : Expr} {to te : TE} {apos pos p pos2 : Pos} (hg : Gl X "reversed") (hm : X.mg "reversed" = none) (ho : PE X o to) (he : PE X e te) (hK : X.K = K := by rfl) (hc : X.calm = true := by rfl)
    (hs1 : starEach [.Call (.Name "reversed" p) [e] [] pos2] X.env = [(false, eval (.Call (.Name "reversed" p) [e] [] pos2) X.env)] := by rfl)
    (hs : starEach [e] X.env = (false, eval e X.env) :: starEach [] X.env := by rfl)
    (hbase : attributeBase o "join" X.env (eval o X.env) = eval o X.env := by rfl) (hline : (apos.endLine == pos.line) = true := by rfl) :
    PE X (.Call (.Attribute o "join" apos) [.Call (.Name "reversed" p) [e] [] pos2] [] pos) (tJoinRev K to te) := by
  subst hK
  refine ⟨fun pins s σ H Q I h => ?_⟩
  refine PySem.Call_method1 hbase hs1 hline (thn (ho.run pins s σ H _ I h) fun v s1 ⟨x, H1, I1, r1, q1⟩ => ?_)
  obtain ⟨⟨a, rfl⟩, q1⟩ := q1
  obtain ⟨t, rfl⟩ := _root_.id r1
  refine ⟨"str", _, F.plainAttrs_str, F.slot_str_join, F.type_str_join, typeIs_str _ _ _, (fun _ e => nomatch e), Calls.callWith_builtin rfl (Calls.evalArgs_plain (Calls.spliced_cons ?_))⟩
  refine Call_ (ld_blt I1 hg hm PyProof.Rows.boot_reversed (PyProof.Rows.callWith_type1 (args_cons (thn (he.run pins s1 σ H1 _ I1 q1) fun u s2 ⟨v, H2, I2, r2, q2⟩ => args_nil ?_) hs) hs rfl))
  obtain ⟨a', q, ys, ea, rfl, hq, hz, q3⟩ := q2
  cases ea
  obtain rfl : u = Value.ref q := r2
  obtain ⟨its, rv, pl, hsz⟩ := I2.list hq
  refine call_reversed_list pl.isList ?_
  have k0 : ∀ b o, s2.heap.get? b = some o → (s2.heap.push (revObj q ((its.toArray.size : Int) - 1))).get? b = some o := fun b o e => Heap.get?_push_of_some _ e
  have I3 : Inv X pins σ H2 { s2 with heap := s2.heap.push (revObj q ((its.toArray.size : Int) - 1)) } := I2.kept (t' := s2.toks) k0
  obtain ⟨f0, f1, f2, f3, f4, f5⟩ := I2.fpOk (H' := H2) (b := s2.heap.objs.size) (Nat.le_refl _) (I2.hok.fresh (Nat.le_refl _))
  have hl := pl.isList
  obtain ⟨ol, hol, _⟩ := id hl
  have hne : q ≠ s2.heap.objs.size := Nat.ne_of_lt (Heap.lt_size hol)
  have hn : its.toArray.size ≤ sizeLine := by rw [List.size_toArray, ← rv.length]; exact hsz
  refine Calls.spliced_nil (join_rev (s := { s2 with heap := s2.heap.push (revObj q ((its.toArray.size : Int) - 1)) }) (ys := ys) (I2.ok.hd hc) ⟨_, Heap.get?_push_size _ rfl, rfl, rfl⟩ (hl.push _) hne hn (by rw [List.toList_toArray]; exact strs_of_vals rv) hz fun h' t' k hk => ?_)
  exact ⟨.str _, H2, I3.turned (t' := k) (fun b o hb e => hk b o hb e) f0 f1 f3 f4 f5, ⟨t', rfl⟩, q3⟩
end
section
variable {K : PySem.W.Frag} {Ex : Value → List Slot → Prop} {E : L2.St → XK} {ρ : List Slot} {R : Res → Prop} {to te : TE}
theorem rps_strs_inv {G : Hp} : ∀ {ys : List Str} {vs : List V}, Rps K G vs (ys.map D.str) → vs = ys.map V.str
  | [], _, .nil => rfl
  | y :: ys, _, .cons h r => by
    have e := h.inv_str
    subst e
    rw [rps_strs_inv r]
    rfl
theorem e_joinRev (h : tE K Ex E to ρ (vR fun d => ∃ a, d = .str a ∧ tE K Ex E te ρ fun r => ∃ ys : List Str, listD r.dat = some (ys.map D.str) ∧ (ys.reverse.map (·.length)).sum + ys.reverse.length * a.length ≤ 16777216 ∧ R (.val (.str (Txt.join a ys.reverse))))) :
    tE K Ex E (tJoinRev K to te) ρ R :=
  fun G0 H0 G σ H Q S X k => (v_of h) G0 H0 G σ H _ S X fun d ⟨a, ed, hr⟩ v G1 H1 e1 r1 => by
    subst ed
    have z := (show Rp K G1 v (.str a) from r1).inv_str
    subst z
    refine ⟨⟨a, rfl⟩, hr G0 H0 G1 σ H1 _ (S.step e1) X fun r ⟨ys, hd, hz, hr⟩ u G2 H2 e2 r2 => ?_⟩
    obtain ⟨l, xs, rfl, s, q⟩ := r2.listSq e2.sub hd
    have ex := rps_strs_inv q
    subst ex
    exact ⟨a, l, ys, rfl, rfl, s, hz, k _ hr _ G2 H2 (e1.trans e2) (.str _)⟩
theorem walkS {z : Str} {G' : Hp} : Walk (Its z) (signsD z).length (fun H => Same G' H) (YD K G' (signsD z)) := by
  have w := (walk_str (z := z)).mono (G' := fun H => Same G' H) (Y' := YD K G' (signsD z)) (fun _ _ => trivial) fun i H x H' hi g y G2 g2 h2 => by
    obtain ⟨rfl, c, e, rfl⟩ := y
    refine ⟨.str ⟨#[c]⟩, G2, ?_, Ev.refl h2, .str _⟩
    unfold signsD
    rw [List.getElem?_map, Array.getElem?_toList, e]
    rfl
  rw [signs_len]
  exact w
theorem i_str {R : List D → Prop} (h : tE K Ex E te ρ (vR fun d => ∃ z, d = .str z ∧ R (signsD z))) : tIt K Ex E (iStr te) ρ R :=
  fun G0 H0 G σ H Q S X k => (v_of h) G0 H0 G σ H _ S X fun d ⟨z, ed, hr⟩ v G1 H1 e1 r1 => by
    subst ed
    have y := (show Rp K G1 v (.str z) from r1).inv_str
    subst y
    exact ⟨z, rfl, k _ hr _ G1 H1 e1 walkS⟩
/-- range(n, n, c): no turn -/
theorem rgc_none {i c : Int} (h0 : 0 ≤ i) (h1 : i < 2 ^ 31) (c0 : 0 < c) (c1 : c < 1073741824) : RgC i i c 0 := by
  have e : Builtin.Range.rangeSize i i c = 0 := by
    unfold Builtin.Range.rangeSize
    rw [if_pos c0, if_neg (Int.lt_irrefl i)]
  refine ⟨by omega, by omega, ?_, e⟩
  unfold Builtin.Range.small
  rw [e]
  simp only [Builtin.Range.rangeFitsLong, Bool.and_eq_true, Bool.or_eq_true, decide_eq_true_eq, beq_iff_eq]
  refine ⟨?_, .inl trivial⟩
  omega
theorem walkN {lo c : Int} {G' : Hp} : Walk (Itc lo c 0) ([] : List D).length (fun H => Same G' H) (YD K G' []) :=
  ⟨fun i H hi _ => absurd hi (Nat.not_lt_zero i), fun H _ => Nat.le_refl 0, fun i H x H' hi _ _ => absurd hi (Nat.not_lt_zero i)⟩
theorem i_rangeN {t u v : TE} {R : List D → Prop} (h : tE K Ex E t ρ fun a => tE K Ex E u ρ fun b => tE K Ex E v ρ fun c => ∃ i k, a.dat = .int i ∧ b.dat = .int i ∧ c.dat = .int k ∧ (0 ≤ i ∧ i < 2 ^ 31 ∧ 0 < k ∧ k < 1073741824) ∧ R []) : tIt K Ex E (iRng3 (tCons t (tCons u (tCons v tNil)))) ρ R :=
  fun G0 H0 G σ H Q S X k => h G0 H0 G σ H _ S X fun a ha v G1 H1 e1 r1 => ha G0 H0 G1 σ H1 _ (S.step e1) X fun b hb u G2 H2 e2 r2 => hb G0 H0 G2 σ H2 _ ((S.step e1).step e2) X fun c ⟨i, j, h1, h2, h3, ⟨b1, b2, b3, b4⟩, hr⟩ u G3 H3 e3 r3 => by
    have q := ((r1.step e2).step e3).rd e3.sub
    rw [h1] at q
    have q2 := (r2.step e3).rd e3.sub
    rw [h2] at q2
    have q3 := r3.rd e3.sub
    rw [h3] at q3
    exact ⟨i, i, j, _, by rw [q.inv_int, q2.inv_int, q3.inv_int], rgc_none b1 b2 b3 b4, k _ hr _ G3 H3 ((e1.trans e2).trans e3) walkN⟩
/-- {x}{y}.. of texts -/
theorem e_fmt (h : tE K Ex E te ρ (vR fun d => (∃ y : Str, d = .str y ∧ y.length ≤ sizeLine ∧ R (.val (.str y))) ∨ ∃ i : Int, d = .int i ∧ i.natAbs.log2 < 1920 ∧ R (.val (.str (toString i))))) : tE K Ex E (tFmt te) ρ R :=
  fun G0 H0 G σ H Q S X k => (v_of h) G0 H0 G σ H _ S X fun d hd v G1 H1 e1 r1 => by
    rcases hd with ⟨y, ed, hl, hr⟩ | ⟨i, ed, hl, hr⟩
    · subst ed
      have z := (show Rp K G1 v (.str y) from r1).inv_str
      subst z
      exact .inl ⟨y, rfl, hl, k _ hr _ G1 H1 e1 (.str _)⟩
    · subst ed
      have z := (show Rp K G1 v (.int i) from r1).inv_int
      subst z
      exact .inr ⟨i, rfl, hl, k _ hr _ G1 H1 e1 (.str _)⟩
/-- the parts, one behind the other -/
def tJD (K : PySem.W.Frag) (Ex : Value → List Slot → Prop) (E : L2.St → XK) : List TE → Str → List Slot → (Str → Prop) → Prop
  | [], acc, _, R => R acc
  | t :: ts, acc, ρ, R => tE K Ex E t ρ (vR fun d => ∃ y : Str, d = .str y ∧ (acc ++ y).length ≤ sizeLine ∧ tJD K Ex E ts (acc ++ y) ρ R)
theorem js_run : ∀ (ts : List TE) (acc : Str) (R : Str → Prop), tJD K Ex E ts acc ρ R → ∀ (G0 H0 G : Hp) (σ : L2.St) (H : Hp) (Q : Str → Hp → Prop), Sig K G0 H0 G ρ σ H → Lk K Ex E G0 H0 → (∀ y, R y → ∀ G' H', Ev G H G' H' → Q y H') → tJs ts acc σ H Q
  | [], acc, R, h, G0, H0, G, σ, H, Q, S, X, k => k acc h G H (Ev.refl S.ev.sub)
  | t :: ts, acc, R, h, G0, H0, G, σ, H, Q, S, X, k => (v_of h) G0 H0 G σ H _ S X fun d ⟨y, ed, hl, hr⟩ v G1 H1 e1 r1 => by
    subst ed
    have z := (show Rp K G1 v (.str y) from r1).inv_str
    subst z
    exact ⟨y, rfl, hl, js_run ts (acc ++ y) R hr G0 H0 G1 σ H1 Q (S.step e1) X fun y hy G2 H2 e2 => k y hy G2 H2 (e1.trans e2)⟩
theorem e_joined {ts : List TE} (h : tJD K Ex E ts Str.empty ρ fun y => R (.val (.str y))) : tE K Ex E (fun σ H Q => tJs ts Str.empty σ H fun out H1 => Q (.str out) H1) ρ R :=
  fun G0 H0 G σ H Q S X k => js_run ts Str.empty _ h G0 H0 G σ H _ S X fun y hy G1 H1 e1 => k _ hy _ G1 H1 e1 (.str _)
end
section
theorem pe_orTK {X : Cx} {K : PySem.W.Frag} {a b : Expr} {rest : List Expr} {ta tb : TE} {pos : Pos} (ha : PE X a ta) (hb : PE X (.BoolOp .Or (b :: rest) pos) tb) (hK : X.K = K := by rfl) : PE X (.BoolOp .Or (a :: b :: rest) pos) (tOrT K ta tb) := by
  subst hK
  exact pe_orT ha hb
variable {K : PySem.W.Frag} {Ex : Value → List Slot → Prop} {E : L2.St → XK} {ρ : List Slot} {R : Res → Prop} {ta tb : TE}
/-- x or y, of any kind -/
theorem e_orT (h : tE K Ex E ta ρ (vR fun d => ∃ k, TrD d k ∧ (k = true → R (.val d)) ∧ (k = false → tE K Ex E tb ρ R))) : tE K Ex E (tOrT K ta tb) ρ R :=
  fun G0 H0 G σ H Q S X kk => (v_of h) G0 H0 G σ H _ S X fun d ⟨k, ht, h1, h2⟩ v G1 H1 e1 r1 => by
    refine ⟨k, trD_ok (r1.mono e1.sub) ht, ?_⟩
    cases k with
    | true => exact iteT (kk _ (h1 rfl) v G1 H1 e1 r1)
    | false => exact iteF ((h2 rfl) G0 H0 G1 σ H1 Q (S.step e1) X fun b hb u G2 H2 e2 r2 => kk b hb u G2 H2 (e1.trans e2) (r2.from fun l n => e1.hs.free n))
end
end Y
end

section
namespace K02
open PySem PySem.Spec PyProof.Rows L2 Y Wd
def topS (i : Nat) : Stmt := PySem.Challenge.pw_widthwise_k02_part_texts.main.body.getD i (.Pass ⟨0, 0, 0, 0⟩)
abbrev s___init__ : Stmt := clsStmt (topS 2) 0
abbrev NM___init__ : List Str := ["self", "why"]
theorem sc___init__ : FnScope NM___init__ ["self", "why"] (defScope s___init__) := ⟨rfl, rfl, rfl, by decide +kernel, rfl, by decide +kernel, by decide +kernel⟩
theorem ok_init {P : Program} {w : World} {K : PySem.W.Frag} {mg : Str → Option Value} {base : Heap} {f : Addr} {fd : FuncData} (B : Bl mg) (vV : PySem.W.findCls K (.type "ValueError") (.type "type") "__init__" = some (.val (.builtin "ValueError.__init__")))
    (F : FunD K "__init__" "WideError.__init__" (defArgs s___init__) (defBody s___init__) (defScope s___init__) [.str ""] [] f fd) : FnOk P w K mg base CX0 1 f fd ["self", "why"] (spWE K) := by
  refine F.ok sc___init__ (fun vs H Q E ⟨a, C, nm, why, h, _⟩ => by rw [h]; rfl) fun cdv A outer s H vs Q E hr ⟨a, C, nm, why, hv, ox, hn, kd, ha, hq⟩ => ⟨_, (pss_cons (ps_expr (pe_veinit (by rfl) B.bVE vV (pa_cons (pv 0) (pa_cons (pv 1) pa_nil)))) (pss_one (ps_ost (pv 0) (pe_clsName (pv 0))))), ?_⟩
  subst hv
  refine ⟨_, rfl, _, rfl, a, C, [why], rfl, Nat.le_of_ble_eq_true rfl, ox, ha, ?_⟩
  refine ⟨_, rfl, a, C, nm, rfl, ha, hn, ?_⟩
  exact ⟨_, rfl, a, C, rfl, ox, kd, .inl ⟨ha, fun dx nd ne => hq dx nd ne⟩⟩

abbrev s_is_number : Stmt := topS 15
abbrev NM_is_number : List Str := ["text"]
theorem sc_is_number : FnScope NM_is_number ["text"] (defScope s_is_number) := ⟨rfl, rfl, rfl, by decide +kernel, rfl, by decide +kernel, by decide +kernel⟩
abbrev s_number_of : Stmt := topS 16
abbrev NM_number_of : List Str := ["text", "ahead", "number", "at"]
theorem sc_number_of : FnScope NM_number_of ["text"] (defScope s_number_of) := ⟨rfl, rfl, rfl, by decide +kernel, rfl, by decide +kernel, by decide +kernel⟩
abbrev s_figures_of : Stmt := topS 17
abbrev NM_figures_of : List Str := ["number", "runs", "run"]
theorem sc_figures_of : FnScope NM_figures_of ["number"] (defScope s_figures_of) := ⟨rfl, rfl, rfl, by decide +kernel, rfl, by decide +kernel, by decide +kernel⟩
abbrev s_is_whole : Stmt := topS 19
abbrev NM_is_whole : List Str := ["thing"]
theorem sc_is_whole : FnScope NM_is_whole ["thing"] (defScope s_is_whole) := ⟨rfl, rfl, rfl, by decide +kernel, rfl, by decide +kernel, by decide +kernel⟩
abbrev s_is_part : Stmt := topS 20
abbrev NM_is_part : List Str := ["thing", "top", "bottom"]
theorem sc_is_part : FnScope NM_is_part ["thing"] (defScope s_is_part) := ⟨rfl, rfl, rfl, by decide +kernel, rfl, by decide +kernel, by decide +kernel⟩
abbrev s_part_text : Stmt := topS 21
abbrev NM_part_text : List Str := ["part", "top", "bottom", "text"]
theorem sc_part_text : FnScope NM_part_text ["part"] (defScope s_part_text) := ⟨rfl, rfl, rfl, by decide +kernel, rfl, by decide +kernel, by decide +kernel⟩
abbrev s_read_part : Stmt := topS 22
abbrev NM_read_part : List Str := ["text", "top_text", "stroke", "bottom_text", "figures", "top", "part"]
theorem sc_read_part : FnScope NM_read_part ["text"] (defScope s_read_part) := ⟨rfl, rfl, rfl, by decide +kernel, rfl, by decide +kernel, by decide +kernel⟩
abbrev s__law_row : Stmt := topS 24
abbrev NM__law_row : List Str := ["_law_script", "_law_many", "_law_cell", "_law_found", "_law_more", "_law_k"]
theorem sc__law_row : FnScope NM__law_row ["_law_script", "_law_many"] (defScope s__law_row) := ⟨rfl, rfl, rfl, by decide +kernel, rfl, by decide +kernel, by decide +kernel⟩
abbrev s__law_gcd : Stmt := topS 25
abbrev NM__law_gcd : List Str := ["_law_one", "_law_other_here"]
theorem sc__law_gcd : FnScope NM__law_gcd ["_law_one", "_law_other_here"] (defScope s__law_gcd) := ⟨rfl, rfl, rfl, by decide +kernel, rfl, by decide +kernel, by decide +kernel⟩
abbrev s__law_part : Stmt := topS 26
abbrev NM__law_part : List Str := ["_law_top", "_law_bottom", "_law_dividing"]
theorem sc__law_part : FnScope NM__law_part ["_law_top", "_law_bottom"] (defScope s__law_part) := ⟨rfl, rfl, rfl, by decide +kernel, rfl, by decide +kernel, by decide +kernel⟩
abbrev s__law_drawn : Stmt := topS 27
abbrev NM__law_drawn : List Str := ["_law_a", "_law_b", "_law_number"]
theorem sc__law_drawn : FnScope NM__law_drawn ["_law_a", "_law_b"] (defScope s__law_drawn) := ⟨rfl, rfl, rfl, by decide +kernel, rfl, by decide +kernel, by decide +kernel⟩
abbrev s__law_of_class : Stmt := topS 28
abbrev NM__law_of_class : List Str := ["_law_e", "_law_name", "_law_found", "_law_names", "_law_one"]
theorem sc__law_of_class : FnScope NM__law_of_class ["_law_e", "_law_name"] (defScope s__law_of_class) := ⟨rfl, rfl, rfl, by decide +kernel, rfl, by decide +kernel, by decide +kernel⟩
abbrev s__law_text : Stmt := topS 29
abbrev NM__law_text : List Str := ["_law_part_here", "_law_text_here"]
theorem sc__law_text : FnScope NM__law_text ["_law_part_here"] (defScope s__law_text) := ⟨rfl, rfl, rfl, by decide +kernel, rfl, by decide +kernel, by decide +kernel⟩
abbrev s__law_figures : Stmt := topS 30
abbrev NM__law_figures : List Str := ["_law_text_here", "_law_sign"]
theorem sc__law_figures : FnScope NM__law_figures ["_law_text_here"] (defScope s__law_figures) := ⟨rfl, rfl, rfl, by decide +kernel, rfl, by decide +kernel, by decide +kernel⟩
abbrev s__law_due : Stmt := topS 31
abbrev NM__law_due : List Str := ["_law_text_here", "_law_pieces", "_law_first", "_law_one", "_law_bottom"]
theorem sc__law_due : FnScope NM__law_due ["_law_text_here"] (defScope s__law_due) := ⟨rfl, rfl, rfl, by decide +kernel, rfl, by decide +kernel, by decide +kernel⟩
abbrev s__law_other : Stmt := topS 32
abbrev NM__law_other : List Str := ["_law_text_here", "_law_part_here", "_law_number", "_law_way", "_law_at", "_law_sign", "_law_some"]
theorem sc__law_other : FnScope NM__law_other ["_law_text_here", "_law_part_here", "_law_number"] (defScope s__law_other) := ⟨rfl, rfl, rfl, by decide +kernel, rfl, by decide +kernel, by decide +kernel⟩
abbrev s__law_read : Stmt := topS 33
abbrev NM__law_read : List Str := ["_law_text_here", "_law_found", "_law_error", "_law_e"]
theorem sc__law_read : FnScope NM__law_read ["_law_text_here"] (defScope s__law_read) := ⟨rfl, rfl, rfl, by decide +kernel, rfl, by decide +kernel, by decide +kernel⟩
abbrev s_law : Stmt := topS 34
abbrev NM_law : List Str := ["_law_script", "_law_row_here", "_law_k", "_law_part_here", "_law_text_here", "_law_other_here", "_law_found"]
theorem sc_law : FnScope NM_law ["_law_script"] (defScope s_law) := ⟨rfl, rfl, rfl, by decide +kernel, rfl, by decide +kernel, by decide +kernel⟩
end K02
end

section
set_option maxHeartbeats 4000000
open PySem PySem.Spec PyProof.Rows L2 Y
local macro_rules | `(tactic| walk_at "yE") => `(tactic| first
  | ((with_reducible show tE _ _ _ (tOp _ _ _) _ _); first
    | (with_reducible refine e_ix ?_)
    | (with_reducible refine e_add ?_)
    | (with_reducible refine e_catA ?_)
    | (with_reducible refine e_sub ?_)
    | (with_reducible refine e_mul ?_)
    | (with_reducible refine e_mod ?_)
    | (with_reducible refine e_fdiv ?_)
    | (with_reducible refine e_pow ?_)
    | (with_reducible refine e_shr ?_)
    | (with_reducible refine e_band ?_)
    | (with_reducible refine e_lt ?_)
    | (with_reducible refine e_le ?_)
    | (with_reducible refine e_gt ?_)
    | (with_reducible refine e_ge ?_)
    | (with_reducible refine e_eq ?_)
    | (with_reducible refine e_ne ?_)
    | (with_reducible refine e_isN ?_)
    | (with_reducible refine e_notN ?_)
    | (with_reducible refine e_isB ?_)
    | (with_reducible refine e_isntB ?_))
  | ((with_reducible show tE _ _ _ (tCB _ _) _ _); first
    | (with_reducible refine e_len ?_)
    | (with_reducible refine e_isX (by with_unfolding_all exact fun _ h => h) ?_)
    | (with_reducible refine e_isInt ?_)
    | (with_reducible refine e_isBool ?_)
    | (with_reducible refine e_isTup ?_)
    | (with_reducible refine e_isStr ?_)
    | (with_reducible refine e_isList ?_)
    | (with_reducible refine e_gcd ?_)
    | (with_reducible refine e_abs ?_)
    | (with_reducible refine e_max2 ?_)
    | (with_reducible refine e_intB ?_)
    | (with_reducible refine e_strI ?_)
    | (with_reducible refine e_list ?_)
    | (with_reducible refine e_repr ?_)
    | (with_reducible refine e_tupL ?_)
    | (with_reducible refine e_all ?_))
  | (with_reducible refine e_val (by with_unfolding_all rfl) ?_)
  | (with_reducible refine e_own (by with_unfolding_all rfl) ?_)
  | (with_reducible refine e_int ?_)
  | (with_reducible refine e_bl ?_)
  | (with_reducible refine e_non ?_)
  | (with_reducible refine e_str ?_)
  | (with_reducible refine e_neg ?_)
  | (with_reducible refine e_and ?_)
  | (with_reducible refine e_or ?_)
  | (with_reducible refine e_not ?_)
  | (with_reducible refine e_if ?_)
  | (with_reducible refine e_chainI ?_)
  | (with_reducible refine e_tup ?_)
  | (with_reducible refine e_lst ?_)
  | (with_reducible refine e_dk0 ?_)
  | (with_reducible refine e_sl ?_)
  | (with_reducible refine e_revL ?_))
local macro_rules | `(tactic| walk_at "yS") => `(tactic| first
  | (with_reducible refine s_seq ?_)
  | (with_reducible refine s_if ?_)
  | (with_reducible refine s_retOwn (by with_unfolding_all rfl) ?_)
  | (with_reducible refine s_ret ?_)
  | (with_reducible refine s_retN ?_)
  | (with_reducible refine s_next ?_)
  | (with_reducible refine s_set ?_ (by with_unfolding_all exact Nat.le_of_ble_eq_true rfl))
  | (with_reducible refine s_asgG ?_)
  | (with_reducible refine s_parS ?_ (by with_unfolding_all exact Nat.le_of_ble_eq_true rfl) (by with_unfolding_all exact Nat.le_of_ble_eq_true rfl))
  | (with_reducible refine s_rz ?_)
  | (with_reducible refine s_appendS (by with_unfolding_all rfl) ?_)
  | (with_reducible refine s_expr ?_)
  | ((with_reducible refine s_tryKK ?_); intro W))
local macro_rules | `(tactic| walk_at "yT") => `(tactic| first
  | (with_reducible refine t_test ?_)
  | (with_reducible refine t_tru ?_)
  | (with_reducible refine t_not ?_)
  | (with_reducible refine t_and ?_)
  | (with_reducible refine t_or ?_))
local macro_rules | `(tactic| walk_at "yA") => `(tactic| first
  | (with_reducible refine vs_cons ?_)
  | (with_reducible refine vs_nil ?_)
  | (with_reducible refine a_cons ?_)
  | (with_reducible refine a_nil ?_)
  | (with_reducible refine o_none ?_)
  | (with_reducible refine o_some ?_))
local macro_rules | `(tactic| walk_at "yX") => `(tactic| first
  | ((with_reducible show ∃ _, CmpD _ _ _ ∧ _); first | refine ⟨_, cmpd_int, ?_⟩ | refine ⟨_, cmpd_str, ?_⟩ | refine ⟨_, cmpd_bl, ?_⟩)
  | ((with_reducible show ∃ _ _, _ ∧ ExcC _ _ ∧ _); refine ⟨_, _, rfl, by assumption, by assumption, ?_⟩)
  | (refine ⟨_, _, rfl, rfl, ?_⟩)
  | (refine ⟨_, _, rfl, ?_⟩)
  | (refine ⟨_, rfl, ?_⟩))
local macro_rules | `(tactic| walk_at "yN") => `(tactic| first
  | (with_reducible refine brT ?_)
  | (with_reducible refine brF ?_)
  | (with_reducible refine brT' ?_)
  | (with_reducible refine brF' ?_)
  | ((with_reducible show ((!_) = false → _) ∧ _); first | (refine brA' rfl ?_) | (refine brB' rfl ?_))
  | ((with_reducible show ((!_) = true → _) ∧ _); first | (refine brA rfl ?_) | (refine brB rfl ?_))
  | ((with_reducible show 0 < _ ∧ _); refine ⟨by first | decide | omega, ?_⟩)
  | ((with_reducible show _ ≤ sizeLine ∧ _); refine ⟨small_len (by with_unfolding_all exact Nat.le_of_ble_eq_true rfl), ?_⟩)
  | ((with_reducible show CPow _ _ ∧ _); refine ⟨⟨by decide, by decide, by decide⟩, ?_⟩)
  | ((with_reducible show CDivX _ _ ∧ _); refine ⟨⟨by decide, by decide⟩, ?_⟩)
  | ((with_reducible show 0 ≤ _ ∧ _); refine ⟨by first | decide | omega, ?_⟩)
  | ((with_reducible show _ = D.non ∧ _); refine ⟨rfl, ?_⟩))
local macro_rules | `(tactic| walk_at "yO") => `(tactic| first
  | ((with_reducible show vR _ _); first | (with_reducible refine vr_val ?_) | (with_reducible refine vr_own ?_))
  | ((with_reducible show asgR _ _); first | (with_reducible refine as_val ?_) | (with_reducible refine as_own ?_))
  | ((with_reducible show ∃ _, _); walk_at "yX")
  | ((with_reducible show _ ∧ _); walk_at "yN")
  | ((with_reducible show AddD _ _ _); first | (refine add_int ?_) | (refine add_lst (small_len' (by with_unfolding_all exact Nat.le_of_ble_eq_true rfl)) ?_))
  | ((with_reducible show MulD _ _ _); refine mul_int (by walk_at "mok") ?_)
  | (with_reducible refine ss_go (by with_unfolding_all repeat constructor) ?_)
  | (with_reducible refine g_nameS (by first | trivial | exact List.mem_cons_self | simp) (by with_unfolding_all repeat constructor) ?_)
  | (with_reducible refine g_tup (by with_unfolding_all rfl) ?_)
  | (with_reducible refine gs_cons ?_)
  | (with_reducible refine gs_nil ?_))
local macro_rules | `(tactic| walk_at "y") => `(tactic| first
  | ((with_reducible show tE _ _ _ _ _ _); walk_at "yE")
  | ((with_reducible show tS _ _ _ _ _ _); walk_at "yS")
  | ((with_reducible show tT _ _ _ _ _ _); walk_at "yT")
  | ((with_reducible show tVs _ _ _ _ _ _); walk_at "yA")
  | ((with_reducible show tA _ _ _ _ _ _); walk_at "yA")
  | ((with_reducible show tOo _ _ _ _ _ _); walk_at "yA")
  | walk_at "yO")
local macro_rules | `(tactic| walk_at "z") => `(tactic| (fail_if_success (with_reducible show tS _ _ _ (tSeq (tIfS _ _ _) _) _ _); walk_at "y"))
local macro_rules | `(tactic| walk_at "smb") => `(tactic| first
  | assumption
  | exact (show Sm 64 _ by unfold Sm; decide)
  | (apply Sm.mul <;> walk_at "smb")
  | (apply Sm.add2 <;> walk_at "smb")
  | (apply Sm.sub2 <;> walk_at "smb")
  | (apply Sm.neg <;> walk_at "smb"))
local macro_rules | `(tactic| walk_at "mok") => `(tactic| exact mulOk (by walk_at "smb") (by walk_at "smb") (by decide) (by decide) (by decide))

namespace K02
open PySem PySem.Spec PyProof.Rows L2 Y Wd
section
variable {P : Program} {w : World} {K : PySem.W.Frag} {mg : Str → Option Value} {base : Heap} {f : Addr} {fd : FuncData}
theorem ok_is_whole (B : Bl mg) (F : Fun K "is_whole" "is_whole" s_is_whole f fd) : FnOk P w K mg base CX0 1 f fd ["thing"] (spD K fs_is_whole) := by
  refine fn0 F sc_is_whole (fun ds R Ex ⟨d, h, _⟩ => by rw [h]; rfl) fun cdv A outer s H E hr => ⟨_, (pss_one (ps_ret (pe_and (pe_callB (call_isiK (K := K)) (by rfl) B.bIsi (by decide +kernel) (pa_cons (pv 0) (pa_cons (pe_bltn (v := .ty "int") rfl B.bInt (by decide +kernel) rfl) pa_nil))) (pe_one (pe_not (pe_callB (call_isiK (K := K)) (by rfl) B.bIsi (by decide +kernel) (pa_cons (pv 0) (pa_cons (pe_bltn (v := .ty "bool") rfl B.bBool (by decide +kernel) rfl) pa_nil)))))))), fun ds R Ex ⟨d, hd, ht, h⟩ => ?_⟩
  subst hd
  (try dsimp only [cxOf, Cx.nox, Cx.wish]); change tS K _ _ _ [.val (d)] _
  repeat walk_at "y"
  refine ⟨ht, _, rfl, fun hc => ?_, fun hc => ?_⟩
  · repeat walk_at "y"
    refine ⟨ht, _, rfl, ?_⟩
    have e : (!isBoolD d) = isWholeD d := by cases d <;> simp_all [isIntD, isBoolD, isWholeD, Res.dat]
    show R (.val (.bl (!isBoolD d)))
    rw [e]
    exact h
  · have e : isWholeD d = false := by cases d <;> simp_all [isIntD, isBoolD, isWholeD, Res.dat]
    rw [e] at h
    exact h
theorem ok_is_part (B : Bl mg) (i_gcd : mg "gcd" = some (.builtin "math.gcd")) (d_is_whole : Dfn P w K mg base CX0 "is_whole" ["thing"] 1 fs_is_whole) (F : Fun K "is_part" "is_part" s_is_part f fd) : FnOk P w K mg base CX0 2 f fd ["thing"] (spD K fs_is_part) := by
  refine fn0 F sc_is_part (fun ds R Ex ⟨d, h, _⟩ => by rw [h]; rfl) fun cdv A outer s H E hr => ⟨_, (pss_cons (ps_if (PW.pt (pw_or (pt_not (pt_truK (K := K) (pe_callB (call_isiK (K := K)) (by rfl) B.bIsi (by decide +kernel) (pa_cons (pv 0) (pa_cons (pe_bltn (v := .ty "tuple") rfl B.bTuple (by decide +kernel) rfl) pa_nil))))) (pw_or1 (pt_cmpR (op_neK (K := K) hr) (pe_callB (call_lenK (K := K)) (by rfl) B.bLen (by decide +kernel) (pa_cons (pv 0) pa_nil)) pe_int (nomark _))))) (pss_one (ps_ret pe_bl)) pss_nil)
      (pss_cons (ps_asg (pv 0) (pg_tup rfl (pgs_cons (pg_name (i := 1) sc_is_part.nd rfl (by first | exact .inl rfl | exact .inr rfl)) (pgs_cons (pg_name (i := 2) sc_is_part.nd rfl (by first | exact .inl rfl | exact .inr rfl)) pgs_nil))))
      (pss_cons (ps_if (PW.pt (pw_or (pt_not (pt_truK (K := K) (pe_dK d_is_whole hr (pa_cons (pv 1) pa_nil)))) (pw_or1 (pt_not (pt_truK (K := K) (pe_dK d_is_whole hr (pa_cons (pv 2) pa_nil))))))) (pss_one (ps_ret pe_bl)) pss_nil)
      (pss_one (ps_ret (pe_and (pe_cmpR op_gt (pv 2) pe_int (nomark _)) (pe_one (pe_cmpR (op_eqK (K := K) hr) (pe_callBfun cr_gcd (by rfl) i_gcd (pa_cons (pv 1) (pa_cons (pv 2) pa_nil))) pe_int (nomark _))))))))), fun ds R Ex ⟨d, hd, ht, h⟩ => ?_⟩
  subst hd
  (try dsimp only [cxOf, Cx.nox, Cx.wish]); change tS K _ _ _ [.val (d), .emp, .emp] _
  repeat walk_at "y"
  refine ⟨tk ht, isTupD d, rfl, fun hc => ?_, fun hc => ?_⟩
  · -- a tuple
    obtain ⟨xs, rfl⟩ := tup_of hc
    repeat walk_at "y"
    refine br2n (fun hn => ?_) fun hn => ?_
    · repeat walk_at "y"
      have e : isPartD (.tup xs) = false := by
        match xs, hn with
        | [], _ => rfl
        | [_], _ => rfl
        | [_, _], hn => exact absurd rfl hn
        | _ :: _ :: _ :: _, _ => rfl
      rw [e] at h
      exact h
    · obtain ⟨x, y, rfl⟩ : ∃ x y, xs = [x, y] := by
        match xs, hn with
        | [], z => cases z
        | [_], z => cases z
        | [x, y], _ => exact ⟨x, y, rfl⟩
        | _ :: _ :: _ :: _, z =>
          have z' : (((_ :: _ :: _ :: _ : List D).length : Nat) : Int) = 2 := z
          simp only [List.length_cons] at z'
          omega
      have t2 : (tyD x).isSome = true ∧ (tyD y).isSome = true := by
        have z : ((tyD x).isSome && (tyD y).isSome) = true := ht
        rwa [Bool.and_eq_true] at z
      repeat walk_at "y"
      refine e_call (fun _ => .nil) ?_
      repeat walk_at "y"
      refine ⟨t2.1, isWholeD x, rfl, fun hx => ?_, fun hx => ?_⟩
      · obtain ⟨a, rfl⟩ := whole_of hx
        repeat walk_at "y"
        refine e_call (fun _ => .nil) ?_
        repeat walk_at "y"
        refine ⟨t2.2, isWholeD y, rfl, ?_⟩
        refine ⟨fun hy => ?_, fun hy => ?_⟩
        · repeat walk_at "y"
          have e := part_no2 (x := .int a) hy
          have h' : R (.val (.bl (partL (.int a) y))) := h
          rw [e] at h'
          exact h'
        · obtain ⟨b, rfl⟩ := whole_of hy
          repeat walk_at "y"
          refine br2 (fun hb => ?_) fun hb => ?_
          · repeat walk_at "y"
            have e : isPartD (.tup [.int a, .int b]) = decide (((Nat.gcd a.natAbs b.natAbs : Nat) : Int) = 1) := by
              show (decide (0 < b) && decide (Nat.gcd a.natAbs b.natAbs = 1)) = _
              rw [decide_eq_true hb, Bool.true_and]
              exact decide_eq_decide.mpr (by omega)
            rw [e] at h
            exact h
          · have e : isPartD (.tup [.int a, .int b]) = false := by
              show (decide (0 < b) && decide (Nat.gcd a.natAbs b.natAbs = 1)) = _
              rw [decide_eq_false hb, Bool.false_and]
            rw [e] at h
            exact h
      · repeat walk_at "y"
        have e := part_no1 (y := y) hx
        have h' : R (.val (.bl (partL x y))) := h
        rw [e] at h'
        exact h'
  · repeat walk_at "y"
    rw [part_no hc] at h
    exact h
theorem ok_law_gcd (B : Bl mg) (F : Fun K "_law_gcd" "_law_gcd" s__law_gcd f fd) : FnOk P w K mg base CX0 1 f fd ["_law_one", "_law_other_here"] (spD K fs_law_gcd) := by
  refine fn0 F sc__law_gcd (fun ds R Ex ⟨a, b, h, _⟩ => by rw [h]; rfl) fun cdv A outer s H E hr => ⟨_, (pss_cons (ps_while PassesOwn.never (pt_cmpR op_gt (pv 1) pe_int (nomark _)) (pss_one (ps_par (i := 0) (j := 1) rfl sc__law_gcd.nd rfl rfl (by decide) rfl rfl (pa_cons (pv 1) (pa_cons (pe_op op_mod (pv 0) (pv 1)) pa_nil)) (by rfl))))
      (pss_one (ps_ret (pv 0)))), fun ds R Ex ⟨a, b, hd, h⟩ => ?_⟩
  subst hd
  (try dsimp only [cxOf, Cx.nox, Cx.wish]); change tS K _ _ _ [.val (.int a), .val (.int b)] _
  repeat walk_at "y"
  refine s_while (fun ρ => ∃ x y : Nat, ρ = [.val (.int x), .val (.int y)] ∧ Nat.gcd x y = Nat.gcd a b) (fun ρ => match ρ with | [_, .val (.int y)] => y.toNat | _ => 0) ⟨a, b, rfl, rfl⟩ fun ρ' ⟨x, y, hρ, hg⟩ => ?_
  subst hρ
  repeat walk_at "y"
  refine br2 (fun hp => ?_) fun hp => ?_
  · repeat walk_at "y"
    have hy : 0 < y := by omega
    refine ⟨⟨y, x % y, by rw [← Int.natCast_emod], ?_⟩, ?_⟩
    · rw [← hg, Nat.gcd_comm x y, Nat.gcd_rec y x, Nat.gcd_comm]
    · have z := Nat.mod_lt x hy
      show ((x : Int) % (y : Int)).toNat < ((y : Int)).toNat
      rw [← Int.natCast_emod]
      omega
  · repeat walk_at "y"
    have hy : y = 0 := by omega
    subst hy
    rw [Nat.gcd_zero_right] at hg
    rw [hg]
    exact h
theorem ok_law_part (B : Bl mg) (d__law_gcd : Dfn P w K mg base CX0 "_law_gcd" ["_law_one", "_law_other_here"] 1 fs_law_gcd) (F : Fun K "_law_part" "_law_part" s__law_part f fd) : FnOk P w K mg base CX0 2 f fd ["_law_top", "_law_bottom"] (spD K fs_law_part) := by
  refine fn0 F sc__law_part (fun ds R Ex ⟨a, b, h, _⟩ => by rw [h]; rfl) fun cdv A outer s H E hr => ⟨_, (pss_cons (ps_set (i := 2) sc__law_part.nd rfl (by first | exact .inl rfl | exact .inr rfl) (pe_dK d__law_gcd hr (pa_cons (pe_callB call_abs (by rfl) B.bAbs (by decide +kernel) (pa_cons (pv 0) pa_nil)) (pa_cons (pv 1) pa_nil))))
      (pss_one (ps_ret (pe_tup (pa_cons (pe_op op_fdivX (pv 0) (pv 2)) (pa_cons (pe_op op_fdivX (pv 1) (pv 2)) pa_nil)))))), fun ds R Ex ⟨a, b, hd, hb, sb, h⟩ => ?_⟩
  subst hd
  obtain ⟨h1, h2, h3⟩ := prt_eq (a := a) hb
  have sg : Sm 900 (ng a b) := by
    unfold Sm at *
    omega
  (try dsimp only [cxOf, Cx.nox, Cx.wish]); change tS K _ _ _ [.val (.int a), .val (.int b), .emp] _
  repeat walk_at "y"
  refine e_call (fun _ => .nil) ?_
  repeat walk_at "y"
  refine ⟨a.natAbs, b.natAbs, by rw [Int.natAbs_of_nonneg (by omega : 0 ≤ b)]; rfl, ?_⟩
  repeat walk_at "y"
  refine ⟨divOk h1 sg (by decide) (by decide), ?_⟩
  repeat walk_at "y"
  refine ⟨divOk h1 sg (by decide) (by decide), ?_⟩
  repeat walk_at "y"
  rw [Int.fdiv_eq_ediv_of_nonneg _ (by omega), Int.fdiv_eq_ediv_of_nonneg _ (by omega)]
  exact h
theorem ok_law_of_class {C C_NoPart C_NoSpan C_NoBox C_NoText C_NoItem C_NoName C_NoWish C_NoChange C_NoRow C_TooMany : Addr} {x : Str} (B : Bl mg) (c_NoPart : Cl mg "NoPart" C_NoPart) (c_NoSpan : Cl mg "NoSpan" C_NoSpan) (c_NoBox : Cl mg "NoBox" C_NoBox) (c_NoText : Cl mg "NoText" C_NoText) (c_NoItem : Cl mg "NoItem" C_NoItem) (c_NoName : Cl mg "NoName" C_NoName) (c_NoWish : Cl mg "NoWish" C_NoWish) (c_NoChange : Cl mg "NoChange" C_NoChange) (c_NoRow : Cl mg "NoRow" C_NoRow) (c_TooMany : Cl mg "TooMany" C_TooMany)
    (kx : KitX K C x C_NoPart C_NoSpan C_NoBox C_NoText C_NoItem C_NoName C_NoWish C_NoChange C_NoRow C_TooMany) (F : Fun K "_law_of_class" "_law_of_class" s__law_of_class f fd) : FnOk P w K mg base CX0 1 f fd ["_law_e", "_law_name"] (spD K (fs_law_of_class C x)) := by
  refine fn0 F sc__law_of_class (fun ds R Ex ⟨h, _⟩ => by rw [h]; rfl) fun cdv A outer s H E hr => ⟨_, (pss_cons (ps_set (i := 2) sc__law_of_class.nd rfl (by first | exact .inl rfl | exact .inr rfl) (pe_lst (pa_cons (pe_callB (call_isXK (K := K)) (by rfl) B.bIsi (by decide +kernel) (pa_cons (pv 0) (pa_cons (pe_glob (v := .ref C_NoPart) rfl c_NoPart.g rfl) pa_nil))) (pa_cons (pe_callB (call_isXK (K := K)) (by rfl) B.bIsi (by decide +kernel) (pa_cons (pv 0) (pa_cons (pe_glob (v := .ref C_NoSpan) rfl c_NoSpan.g rfl) pa_nil))) (pa_cons (pe_callB (call_isXK (K := K)) (by rfl) B.bIsi (by decide +kernel) (pa_cons (pv 0) (pa_cons (pe_glob (v := .ref C_NoBox) rfl c_NoBox.g rfl) pa_nil))) (pa_cons (pe_callB (call_isXK (K := K)) (by rfl) B.bIsi (by decide +kernel) (pa_cons (pv 0) (pa_cons (pe_glob (v := .ref C_NoText) rfl c_NoText.g rfl) pa_nil))) pa_nil))))))
      (pss_cons (ps_set (i := 2) sc__law_of_class.nd rfl (by first | exact .inl rfl | exact .inr rfl) (pe_op op_addU (pv 2) (pe_lst (pa_cons (pe_callB (call_isXK (K := K)) (by rfl) B.bIsi (by decide +kernel) (pa_cons (pv 0) (pa_cons (pe_glob (v := .ref C_NoItem) rfl c_NoItem.g rfl) pa_nil))) (pa_cons (pe_callB (call_isXK (K := K)) (by rfl) B.bIsi (by decide +kernel) (pa_cons (pv 0) (pa_cons (pe_glob (v := .ref C_NoName) rfl c_NoName.g rfl) pa_nil))) (pa_cons (pe_callB (call_isXK (K := K)) (by rfl) B.bIsi (by decide +kernel) (pa_cons (pv 0) (pa_cons (pe_glob (v := .ref C_NoWish) rfl c_NoWish.g rfl) pa_nil))) (pa_cons (pe_callB (call_isXK (K := K)) (by rfl) B.bIsi (by decide +kernel) (pa_cons (pv 0) (pa_cons (pe_glob (v := .ref C_NoChange) rfl c_NoChange.g rfl) pa_nil))) pa_nil)))))))
      (pss_cons (ps_set (i := 2) sc__law_of_class.nd rfl (by first | exact .inl rfl | exact .inr rfl) (pe_op op_addU (pv 2) (pe_lst (pa_cons (pe_callB (call_isXK (K := K)) (by rfl) B.bIsi (by decide +kernel) (pa_cons (pv 0) (pa_cons (pe_glob (v := .ref C_NoRow) rfl c_NoRow.g rfl) pa_nil))) (pa_cons (pe_callB (call_isXK (K := K)) (by rfl) B.bIsi (by decide +kernel) (pa_cons (pv 0) (pa_cons (pe_glob (v := .ref C_TooMany) rfl c_TooMany.g rfl) pa_nil))) pa_nil)))))
      (pss_cons (ps_set (i := 3) sc__law_of_class.nd rfl (by first | exact .inl rfl | exact .inr rfl) (pe_lst (pa_cons pe_str (pa_cons pe_str (pa_cons pe_str (pa_cons pe_str (pa_cons pe_str (pa_cons pe_str (pa_cons pe_str (pa_cons pe_str (pa_cons pe_str (pa_cons pe_str pa_nil))))))))))))
      (pss_one (ps_ret (pe_and (pe_callB (call_isXK (K := K)) (by rfl) B.bIsi (by decide +kernel) (pa_cons (pv 0) (pa_cons (pe_bltn (v := .ty "ValueError") rfl B.bVE (by decide +kernel) rfl) pa_nil))) (pe_one (pe_cmpR (op_eqK (K := K) hr) (pe_lc (own := [("_law_one", 4)]) rfl sc__law_of_class.nd (pi_listK (K := K) (pv 3)) (blkOk_by (N := NM__law_of_class) (sc := defScope s__law_of_class) (by decide +kernel)) (fun _ _ _ _ _ => (pg_name (i := 4) sc__law_of_class.nd rfl (by first | exact .inl rfl | exact .inr rfl))) (fun _ _ _ _ _ => pts_nil) (fun _ _ _ _ _ => (pe_cmpR (op_eqK (K := K) hr) (pv 4) (pv 1) (nomark _)))) (pv 2) (nomark _)))))))))), fun ds R Ex ⟨hd, h⟩ => ?_⟩
  subst hd
  obtain ⟨e, ve, k0, k1, k2, k3, k4, k5, k6, k7, k8, k9⟩ := kx
  (try dsimp only [cxOf, Cx.nox, Cx.wish]); change tS K _ _ _ [.val (.exc C), .val (.str x), .emp, .emp, .emp] _
  repeat walk_at "y"
  refine e_lcM (fun d : D => match d with | .str y => .bl (decide (y = x)) | d => d) (ic_list ?_)
  repeat walk_at "y"
  refine ⟨fun d hd => ?_, ?_⟩
  · have q : ∃ y : Str, d = .str y := by
      simp only [List.mem_cons, List.not_mem_nil, or_false] at hd
      rcases hd with e | e | e | e | e | e | e | e | e | e <;> exact ⟨_, e⟩
    obtain ⟨y, rfl⟩ := q
    repeat walk_at "y"
    rfl
  · repeat walk_at "y"
    refine ⟨true, cmpd_same (by rfl) (Nat.le_of_ble_eq_true rfl), ?_⟩
    exact h
theorem ok_law_row (B : Bl mg) (F : Fun K "_law_row" "_law_row" s__law_row f fd) : FnOk P w K mg base CX0 1 f fd ["_law_script", "_law_many"] (spD K fs_law_row) := by
  refine fn0 F sc__law_row (fun ds R Ex ⟨a, b, h, _⟩ => by rw [h]; rfl) fun cdv A outer s H E hr => ⟨_, (pss_cons (ps_if (PW.pt (pw_and (pt_cmpR op_gt (pe_callB (call_lenK (K := K)) (by rfl) B.bLen (by decide +kernel) (pa_cons (pv 0) pa_nil)) pe_int (nomark _)) (pw_and1 (pt_cmpR (op_eqK (K := K) hr) (pe_op op_mod (pe_ix (ix_K (K := K)) (pv 0) pe_int (fun _ _ => rfl)) pe_int) pe_int (nomark _))))) (pss_one (ps_ret (pe_op op_addU (pe_lc (own := [("_law_cell", 2)]) rfl sc__law_row.nd (pi_listK (K := K) (pv 0)) (blkOk_by (N := NM__law_row) (sc := defScope s__law_row) (by decide +kernel)) (fun _ _ _ _ _ => (pg_name (i := 2) sc__law_row.nd rfl (by first | exact .inl rfl | exact .inr rfl))) (fun _ _ _ _ _ => pts_nil) (fun _ _ _ _ _ => (pe_op op_mod (pe_op op_fdivX (pv 2) pe_int) (pe_op op_pow pe_int pe_int)))) (pe_op op_mulU (pe_lst (pa_cons pe_int pa_nil)) (pv 1))))) pss_nil)
      (pss_cons (ps_set (i := 3) sc__law_row.nd rfl (by first | exact .inl rfl | exact .inr rfl) (pe_lst pa_nil))
      (pss_cons (ps_set (i := 4) sc__law_row.nd rfl (by first | exact .inl rfl | exact .inr rfl) pe_int)
      (pss_cons (ps_for PassesOwn.never rfl (pi_range1 (by rfl) B.bRange (pa_cons (pe_callB (call_max2 rfl) (by rfl) B.bMax (by decide +kernel) (pa_cons (pv 1) (pa_cons (pe_op op_addU (pe_callB (call_lenK (K := K)) (by rfl) B.bLen (by decide +kernel) (pa_cons (pv 0) pa_nil)) (pv 1)) pa_nil))) pa_nil)) (pg_name (i := 5) sc__law_row.nd rfl (by first | exact .inl rfl | exact .inr rfl))
      (pss_cons (ps_set (i := 2) sc__law_row.nd rfl (by first | exact .inl rfl | exact .inr rfl) pe_int)
      (pss_cons (ps_if (pt_cmpR op_gt (pe_callB (call_lenK (K := K)) (by rfl) B.bLen (by decide +kernel) (pa_cons (pv 0) pa_nil)) pe_int (nomark _)) (pss_one (ps_set (i := 2) sc__law_row.nd rfl (by first | exact .inl rfl | exact .inr rfl) (pe_ix (ix_K (K := K)) (pv 0) (pe_op op_mod (pv 5) (pe_callB (call_lenK (K := K)) (by rfl) B.bLen (by decide +kernel) (pa_cons (pv 0) pa_nil))) (fun _ _ => rfl)))) pss_nil)
      (pss_cons (ps_set (i := 4) sc__law_row.nd rfl (by first | exact .inl rfl | exact .inr rfl) (pe_op op_mod (pe_op op_addU (pe_op op_addU (pe_op op_mulU (pv 4) pe_int) (pv 2)) (pv 5)) pe_int))
      (pss_one (ps_expr (pe_bm PySem.F.plainAttrs_list PySem.F.slot_list_append PySem.F.type_list_append mt_append (pv 3) (pa_cons (pe_op op_mod (pe_op op_addU (pe_op op_mulU (pv 4) (pv 4)) (pe_op op_mulU pe_int (pv 4))) pe_int) pa_nil))))))))
      (pss_one (ps_ret (pv 3))))))), fun ds R Ex ⟨ns, m, hd, hn, hm, h⟩ => ?_⟩
  subst hd
  (try dsimp only [cxOf, Cx.nox, Cx.wish]); change tS K _ _ _ [.val (.fz (ns.map D.int)), .val (.int m), .emp, .emp, .emp, .emp] _
  refine s_seqJ (fun ρ' => ρ' = [.val (.fz (ns.map D.int)), .val (.int m), .emp, .emp, .emp, .emp]) ?_ fun ρ' hρ => ?_
  · repeat walk_at "y"
    refine ⟨fun hl => ?_, fun _ => ?_⟩
    · obtain ⟨n0, nr, rfl⟩ : ∃ n0 nr, ns = n0 :: nr := by
        cases ns with
        | nil => simp at hl
        | cons x r => exact ⟨x, r, rfl⟩
      repeat walk_at "y"
      refine ⟨0, .int n0, rfl, atI_nat (j := 0) rfl, ?_⟩
      repeat walk_at "y"
      refine br2 (fun he => ?_) fun he => ?_
      · repeat walk_at "y"
        refine e_lcM (fun d : D => match d with | .int c => .int (c.fdiv 2 % 10 ^ 40) | d => d) (ic_list ?_)
        repeat walk_at "y"
        refine ⟨by rw [List.length_map]; exact small_len' (Nat.le_trans hn (by decide)), fun d hd => ?_, ?_⟩
        · obtain ⟨c, _, rfl⟩ := List.mem_map.mp hd
          repeat walk_at "y"
          rfl
        · repeat walk_at "y"
          refine mul_rep (by omega) ?_
          refine add_lst (small_len' (by rw [List.length_map, List.length_map, List.length_replicate]; omega)) ?_
          have e : List.map (fun d : D => match d with | .int c => D.int (c.fdiv 2 % 10 ^ 40) | d => d) (List.map D.int (n0 :: nr)) ++ List.replicate m (D.int 0) = ((n0 :: nr).map (fun c : Int => c.fdiv 2 % 10 ^ 40) ++ List.replicate m 0).map D.int := by
            rw [List.map_append, List.map_map, List.map_map, List.map_replicate]
            rfl
          have h' := h ((n0 :: nr).map (fun c : Int => c.fdiv 2 % 10 ^ 40) ++ List.replicate m 0) (by rw [List.length_append, List.length_map, List.length_replicate]) (fun x hx => by
            rcases List.mem_append.mp hx with hx | hx
            · obtain ⟨c, _, rfl⟩ := List.mem_map.mp hx
              exact ⟨Int.emod_nonneg _ (by decide), Int.emod_lt_of_pos _ (by decide)⟩
            · rw [(List.mem_replicate.mp hx).2]
              decide)
          rw [← e] at h'
          exact h'
      · repeat walk_at "y"
        rfl
    · repeat walk_at "y"
      rfl
  · subst hρ
    repeat walk_at "y"
    refine s_for (i_range1 ?_)
    repeat walk_at "y"
    have hmx : (max (m : Int) (((ns.map D.int).length : Nat) + (m : Int))).toNat = ns.length + m := by
      rw [List.length_map]
      omega
    rw [hmx]
    refine ⟨by rw [List.length_map]; omega, by rw [List.length_map]; omega, ?_⟩
    refine ⟨fun i ρ => ∃ (rows : List Int) (more : Int) (s2 s5 : Slot), ρ = [.val (.fz (ns.map D.int)), .val (.int m), s2, .own (rows.map D.int), .val (.int more), s5] ∧ rows.length = i ∧ (0 ≤ more ∧ more < 2147483647) ∧ ∀ x ∈ rows, 0 ≤ x ∧ x < 10 ^ 40,
      ⟨[], 7, .emp, .emp, rfl, rfl, ⟨by decide, by decide⟩, fun x hx => by cases hx⟩, ?_, ?_⟩
    · rintro i d ρ' hd ⟨rows, more, s2, s5, rfl, hl, ⟨q0, q1⟩, hx⟩
      obtain ⟨hi, rfl⟩ := rangeD_get hd
      have sq : Sm 64 more := by unfold Sm; omega
      repeat ((fail_if_success (with_reducible show tS _ _ _ (tSeq (tIfS _ _ _) _) _ _)); walk_at "y")
      refine s_seqJ (fun ρ' => ∃ c : Int, ρ' = [.val (.fz (ns.map D.int)), .val (.int m), .val (.int c), .own (rows.map D.int), .val (.int more), .val (.int (0 + (i : Int)))]) ?_ ?_
      · repeat walk_at "y"
        refine ⟨fun hp => ?_, fun _ => ?_⟩
        · have hlen : 0 < ns.length := by
            have z := of_decide_eq_true hp
            rw [List.length_map] at z
            omega
          repeat walk_at "y"
          have z0 := Int.emod_nonneg (0 + (i : Int)) (show (((ns.map D.int).length : Nat) : Int) ≠ 0 by rw [List.length_map]; omega)
          have z1 := Int.emod_lt_of_pos (0 + (i : Int)) (show (0 : Int) < (((ns.map D.int).length : Nat) : Int) by rw [List.length_map]; omega)
          obtain ⟨d, hm1, hx1⟩ := ixd_any z0 z1
          obtain ⟨c, _, rfl⟩ := List.mem_map.mp hm1
          refine ⟨_, _, rfl, hx1, ?_⟩
          repeat walk_at "y"
          exact ⟨c, rfl⟩
        · repeat walk_at "y"
          exact ⟨0, rfl⟩
      · rintro ρ2 ⟨c, rfl⟩
        repeat walk_at "y"
        obtain ⟨q, hq⟩ : ∃ q : Int, (more * 48271 + c + (0 + (i : Int))) % 2147483647 = q := ⟨_, rfl⟩
        have z0 := Int.emod_nonneg (more * 48271 + c + (0 + (i : Int))) (show (2147483647 : Int) ≠ 0 by decide)
        have z1 := Int.emod_lt_of_pos (more * 48271 + c + (0 + (i : Int))) (show (0 : Int) < 2147483647 by decide)
        rw [hq] at z0 z1 ⊢
        have sq' : Sm 64 q := by unfold Sm; omega
        repeat walk_at "y"
        refine ⟨small_lt (by rw [List.length_map]; omega), ?_⟩
        repeat walk_at "y"
        have y0 := Int.emod_nonneg (q * q + 16807 * q) (show (2147483629 : Int) ≠ 0 by decide)
        have y1 := Int.emod_lt_of_pos (q * q + 16807 * q) (show (0 : Int) < 2147483629 by decide)
        refine ⟨rows ++ [(q * q + 16807 * q) % 2147483629], q, .val (.int c), .val (.int (0 + (i : Int))), by rw [List.map_append]; rfl, by rw [List.length_append, hl]; rfl, ⟨z0, z1⟩, fun x hx' => ?_⟩
        rcases List.mem_append.mp hx' with hx' | hx'
        · exact hx x hx'
        · rw [List.mem_singleton.mp hx']
          exact ⟨y0, by omega⟩
    · rintro ρ' ⟨rows, more, s2, s5, rfl, hl, hq, hx⟩
      repeat walk_at "y"
      rw [rangeD_len] at hl
      exact h rows hl hx
end
end K02
end

section
set_option maxHeartbeats 4000000
namespace Tx
open PySem PySem.Spec PyProof.Rows L2 Y TL
/-! ### numbers and parts as texts -/
/-- a number in figures, without noughts ahead -/
def figs (l : List Nat) : Bool := (decide (l ≠ []) && l.all fun c => decide (48 ≤ c) && decide (c ≤ 57)) && (decide (l = [48]) || !decide (l.head? = some 48))
def sgn (a : Int) : List Nat := if a < 0 then [45] else []
/-- a part as it is written -/
def ptL (a b : Int) : List Nat := sgn a ++ numL a.natAbs ++ (if b = 1 then [] else 47 :: numL b.toNat)
def Lowest (a b : Int) : Prop := 0 < b ∧ Nat.gcd a.natAbs b.natAbs = 1
theorem figs_dig {l : List Nat} (h : figs l = true) : NumText.AllDigits l ∧ l ≠ [] := by
  unfold figs at h
  rw [Bool.and_eq_true, Bool.and_eq_true] at h
  refine ⟨fun c hc => ?_, of_decide_eq_true h.1.1⟩
  have z := List.all_eq_true.mp h.1.2 c hc
  rw [Bool.and_eq_true] at z
  exact ⟨of_decide_eq_true z.1, of_decide_eq_true z.2⟩
theorem num_head : ∀ n : Nat, n ≠ 0 → (numL n).head? ≠ some 48 := fun n => by
  induction n using Nat.strongRecOn with
  | _ n ih =>
    intro h
    by_cases c : n < 10
    · rw [numL_lt c]
      intro z
      have : 48 + n = 48 := Option.some.inj z
      omega
    · rw [numL_step (by omega)]
      have e := ih (n / 10) (by omega) (by omega)
      have ne := numL_ne (n / 10)
      cases q : numL (n / 10) with
      | nil => exact absurd q ne
      | cons x r =>
        rw [q] at e
        exact e
theorem figs_num (n : Nat) : figs (numL n) = true := by
  unfold figs
  rw [Bool.and_eq_true, Bool.and_eq_true]
  refine ⟨⟨decide_eq_true (numL_ne n), List.all_eq_true.mpr fun c hc => ?_⟩, ?_⟩
  · have z := numL_digits n c hc
    rw [decide_eq_true z.1, decide_eq_true z.2]
    rfl
  · by_cases h : n = 0
    · subst h
      rw [show numL 0 = [48] from numL_lt (by decide)]
      rfl
    · rw [decide_eq_false (num_head n h)]
      rw [Bool.or_comm]
      rfl
theorem val_lt : ∀ l : List Nat, NumText.AllDigits l → NumText.digitsVal l < 10 ^ l.length := by
  have key : ∀ (l : List Nat) (a : Nat), NumText.AllDigits l → l.foldl (fun acc c => acc * 10 + (c - 48)) a < (a + 1) * 10 ^ l.length := by
    intro l
    induction l with
    | nil =>
      intro a _
      show a < (a + 1) * 10 ^ 0
      omega
    | cons c r ih =>
      intro a h
      have hc := h.head
      have z := ih (a * 10 + (c - 48)) h.tail
      show r.foldl _ (a * 10 + (c - 48)) < (a + 1) * 10 ^ (r.length + 1)
      refine Nat.lt_of_lt_of_le z ?_
      rw [Nat.pow_succ, ← Nat.mul_assoc, Nat.mul_comm ((a + 1) * 10 ^ r.length) 10, ← Nat.mul_assoc]
      exact Nat.mul_le_mul_right _ (by omega)
  intro l h
  have z := key l 0 h
  rw [Nat.zero_add, Nat.one_mul] at z
  exact z
theorem tl_int (a : Int) : tl (Str.ofString (toString a)) = sgn a ++ numL a.natAbs := by
  unfold sgn
  cases a with
  | ofNat n =>
    have h : ¬ (Int.ofNat n < 0) := Int.not_lt.mpr (Int.natCast_nonneg n)
    rw [if_neg h]
    exact tl_num n
  | negSucc n =>
    rw [if_pos (Int.negSucc_lt_zero n), tl_ofString]
    have e : (toString (Int.negSucc n)).toList = '-' :: (toString ((n + 1 : Nat) : Int)).toList := by
      show ("-" ++ Nat.repr (n + 1)).toList = '-' :: (Nat.repr (n + 1)).toList
      rw [String.toList_append]
      rfl
    rw [e, List.map_cons, ← tl_ofString, tl_num]
    rfl
theorem num_free (n : Nat) : 47 ∉ numL n := numL_free (.inl (by decide))
theorem sgn_free (a : Int) : 47 ∉ sgn a := by
  unfold sgn
  split <;> simp
theorem top_free (a : Int) : 47 ∉ sgn a ++ numL a.natAbs := fun h => (List.mem_append.mp h).elim (sgn_free a) (num_free _)
theorem par_pt (a b : Int) : par [47] [] (ptL a b) = if b = 1 then none else some (sgn a ++ numL a.natAbs, numL b.toNat) := by
  unfold ptL
  by_cases h : b = 1
  · rw [if_pos h, if_pos h, List.append_nil]
    exact par_none1 (top_free a)
  · rw [if_neg h, if_neg h]
    exact par_part1 (top_free a)
theorem spl_pt (a b : Int) : spl [47] 0 [] (ptL a b) = if b = 1 then [sgn a ++ numL a.natAbs] else [sgn a ++ numL a.natAbs, numL b.toNat] := by
  unfold ptL
  by_cases h : b = 1
  · rw [if_pos h, if_pos h, List.append_nil]
    exact spl_last1 (top_free a)
  · rw [if_neg h, if_neg h]
    have e := spl_part1 (s := 47) (S := []) (rest := numL b.toNat) (acc := []) (top_free a)
    rw [show (sgn a ++ numL a.natAbs ++ ([47] ++ numL b.toNat)) = sgn a ++ numL a.natAbs ++ (47 :: numL b.toNat) from rfl] at e
    rw [e, spl_last1 (num_free _)]
    rfl
theorem num_head45 (n : Nat) : ∃ c r, numL n = c :: r ∧ c ≠ 45 := by
  cases q : numL n with
  | nil => exact absurd q (numL_ne n)
  | cons c r =>
    refine ⟨c, r, rfl, fun z => ?_⟩
    have d := numL_digits n c (by rw [q]; exact List.mem_cons_self)
    omega
/-- without the sign ahead -/
def noSign : List Nat → List Nat
  | 45 :: r => r
  | l => l
theorem noSign_top (a : Int) : noSign (sgn a ++ numL a.natAbs) = numL a.natAbs := by
  unfold sgn
  by_cases h : a < 0
  · rw [if_pos h]
    rfl
  · rw [if_neg h]
    obtain ⟨c, r, e, n⟩ := num_head45 a.natAbs
    rw [List.nil_append, e]
    unfold noSign
    split
    · rename_i x y z
      exact absurd (List.cons.inj z).1 n
    · rfl
theorem pt_len {a b : Int} {k : Nat} (ha : a.natAbs < 10 ^ k) (hb : b.toNat < 10 ^ k) (hk : 0 < k) : (ptL a b).length ≤ 2 * k + 2 := by
  have h1 := numL_len hk ha
  have h2 := numL_len hk hb
  unfold ptL sgn
  rw [List.length_append, List.length_append]
  split <;> split <;> simp only [List.length_cons, List.length_nil] <;> omega
end Tx
end

section
set_option maxHeartbeats 4000000
namespace Tx
open PySem PySem.Spec PyProof.Rows L2 Y TL Wd
abbrev Big (a b : Int) : Prop := 0 < b ∧ a.natAbs < 10 ^ 60 ∧ b.toNat < 10 ^ 60
abbrev fs_is_number : FSpec := fun ds R _ => ∃ z : Str, ds = [.str z] ∧ z.length ≤ 1000 ∧ R (.val (.bl (figs (tl z))))
abbrev fs_number_of : FSpec := fun ds R _ => ∃ z : Str, ds = [.str z] ∧ z.length < 60 ∧ figs (tl z) = true ∧ R (.val (.int ((NumText.digitsVal (tl z) : Nat) : Int)))
abbrev fs_figures_of : FSpec := fun ds R _ => ∃ n : Nat, ds = [.int (n : Int)] ∧ n < 10 ^ 60 ∧ R (.val (.str (Str.ofString (toString (n : Int)))))
abbrev fs_part_text : FSpec := fun ds R _ => ∃ a b : Int, ds = [pt a b] ∧ Big a b ∧ ∀ y : Str, tl y = ptL a b → R (.val (.str y))
abbrev fs_read_part (C : Addr) : FSpec := fun ds R Ex => ∃ z : Str, ds = [.str z] ∧ z.length ≤ 55 ∧
  ((∃ a b : Int, Lowest a b ∧ tl z = ptL a b ∧ R (.val (pt a b))) ∨ ((¬ ∃ a b : Int, Lowest a b ∧ tl z = ptL a b) ∧ Ex (.ref C)))
abbrev fs_law_drawn : FSpec := fun ds R _ => ∃ a b : Int, ds = [.int a, .int b] ∧ Cell a ∧ Cell b ∧ ∀ n : Int, n.natAbs < 10 ^ 20 → R (.val (.int n))
abbrev fs_law_text : FSpec := fun ds R _ => ∃ a b : Int, ds = [pt a b] ∧ Big a b ∧ ∀ y : Str, tl y = ptL a b → R (.val (.str y))
abbrev fs_law_figures : FSpec := fun ds R _ => ∃ z : Str, ds = [.str z] ∧ z.length ≤ 1000 ∧ R (.val (.bl (figs (tl z))))
abbrev fs_law_due : FSpec := fun ds R _ => ∃ z : Str, ds = [.str z] ∧ z.length ≤ 55 ∧
  ((∃ a b : Int, Lowest a b ∧ tl z = ptL a b ∧ R (.val (pt a b))) ∨ ((¬ ∃ a b : Int, Lowest a b ∧ tl z = ptL a b) ∧ R (.val .non)))
abbrev fs_law_read : FSpec := fs_law_due
abbrev fs_law_other : FSpec := fun ds R _ => ∃ (z : Str) (a b n : Int), ds = [.str z, pt a b, .int n] ∧ z.length ≤ 45 ∧ (0 < b ∧ a.natAbs < 10 ^ 22 ∧ b.toNat < 10 ^ 22) ∧ 0 ≤ n ∧ ∀ y : Str, y.length ≤ 55 → R (.val (.str y))
abbrev fs_law : FSpec := fun ds R _ => ∃ ns : List Int, ds = [.fz (ns.map D.int)] ∧ ns.length ≤ 63 ∧ R (.val (.bl true))
theorem digit_ascii : ∀ c : Nat, c < 128 → Unicode.isDigit c = (decide (48 ≤ c) && decide (c ≤ 57)) := by decide +kernel
theorem num_test (z : Str) : (Txt.isascii z && Txt.isdigit z) = (decide (tl z ≠ []) && (tl z).all fun c => decide (48 ≤ c) && decide (c ≤ 57)) := by
  have e1 : Txt.isascii z = (tl z).all fun c => decide (c < 128) := by
    unfold Txt.isascii
    rw [← Array.all_toList]
  have e2 : Txt.isdigit z = (decide (tl z ≠ []) && (tl z).all fun c => Unicode.isDigit c) := by
    unfold Txt.isdigit
    rw [← Array.all_toList, len_tl]
    congr 1
    cases tl z with
    | nil => rfl
    | cons c r => rfl
  have key : ∀ l : List Nat, ((l.all fun c => decide (c < 128)) && l.all fun c => Unicode.isDigit c) = l.all fun c => decide (48 ≤ c) && decide (c ≤ 57) := by
    intro l
    induction l with
    | nil => rfl
    | cons c r ih =>
      rw [List.all_cons, List.all_cons, List.all_cons, ← ih]
      by_cases h : c < 128
      · rw [decide_eq_true h, digit_ascii c h]
        cases (decide (48 ≤ c) && decide (c ≤ 57)) <;> cases (r.all fun c => decide (c < 128)) <;> rfl
      · rw [decide_eq_false h, decide_eq_false (show ¬ c ≤ 57 by omega)]
        cases decide (48 ≤ c) <;> rfl
  rw [e1, e2, ← key]
  cases decide (tl z ≠ []) <;> cases ((tl z).all fun c => decide (c < 128)) <;> rfl
theorem starts0 (z : Str) (h : tl z ≠ []) : Txt.startswith z "0" = decide ((tl z).head? = some 48) := by
  have k := at_iff (x := z) (y := "0") (by decide) 0
  rw [List.drop_zero] at k
  have e : Txt.startswith z "0" = true ↔ PySem.StrLaws.At z "0" z.length 0 := by
    unfold Txt.startswith PySem.StrLaws.At
    rw [Bool.and_eq_true, decide_eq_true_iff]
  rw [Bool.eq_iff_iff, e, k, decide_eq_true_iff]
  cases q : tl z with
  | nil => exact absurd q h
  | cons c r =>
    show (([c] : List Nat) == [48]) = true ↔ some c = some 48
    rw [beq_iff_eq]
    exact ⟨fun z => by rw [(List.cons.inj z).1], fun z => by rw [Option.some.inj z]⟩
theorem is_zero (z : Str) : decide (z = "0") = decide (tl z = [48]) := decide_eq_decide.mpr ⟨fun h => by rw [h]; rfl, fun h => ext_tl (by rw [h]; rfl)⟩
theorem par_len : ∀ (l acc x y : List Nat), par [47] acc l = some (x, y) → x.length + y.length + 1 ≤ acc.length + l.length := fun l => by
  induction l with
  | nil =>
    intro acc x y h
    cases h
  | cons c r ih =>
    intro acc x y h
    by_cases p : pre [47] (c :: r) = true
    · rw [par_hit p] at h
      have e := Option.some.inj h
      have e1 : acc = x := congrArg Prod.fst e
      have e2 : (c :: r).drop 1 = y := congrArg Prod.snd e
      rw [← e1, ← e2]
      simp only [List.drop_succ_cons, List.drop_zero, List.length_cons]
      omega
    · have p' : pre [47] (c :: r) = false := by simpa using p
      rw [par_miss p'] at h
      have z := ih _ _ _ h
      rw [List.length_append] at z
      simp only [List.length_cons, List.length_nil] at z ⊢
      omega
/-- what partition gives -/
theorem part_z (z : Str) : ∃ t s b : Str, Txt.partition z "/" = (t, s, b) ∧ t.length ≤ z.length ∧ b.length ≤ z.length ∧ ((tl s = [] ∧ par [47] [] (tl z) = none ∧ t = z) ∨ (tl s = [47] ∧ par [47] [] (tl z) = some (tl t, tl b))) := by
  have e := partition_par z "/" (by decide)
  have e47 : tl (Str.ofString "/") = [47] := rfl
  rw [e47] at e
  cases h : par [47] [] (tl z) with
  | none =>
    rw [h] at e
    exact ⟨z, Str.empty, Str.empty, e, Nat.le_refl _, Nat.zero_le _, .inl ⟨rfl, rfl, rfl⟩⟩
  | some p =>
    obtain ⟨x, y⟩ := p
    rw [h] at e
    have l := par_len _ _ _ _ h
    have lz := len_tl z
    refine ⟨⟨x.toArray⟩, "/", ⟨y.toArray⟩, e, ?_, ?_, .inr ⟨rfl, rfl⟩⟩
    · rw [len_tl, tl_mk]
      simp only [List.length_nil] at l
      omega
    · rw [len_tl, tl_mk]
      simp only [List.length_nil] at l
      omega
theorem sub_sign (t : Str) : Builtin.Str.subAt t "-" 0 = decide ((tl t).take 1 = [45]) := by
  have e : (tl t).take 1 = (t.cps.extract 0 (0 + (Str.ofString "-").length)).toList := by
    rw [Array.toList_extract]
    rfl
  unfold Builtin.Str.subAt
  rw [Bool.eq_iff_iff, beq_iff_eq, decide_eq_true_iff, e]
  exact ⟨fun h => by rw [h]; rfl, fun h => Array.toList_inj.mp h⟩
theorem rem_sign (t : Str) : tl (Txt.removeprefix t "-") = noSign (tl t) := by
  have lt := len_tl t
  unfold Txt.removeprefix
  rw [sub_sign]
  cases q : tl t with
  | nil =>
    rw [if_neg (by decide)]
    exact q
  | cons c r =>
    rw [q] at lt
    by_cases h : c = 45
    · subst h
      rw [if_pos (by rfl)]
      unfold Txt.affix
      have n : ¬ ((t.length - (Str.ofString "-").length == t.length) = true) := by
        rw [beq_iff_eq]
        show ¬ t.length - 1 = t.length
        simp only [List.length_cons] at lt
        omega
      show tl (if (t.length - (Str.ofString "-").length == t.length) = true then t else _) = _
      rw [if_neg n]
      show tl (Builtin.Str.strSub t 1 t.length) = r
      rw [tl_strSub_end, q]
      rfl
    · have n : ¬ (decide ((c :: r).take 1 = [45]) = true) := by
        rw [decide_eq_true_iff]
        exact fun z => h (List.cons.inj z).1
      rw [if_neg n]
      show tl t = _
      rw [q]
      unfold noSign
      split
      · rename_i x y z
        exact absurd (List.cons.inj z).1 h
      · rfl
theorem spl_len : ∀ (l acc : List Nat), ∀ p ∈ spl [47] 0 acc l, p.length ≤ acc.length + l.length := fun l => by
  induction l with
  | nil =>
    intro acc p h
    rw [spl_nil, List.mem_singleton] at h
    rw [h]
    exact Nat.le_add_right _ _
  | cons c r ih =>
    intro acc p h
    by_cases q : pre [47] (c :: r) = true
    · rw [spl_hit q] at h
      rcases List.mem_cons.mp h with e | e
      · rw [e]
        exact Nat.le_add_right _ _
      · have z := ih [] p e
        simp only [List.length_nil, List.length_cons] at z ⊢
        omega
    · have q' : pre [47] (c :: r) = false := by simpa using q
      rw [spl_miss q'] at h
      have z := ih _ p h
      rw [List.length_append] at z
      simp only [List.length_nil, List.length_cons] at z ⊢
      omega
theorem spl_many : ∀ (l acc : List Nat), 1 ≤ (spl [47] 0 acc l).length ∧ (spl [47] 0 acc l).length ≤ l.length + 1 := fun l => by
  induction l with
  | nil =>
    intro acc
    rw [spl_nil]
    exact ⟨Nat.le_refl _, Nat.le_refl _⟩
  | cons c r ih =>
    intro acc
    by_cases q : pre [47] (c :: r) = true
    · rw [spl_hit q]
      have z := ih []
      simp only [List.length_cons, List.length_nil] at z ⊢
      show 1 ≤ (spl [47] 0 [] r).length + 1 ∧ (spl [47] 0 [] r).length + 1 ≤ r.length + 1 + 1
      omega
    · have q' : pre [47] (c :: r) = false := by simpa using q
      rw [spl_miss q']
      have z := ih (acc ++ [c])
      simp only [List.length_cons] at z ⊢
      omega
theorem split_z (z : Str) : ∃ p0 ps, Txt.split z "/" = p0 :: ps ∧ ((p0 :: ps).map tl = spl [47] 0 [] (tl z)) ∧ (∀ p ∈ p0 :: ps, p.length ≤ z.length) ∧ ps.length ≤ z.length := by
  have e := split_spl z "/" (by decide) (kind_ok (by decide +kernel))
  have e47 : tl (Str.ofString "/") = [47] := rfl
  rw [e47] at e
  have m := spl_many (tl z) []
  have ll := congrArg List.length e
  rw [List.length_map] at ll
  cases q : Txt.split z "/" with
  | nil =>
    rw [q] at ll
    simp only [List.length_nil] at ll
    omega
  | cons p0 ps =>
    rw [q] at e ll
    refine ⟨p0, ps, rfl, e, fun p hp => ?_, ?_⟩
    · have z2 := spl_len (tl z) [] (tl p) (by rw [← e]; exact List.mem_map_of_mem hp)
      rw [← len_tl, ← len_tl] at z2
      simp only [List.length_nil] at z2
      omega
    · have lz := len_tl z
      simp only [List.length_cons] at ll
      omega
/-- a signed number in figures is read -/
theorem int_top {p : Str} (h : figs (noSign (tl p)) = true) (hl : p.length ≤ 640) : ∃ n : Int, intText? p = some n ∧ n.natAbs = NumText.digitsVal (noSign (tl p)) ∧ ∀ a : Int, tl p = sgn a ++ numL a.natAbs → n = a := by
  have d := figs_dig h
  cases q : tl p with
  | nil =>
    rw [q] at d
    exact absurd rfl d.2
  | cons c r =>
    by_cases e : c = 45
    · subst e
      rw [q] at d
      refine ⟨_, intText_neg q d.1 d.2 (by omega), ?_, fun a ea => ?_⟩
      · show (-((NumText.digitsVal r : Nat) : Int)).natAbs = NumText.digitsVal r
        omega
      · unfold sgn at ea
        by_cases a0 : a < 0
        · rw [if_pos a0] at ea
          have er : r = numL a.natAbs := (List.cons.inj ea).2
          rw [er, numL_val]
          omega
        · rw [if_neg a0] at ea
          obtain ⟨c, r', e1, e2⟩ := num_head45 a.natAbs
          rw [List.nil_append, e1] at ea
          exact absurd (List.cons.inj ea).1.symm e2
    · have ns : noSign (c :: r) = c :: r := by
        unfold noSign
        split
        · rename_i x y z
          exact absurd (List.cons.inj z).1 e
        · rfl
      rw [q, ns] at d
      refine ⟨_, intText_digits (by rw [show p.cps.toList = c :: r from q]; exact d.1) (by rw [show p.cps.toList = c :: r from q]; exact d.2) (by omega), ?_, fun a ea => ?_⟩
      · rw [ns, show p.cps.toList = c :: r from q]
        omega
      · rw [show p.cps.toList = c :: r from q]
        unfold sgn at ea
        by_cases a0 : a < 0
        · rw [if_pos a0] at ea
          exact absurd (List.cons.inj ea).1 e
        · rw [if_neg a0, List.nil_append] at ea
          rw [ea, numL_val]
          omega
theorem tl_cut_lo (z : Str) (k : Nat) : tl (cutS z none (some (k : Int))) = (tl z).take k := by
  show ((tl z).drop (HT.sIx z.length 0 none)).take (HT.sIx z.length z.length (some (k : Int)) - HT.sIx z.length 0 none) = _
  rw [HT.sIx_none, HT.sIx_nat, List.drop_zero, Nat.sub_zero, len_tl]
  by_cases h : k ≤ (tl z).length
  · rw [Nat.min_eq_left h]
  · rw [Nat.min_eq_right (by omega), List.take_of_length_le (Nat.le_refl _), List.take_of_length_le (by omega)]
theorem tl_cut_hi (z : Str) (k : Nat) : tl (cutS z (some (k : Int)) none) = (tl z).drop k := by
  show ((tl z).drop (HT.sIx z.length 0 (some (k : Int)))).take (HT.sIx z.length z.length none - HT.sIx z.length 0 (some (k : Int))) = _
  rw [HT.sIx_none, HT.sIx_nat, len_tl]
  by_cases h : k ≤ (tl z).length
  · rw [Nat.min_eq_left h, List.take_of_length_le (by rw [List.length_drop]; omega)]
  · rw [Nat.min_eq_right (by omega), Nat.sub_self, List.take_zero, List.drop_eq_nil_of_le (by omega)]
theorem cut_lens (z : Str) (k : Nat) : (cutS z none (some (k : Int))).length = min k z.length ∧ (cutS z (some (k : Int)) none).length = z.length - k := by
  have a := congrArg List.length (tl_cut_lo z k)
  have b := congrArg List.length (tl_cut_hi z k)
  rw [← len_tl, List.length_take, ← len_tl] at a
  rw [← len_tl, List.length_drop, ← len_tl] at b
  exact ⟨a, b⟩
end Tx
end

section
set_option maxHeartbeats 4000000
open PySem PySem.Spec PyProof.Rows L2 Y
local macro_rules | `(tactic| walk_at "yE") => `(tactic| first
  | ((with_reducible show tE _ _ _ (tOp _ _ _) _ _); first
    | (with_reducible refine e_ix ?_)
    | (with_reducible refine e_ixS ?_)
    | (with_reducible refine e_notInS ?_)
    | (with_reducible refine e_add ?_)
    | (with_reducible refine e_catA ?_)
    | (with_reducible refine e_sub ?_)
    | (with_reducible refine e_mul ?_)
    | (with_reducible refine e_mod ?_)
    | (with_reducible refine e_fdiv ?_)
    | (with_reducible refine e_pow ?_)
    | (with_reducible refine e_shr ?_)
    | (with_reducible refine e_band ?_)
    | (with_reducible refine e_lt ?_)
    | (with_reducible refine e_le ?_)
    | (with_reducible refine e_gt ?_)
    | (with_reducible refine e_ge ?_)
    | (with_reducible refine e_eq ?_)
    | (with_reducible refine e_ne ?_)
    | (with_reducible refine e_isN ?_)
    | (with_reducible refine e_notN ?_)
    | (with_reducible refine e_isB ?_)
    | (with_reducible refine e_isntB ?_))
  | ((with_reducible show tE _ _ _ (tCB _ _) _ _); first
    | (with_reducible refine e_len ?_)
    | (with_reducible refine e_isX (by with_unfolding_all exact fun _ h => h) ?_)
    | (with_reducible refine e_isInt ?_)
    | (with_reducible refine e_isBool ?_)
    | (with_reducible refine e_isTup ?_)
    | (with_reducible refine e_isStr ?_)
    | (with_reducible refine e_isList ?_)
    | (with_reducible refine e_gcd ?_)
    | (with_reducible refine e_abs ?_)
    | (with_reducible refine e_max2 ?_)
    | (with_reducible refine e_intS ?_)
    | (with_reducible refine e_intB ?_)
    | (with_reducible refine e_strI ?_)
    | (with_reducible refine e_list ?_)
    | (with_reducible refine e_repr ?_)
    | (with_reducible refine e_tupL ?_)
    | (with_reducible refine e_all ?_))
  | (with_reducible refine e_val (by with_unfolding_all rfl) ?_)
  | (with_reducible refine e_own (by with_unfolding_all rfl) ?_)
  | (with_reducible refine e_int ?_)
  | (with_reducible refine e_bl ?_)
  | (with_reducible refine e_non ?_)
  | (with_reducible refine e_str ?_)
  | (with_reducible refine e_neg ?_)
  | (with_reducible refine e_and ?_)
  | (with_reducible refine e_or ?_)
  | (with_reducible refine e_not ?_)
  | (with_reducible refine e_if ?_)
  | (with_reducible refine e_chainI ?_)
  | (with_reducible refine e_tup ?_)
  | (with_reducible refine e_lst ?_)
  | (with_reducible refine e_dk0 ?_)
  | (with_reducible refine e_sl ?_)
  | (with_reducible refine e_orT ?_)
  | (with_reducible refine e_m0b ?_)
  | (with_reducible refine e_m1b ?_)
  | (with_reducible refine e_m1s ?_)
  | (with_reducible refine e_zfill ?_)
  | (with_reducible refine e_partition ?_)
  | (with_reducible refine e_split ?_)
  | (with_reducible refine e_joinRev ?_)
  | (with_reducible refine e_joined ?_)
  | (with_reducible refine e_fmt ?_)
  | (with_reducible refine e_revL ?_))
local macro_rules | `(tactic| walk_at "yS") => `(tactic| first
  | (with_reducible refine s_seq ?_)
  | (with_reducible refine s_if ?_)
  | (with_reducible refine s_retOwn (by with_unfolding_all rfl) ?_)
  | (with_reducible refine s_ret ?_)
  | (with_reducible refine s_retN ?_)
  | (with_reducible refine s_next ?_)
  | (with_reducible refine s_set ?_ (by with_unfolding_all exact Nat.le_of_ble_eq_true rfl))
  | (with_reducible refine s_asgG ?_)
  | (with_reducible refine s_parS ?_ (by with_unfolding_all exact Nat.le_of_ble_eq_true rfl) (by with_unfolding_all exact Nat.le_of_ble_eq_true rfl))
  | (with_reducible refine s_rz ?_)
  | (with_reducible refine s_appendS (by with_unfolding_all rfl) ?_)
  | (with_reducible refine s_expr ?_)
  | ((with_reducible refine s_tryKK ?_); intro W))
local macro_rules | `(tactic| walk_at "yT") => `(tactic| first
  | (with_reducible refine t_test ?_)
  | (with_reducible refine t_tru ?_)
  | (with_reducible refine t_not ?_)
  | (with_reducible refine t_and ?_)
  | (with_reducible refine t_or ?_))
local macro_rules | `(tactic| walk_at "yA") => `(tactic| first
  | (with_reducible refine vs_cons ?_)
  | (with_reducible refine vs_nil ?_)
  | (with_reducible refine a_cons ?_)
  | (with_reducible refine a_nil ?_)
  | (with_reducible refine o_none ?_)
  | (with_reducible refine o_some ?_))
local macro_rules | `(tactic| walk_at "yX") => `(tactic| first
  | ((with_reducible show ∃ _, CmpD _ _ _ ∧ _); first | refine ⟨_, cmpd_int, ?_⟩ | refine ⟨_, cmpd_str, ?_⟩ | refine ⟨_, cmpd_bl, ?_⟩)
  | ((with_reducible show ∃ _ _, _ ∧ ExcC _ _ ∧ _); refine ⟨_, _, rfl, by assumption, by assumption, ?_⟩)
  | (refine ⟨_, _, rfl, rfl, ?_⟩)
  | (refine ⟨_, _, rfl, ?_⟩)
  | (refine ⟨_, rfl, ?_⟩))
local macro_rules | `(tactic| walk_at "yN") => `(tactic| first
  | (with_reducible refine brT ?_)
  | (with_reducible refine brF ?_)
  | (with_reducible refine brT' ?_)
  | (with_reducible refine brF' ?_)
  | ((with_reducible show ((!_) = false → _) ∧ _); first | (refine brA' rfl ?_) | (refine brB' rfl ?_))
  | ((with_reducible show ((!_) = true → _) ∧ _); first | (refine brA rfl ?_) | (refine brB rfl ?_))
  | ((with_reducible show 0 < _ ∧ _); refine ⟨by first | decide | omega, ?_⟩)
  | ((with_reducible show _ ≤ sizeLine ∧ _); refine ⟨small_len (by with_unfolding_all exact Nat.le_of_ble_eq_true rfl), ?_⟩)
  | ((with_reducible show CPow _ _ ∧ _); refine ⟨⟨by decide, by decide, by decide⟩, ?_⟩)
  | ((with_reducible show CDivX _ _ ∧ _); refine ⟨⟨by decide, by decide⟩, ?_⟩)
  | ((with_reducible show 0 ≤ _ ∧ _); refine ⟨by first | decide | omega, ?_⟩)
  | ((with_reducible show _ = D.non ∧ _); refine ⟨rfl, ?_⟩))
local macro_rules | `(tactic| walk_at "yO") => `(tactic| first
  | ((with_reducible show vR _ _); first | (with_reducible refine vr_val ?_) | (with_reducible refine vr_own ?_))
  | ((with_reducible show asgR _ _); first | (with_reducible refine as_val ?_) | (with_reducible refine as_own ?_))
  | ((with_reducible show ∃ _, _); walk_at "yX")
  | ((with_reducible show _ ∧ _); walk_at "yN")
  | ((with_reducible show AddD _ _ _); first | (refine add_int ?_) | (refine add_lst (small_len' (by with_unfolding_all exact Nat.le_of_ble_eq_true rfl)) ?_))
  | ((with_reducible show MulD _ _ _); refine mul_int (by walk_at "mok") ?_)
  | (with_reducible refine ss_go (by with_unfolding_all repeat constructor) ?_)
  | (with_reducible refine g_nameS (by first | trivial | exact List.mem_cons_self | simp) (by with_unfolding_all repeat constructor) ?_)
  | (with_reducible refine g_tup (by with_unfolding_all rfl) ?_)
  | (with_reducible refine gs_cons ?_)
  | (with_reducible refine gs_nil ?_))
local macro_rules | `(tactic| walk_at "y") => `(tactic| first
  | ((with_reducible show tE _ _ _ _ _ _); walk_at "yE")
  | ((with_reducible show tS _ _ _ _ _ _); walk_at "yS")
  | ((with_reducible show tT _ _ _ _ _ _); walk_at "yT")
  | ((with_reducible show tVs _ _ _ _ _ _); walk_at "yA")
  | ((with_reducible show tA _ _ _ _ _ _); walk_at "yA")
  | ((with_reducible show tOo _ _ _ _ _ _); walk_at "yA")
  | walk_at "yO")
local macro_rules | `(tactic| walk_at "z") => `(tactic| (fail_if_success (with_reducible show tS _ _ _ (tSeq (tIfS _ _ _) _) _ _); walk_at "y"))
local macro_rules | `(tactic| walk_at "smb") => `(tactic| first
  | assumption
  | exact (show Sm 64 _ by unfold Sm; decide)
  | (apply Sm.mul <;> walk_at "smb")
  | (apply Sm.add2 <;> walk_at "smb")
  | (apply Sm.sub2 <;> walk_at "smb")
  | (apply Sm.neg <;> walk_at "smb"))
local macro_rules | `(tactic| walk_at "mok") => `(tactic| exact mulOk (by walk_at "smb") (by walk_at "smb") (by decide) (by decide) (by decide))

namespace K02
open PySem PySem.Spec PyProof.Rows L2 Y Wd TL Tx
section
variable {P : Program} {w : World} {K : PySem.W.Frag} {mg : Str → Option Value} {base : Heap} {f : Addr} {fd : FuncData}
theorem ok_is_number (B : Bl mg) (F : Fun K "is_number" "is_number" s_is_number f fd) : FnOk P w K mg base CX0 1 f fd ["text"] (spD K fs_is_number) := by
  refine fn0 F sc_is_number (fun ds R Ex ⟨d, h, _⟩ => by rw [h]; rfl) fun cdv A outer s H E hr => ⟨_, (pss_cons (ps_if (PW.pt (pw_or (pt_not (pt_truK (K := K) (pe_m0 PySem.F.slot_str_isascii PySem.F.type_str_isascii mt_isascii (pv 0)))) (pw_or1 (pt_not (pt_truK (K := K) (pe_m0 PySem.F.slot_str_isdigit PySem.F.type_str_isdigit mt_isdigit (pv 0))))))) (pss_one (ps_ret pe_bl)) pss_nil)
      (pss_one (ps_ret (pe_or (pe_cmpR (op_eqK (K := K) hr) (pv 0) pe_str (nomark _)) (pe_one (pe_not (pe_m1 PySem.F.slot_str_startswith PySem.F.type_str_startswith mt_startswith (pv 0) pe_str))))))), fun ds R Ex ⟨z, hd, hz, h⟩ => ?_⟩
  subst hd
  (try dsimp only [cxOf, Cx.nox, Cx.wish]); change tS K _ _ _ [.val (.str z)] _
  have nt := num_test z
  obtain ⟨p, ep⟩ : ∃ p, p = Txt.isascii z := ⟨_, rfl⟩
  obtain ⟨q, eq⟩ : ∃ q, q = Txt.isdigit z := ⟨_, rfl⟩
  rw [← ep, ← eq] at nt
  iterate 8 walk_at "y"
  refine ⟨z, rfl, p, ep, ?_⟩
  cases p with
  | false =>
    repeat walk_at "y"
    have ef : figs (tl z) = false := by
      unfold figs
      rw [← nt]
      rfl
    rw [ef] at h
    exact h
  | true =>
    refine ⟨fun _ => ?_, fun c => Bool.noConfusion c⟩
    iterate 4 walk_at "y"
    refine ⟨z, rfl, q, eq, ?_⟩
    cases q with
    | false =>
      repeat walk_at "y"
      have ef : figs (tl z) = false := by
        unfold figs
        rw [← nt]
        rfl
      rw [ef] at h
      exact h
    | true =>
      refine ⟨fun c => Bool.noConfusion c, fun _ => ?_⟩
      repeat walk_at "y"
      have ne : tl z ≠ [] := by
        have := (Bool.and_eq_true _ _ ▸ nt.symm : _ ∧ _).1
        exact of_decide_eq_true this
      have ef : figs (tl z) = (decide (z = "0") || !Txt.startswith z "0") := by
        unfold figs
        rw [← nt, is_zero, starts0 z ne]
        rfl
      rw [ef] at h
      refine ⟨fun c => ?_, fun c => ?_⟩
      · rw [c] at h
        repeat walk_at "y"
        exact h
      · rw [c] at h
        exact h
end
end K02
end

section
set_option maxHeartbeats 4000000
open PySem PySem.Spec PyProof.Rows L2 Y
local macro_rules | `(tactic| walk_at "yE") => `(tactic| first
  | ((with_reducible show tE _ _ _ (tOp _ _ _) _ _); first
    | (with_reducible refine e_ix ?_)
    | (with_reducible refine e_ixS ?_)
    | (with_reducible refine e_notInS ?_)
    | (with_reducible refine e_add ?_)
    | (with_reducible refine e_catA ?_)
    | (with_reducible refine e_sub ?_)
    | (with_reducible refine e_mul ?_)
    | (with_reducible refine e_mod ?_)
    | (with_reducible refine e_fdiv ?_)
    | (with_reducible refine e_pow ?_)
    | (with_reducible refine e_shr ?_)
    | (with_reducible refine e_band ?_)
    | (with_reducible refine e_lt ?_)
    | (with_reducible refine e_le ?_)
    | (with_reducible refine e_gt ?_)
    | (with_reducible refine e_ge ?_)
    | (with_reducible refine e_eq ?_)
    | (with_reducible refine e_ne ?_)
    | (with_reducible refine e_isN ?_)
    | (with_reducible refine e_notN ?_)
    | (with_reducible refine e_isB ?_)
    | (with_reducible refine e_isntB ?_))
  | ((with_reducible show tE _ _ _ (tCB _ _) _ _); first
    | (with_reducible refine e_len ?_)
    | (with_reducible refine e_isX (by with_unfolding_all exact fun _ h => h) ?_)
    | (with_reducible refine e_isInt ?_)
    | (with_reducible refine e_isBool ?_)
    | (with_reducible refine e_isTup ?_)
    | (with_reducible refine e_isStr ?_)
    | (with_reducible refine e_isList ?_)
    | (with_reducible refine e_gcd ?_)
    | (with_reducible refine e_abs ?_)
    | (with_reducible refine e_max2 ?_)
    | (with_reducible refine e_intS ?_)
    | (with_reducible refine e_intB ?_)
    | (with_reducible refine e_strI ?_)
    | (with_reducible refine e_list ?_)
    | (with_reducible refine e_repr ?_)
    | (with_reducible refine e_tupL ?_)
    | (with_reducible refine e_all ?_))
  | (with_reducible refine e_val (by with_unfolding_all rfl) ?_)
  | (with_reducible refine e_own (by with_unfolding_all rfl) ?_)
  | (with_reducible refine e_int ?_)
  | (with_reducible refine e_bl ?_)
  | (with_reducible refine e_non ?_)
  | (with_reducible refine e_str ?_)
  | (with_reducible refine e_neg ?_)
  | (with_reducible refine e_and ?_)
  | (with_reducible refine e_or ?_)
  | (with_reducible refine e_not ?_)
  | (with_reducible refine e_if ?_)
  | (with_reducible refine e_chainI ?_)
  | (with_reducible refine e_tup ?_)
  | (with_reducible refine e_lst ?_)
  | (with_reducible refine e_dk0 ?_)
  | (with_reducible refine e_sl ?_)
  | (with_reducible refine e_orT ?_)
  | (with_reducible refine e_m0b ?_)
  | (with_reducible refine e_m1b ?_)
  | (with_reducible refine e_m1s ?_)
  | (with_reducible refine e_zfill ?_)
  | (with_reducible refine e_partition ?_)
  | (with_reducible refine e_split ?_)
  | (with_reducible refine e_joinRev ?_)
  | (with_reducible refine e_joined ?_)
  | (with_reducible refine e_fmt ?_)
  | (with_reducible refine e_revL ?_))
local macro_rules | `(tactic| walk_at "yS") => `(tactic| first
  | (with_reducible refine s_seq ?_)
  | (with_reducible refine s_if ?_)
  | (with_reducible refine s_retOwn (by with_unfolding_all rfl) ?_)
  | (with_reducible refine s_ret ?_)
  | (with_reducible refine s_retN ?_)
  | (with_reducible refine s_next ?_)
  | (with_reducible refine s_set ?_ (by with_unfolding_all exact Nat.le_of_ble_eq_true rfl))
  | (with_reducible refine s_asgG ?_)
  | (with_reducible refine s_parS ?_ (by with_unfolding_all exact Nat.le_of_ble_eq_true rfl) (by with_unfolding_all exact Nat.le_of_ble_eq_true rfl))
  | (with_reducible refine s_rz ?_)
  | (with_reducible refine s_appendS (by with_unfolding_all rfl) ?_)
  | (with_reducible refine s_expr ?_)
  | ((with_reducible refine s_tryKK ?_); intro W))
local macro_rules | `(tactic| walk_at "yT") => `(tactic| first
  | (with_reducible refine t_test ?_)
  | (with_reducible refine t_tru ?_)
  | (with_reducible refine t_not ?_)
  | (with_reducible refine t_and ?_)
  | (with_reducible refine t_or ?_))
local macro_rules | `(tactic| walk_at "yA") => `(tactic| first
  | (with_reducible refine vs_cons ?_)
  | (with_reducible refine vs_nil ?_)
  | (with_reducible refine a_cons ?_)
  | (with_reducible refine a_nil ?_)
  | (with_reducible refine o_none ?_)
  | (with_reducible refine o_some ?_))
local macro_rules | `(tactic| walk_at "yX") => `(tactic| first
  | ((with_reducible show ∃ _, CmpD _ _ _ ∧ _); first | refine ⟨_, cmpd_int, ?_⟩ | refine ⟨_, cmpd_str, ?_⟩ | refine ⟨_, cmpd_bl, ?_⟩)
  | ((with_reducible show ∃ _ _, _ ∧ ExcC _ _ ∧ _); refine ⟨_, _, rfl, by assumption, by assumption, ?_⟩)
  | (refine ⟨_, _, rfl, rfl, ?_⟩)
  | (refine ⟨_, _, rfl, ?_⟩)
  | (refine ⟨_, rfl, ?_⟩))
local macro_rules | `(tactic| walk_at "yN") => `(tactic| first
  | (with_reducible refine brT ?_)
  | (with_reducible refine brF ?_)
  | (with_reducible refine brT' ?_)
  | (with_reducible refine brF' ?_)
  | ((with_reducible show ((!_) = false → _) ∧ _); first | (refine brA' rfl ?_) | (refine brB' rfl ?_))
  | ((with_reducible show ((!_) = true → _) ∧ _); first | (refine brA rfl ?_) | (refine brB rfl ?_))
  | ((with_reducible show 0 < _ ∧ _); refine ⟨by first | decide | omega, ?_⟩)
  | ((with_reducible show _ ≤ sizeLine ∧ _); refine ⟨small_len (by with_unfolding_all exact Nat.le_of_ble_eq_true rfl), ?_⟩)
  | ((with_reducible show CPow _ _ ∧ _); refine ⟨⟨by decide, by decide, by decide⟩, ?_⟩)
  | ((with_reducible show CDivX _ _ ∧ _); refine ⟨⟨by decide, by decide⟩, ?_⟩)
  | ((with_reducible show 0 ≤ _ ∧ _); refine ⟨by first | decide | omega, ?_⟩)
  | ((with_reducible show _ = D.non ∧ _); refine ⟨rfl, ?_⟩))
local macro_rules | `(tactic| walk_at "yO") => `(tactic| first
  | ((with_reducible show vR _ _); first | (with_reducible refine vr_val ?_) | (with_reducible refine vr_own ?_))
  | ((with_reducible show asgR _ _); first | (with_reducible refine as_val ?_) | (with_reducible refine as_own ?_))
  | ((with_reducible show ∃ _, _); walk_at "yX")
  | ((with_reducible show _ ∧ _); walk_at "yN")
  | ((with_reducible show AddD _ _ _); first | (refine add_int ?_) | (refine add_lst (small_len' (by with_unfolding_all exact Nat.le_of_ble_eq_true rfl)) ?_))
  | ((with_reducible show MulD _ _ _); refine mul_int (by walk_at "mok") ?_)
  | (with_reducible refine ss_go (by with_unfolding_all repeat constructor) ?_)
  | (with_reducible refine g_nameS (by first | trivial | exact List.mem_cons_self | simp) (by with_unfolding_all repeat constructor) ?_)
  | (with_reducible refine g_tup (by with_unfolding_all rfl) ?_)
  | (with_reducible refine gs_cons ?_)
  | (with_reducible refine gs_nil ?_))
local macro_rules | `(tactic| walk_at "y") => `(tactic| first
  | ((with_reducible show tE _ _ _ _ _ _); walk_at "yE")
  | ((with_reducible show tS _ _ _ _ _ _); walk_at "yS")
  | ((with_reducible show tT _ _ _ _ _ _); walk_at "yT")
  | ((with_reducible show tVs _ _ _ _ _ _); walk_at "yA")
  | ((with_reducible show tA _ _ _ _ _ _); walk_at "yA")
  | ((with_reducible show tOo _ _ _ _ _ _); walk_at "yA")
  | walk_at "yO")
local macro_rules | `(tactic| walk_at "z") => `(tactic| (fail_if_success (with_reducible show tS _ _ _ (tSeq (tIfS _ _ _) _) _ _); walk_at "y"))
local macro_rules | `(tactic| walk_at "smb") => `(tactic| first
  | assumption
  | exact (show Sm 64 _ by unfold Sm; decide)
  | (apply Sm.mul <;> walk_at "smb")
  | (apply Sm.add2 <;> walk_at "smb")
  | (apply Sm.sub2 <;> walk_at "smb")
  | (apply Sm.neg <;> walk_at "smb"))
local macro_rules | `(tactic| walk_at "mok") => `(tactic| exact mulOk (by walk_at "smb") (by walk_at "smb") (by decide) (by decide) (by decide))

namespace K02
open PySem PySem.Spec PyProof.Rows L2 Y Wd TL Tx
section
variable {P : Program} {w : World} {K : PySem.W.Frag} {mg : Str → Option Value} {base : Heap} {f : Addr} {fd : FuncData}
theorem ok_figures_of {tk : Tok} (B : Bl mg) (b_reversed : mg "reversed" = none) (b_divmod : mg "divmod" = none) (n_RUN : mg "RUN" = some (.int 60 tk)) (F : Fun K "figures_of" "figures_of" s_figures_of f fd) : FnOk P w K mg base CX0 1 f fd ["number"] (spD K fs_figures_of) := by
  refine fn0 F sc_figures_of (fun ds R Ex ⟨d, h, _⟩ => by rw [h]; rfl) fun cdv A outer s H E hr => ⟨_, (pss_cons (ps_set (i := 1) sc_figures_of.nd rfl (by first | exact .inl rfl | exact .inr rfl) (pe_lst pa_nil))
      (pss_cons (ps_while PassesOwn.never (pt_cmpR op_ge (pv 0) (pe_op op_pow pe_int pe_int) (nomark _)) (pss_cons (ps_asg (pe_callB call_divmod (by rfl) b_divmod (by decide +kernel) (pa_cons (pv 0) (pa_cons (pe_op op_pow pe_int pe_int) pa_nil))) (pg_tup rfl (pgs_cons (pg_name (i := 0) sc_figures_of.nd rfl (by first | exact .inl rfl | exact .inr rfl)) (pgs_cons (pg_name (i := 2) sc_figures_of.nd rfl (by first | exact .inl rfl | exact .inr rfl)) pgs_nil))))
      (pss_one (ps_expr (pe_bm PySem.F.plainAttrs_list PySem.F.slot_list_append PySem.F.type_list_append mt_append (pv 1) (pa_cons (pe_m1 PySem.F.slot_str_zfill PySem.F.type_str_zfill mt_zfill (pe_callTy call_str_int (by rfl) B.bStr (by decide +kernel) (pa_cons (pv 2) pa_nil)) (pe_glob (v := .int 60) rfl n_RUN ⟨_, rfl⟩)) pa_nil))))))
      (pss_cons (ps_expr (pe_bm PySem.F.plainAttrs_list PySem.F.slot_list_append PySem.F.type_list_append mt_append (pv 1) (pa_cons (pe_callTy call_str_int (by rfl) B.bStr (by decide +kernel) (pa_cons (pv 0) pa_nil)) pa_nil)))
      (pss_one (ps_ret (pe_joinRev (K := K) (by rfl) b_reversed pe_str (pv 1))))))), fun ds R Ex ⟨n, hd, hn, h⟩ => ?_⟩
  subst hd
  (try dsimp only [cxOf, Cx.nox, Cx.wish]); change tS K _ _ _ [.val (.int (n : Int)), .emp, .emp] _
  iterate 6 walk_at "y"
  repeat ((fail_if_success (with_reducible show tS _ _ _ _ _ _)); walk_at "y")
  dsimp only
  refine s_seq ?_
  refine s_while (fun ρ => ρ = [.val (.int (n : Int)), .own [], .emp]) (fun _ => 0) rfl fun ρ' hρ => ?_
  subst hρ
  iterate 5 walk_at "y"
  refine e_int ?_
  refine ⟨10, 60, rfl, rfl, ⟨by decide, by decide, by decide⟩, ?_⟩
  refine ⟨_, _, rfl, rfl, _, rfl, fun c => ?_, fun _ => ?_⟩
  · exfalso
    have c := of_decide_eq_true c
    have e : (10 : Int) ^ (60 : Int).toNat = ((10 ^ 60 : Nat) : Int) := by
      rw [show (60 : Int).toNat = 60 from rfl, Int.natCast_pow]
      rfl
    rw [e] at c
    exact absurd (Int.ofNat_le.mp c) (Nat.not_le.mpr hn)
  · iterate 4 walk_at "y"
    have hn' : n < 2 ^ 200 := Nat.lt_of_lt_of_le hn (by decide)
    refine ⟨(n : Int), rfl, PySem.Flt.log2_lt_of (by decide) (show (n : Int).natAbs < 2 ^ 1920 from Nat.lt_of_lt_of_le hn' (Nat.pow_le_pow_right (by decide) (by decide))), ?_⟩
    have ln : (tl (Str.ofString (toString (n : Int)))).length ≤ 60 := by
      rw [tl_num]
      exact numL_len (by decide) hn
    generalize Str.ofString (toString (n : Int)) = y at ln h
    repeat walk_at "y"
    refine ⟨by decide, ?_⟩
    repeat walk_at "y"
    refine ⟨[y], rfl, ?_, ?_⟩
    · show (y.length + 0) + 1 * 0 ≤ 16777216
      rw [len_tl]
      omega
    · have e : Txt.join (Str.ofString "") [y].reverse = y := ext_tl (by
        rw [join_eq, tl_join]
        rfl)
      rw [e]
      exact h
end
end K02
end

section
set_option maxHeartbeats 4000000
open PySem PySem.Spec PyProof.Rows L2 Y
local macro_rules | `(tactic| walk_at "yE") => `(tactic| first
  | ((with_reducible show tE _ _ _ (tOp _ _ _) _ _); first
    | (with_reducible refine e_ix ?_)
    | (with_reducible refine e_ixS ?_)
    | (with_reducible refine e_notInS ?_)
    | (with_reducible refine e_add ?_)
    | (with_reducible refine e_catA ?_)
    | (with_reducible refine e_sub ?_)
    | (with_reducible refine e_mul ?_)
    | (with_reducible refine e_mod ?_)
    | (with_reducible refine e_fdiv ?_)
    | (with_reducible refine e_pow ?_)
    | (with_reducible refine e_shr ?_)
    | (with_reducible refine e_band ?_)
    | (with_reducible refine e_lt ?_)
    | (with_reducible refine e_le ?_)
    | (with_reducible refine e_gt ?_)
    | (with_reducible refine e_ge ?_)
    | (with_reducible refine e_eq ?_)
    | (with_reducible refine e_ne ?_)
    | (with_reducible refine e_isN ?_)
    | (with_reducible refine e_notN ?_)
    | (with_reducible refine e_isB ?_)
    | (with_reducible refine e_isntB ?_))
  | ((with_reducible show tE _ _ _ (tCB _ _) _ _); first
    | (with_reducible refine e_len ?_)
    | (with_reducible refine e_isX (by with_unfolding_all exact fun _ h => h) ?_)
    | (with_reducible refine e_isInt ?_)
    | (with_reducible refine e_isBool ?_)
    | (with_reducible refine e_isTup ?_)
    | (with_reducible refine e_isStr ?_)
    | (with_reducible refine e_isList ?_)
    | (with_reducible refine e_gcd ?_)
    | (with_reducible refine e_abs ?_)
    | (with_reducible refine e_max2 ?_)
    | (with_reducible refine e_intS ?_)
    | (with_reducible refine e_intB ?_)
    | (with_reducible refine e_strI ?_)
    | (with_reducible refine e_list ?_)
    | (with_reducible refine e_repr ?_)
    | (with_reducible refine e_tupL ?_)
    | (with_reducible refine e_all ?_))
  | (with_reducible refine e_val (by with_unfolding_all rfl) ?_)
  | (with_reducible refine e_own (by with_unfolding_all rfl) ?_)
  | (with_reducible refine e_int ?_)
  | (with_reducible refine e_bl ?_)
  | (with_reducible refine e_non ?_)
  | (with_reducible refine e_str ?_)
  | (with_reducible refine e_neg ?_)
  | (with_reducible refine e_and ?_)
  | (with_reducible refine e_or ?_)
  | (with_reducible refine e_not ?_)
  | (with_reducible refine e_if ?_)
  | (with_reducible refine e_chainI ?_)
  | (with_reducible refine e_tup ?_)
  | (with_reducible refine e_lst ?_)
  | (with_reducible refine e_dk0 ?_)
  | (with_reducible refine e_sl ?_)
  | (with_reducible refine e_orT ?_)
  | (with_reducible refine e_m0b ?_)
  | (with_reducible refine e_m1b ?_)
  | (with_reducible refine e_m1s ?_)
  | (with_reducible refine e_zfill ?_)
  | (with_reducible refine e_partition ?_)
  | (with_reducible refine e_split ?_)
  | (with_reducible refine e_joinRev ?_)
  | (with_reducible refine e_joined ?_)
  | (with_reducible refine e_fmt ?_)
  | (with_reducible refine e_revL ?_))
local macro_rules | `(tactic| walk_at "yS") => `(tactic| first
  | (with_reducible refine s_seq ?_)
  | (with_reducible refine s_if ?_)
  | (with_reducible refine s_retOwn (by with_unfolding_all rfl) ?_)
  | (with_reducible refine s_ret ?_)
  | (with_reducible refine s_retN ?_)
  | (with_reducible refine s_next ?_)
  | (with_reducible refine s_set ?_ (by with_unfolding_all exact Nat.le_of_ble_eq_true rfl))
  | (with_reducible refine s_asgG ?_)
  | (with_reducible refine s_parS ?_ (by with_unfolding_all exact Nat.le_of_ble_eq_true rfl) (by with_unfolding_all exact Nat.le_of_ble_eq_true rfl))
  | (with_reducible refine s_rz ?_)
  | (with_reducible refine s_appendS (by with_unfolding_all rfl) ?_)
  | (with_reducible refine s_expr ?_)
  | ((with_reducible refine s_tryKK ?_); intro W))
local macro_rules | `(tactic| walk_at "yT") => `(tactic| first
  | (with_reducible refine t_test ?_)
  | (with_reducible refine t_tru ?_)
  | (with_reducible refine t_not ?_)
  | (with_reducible refine t_and ?_)
  | (with_reducible refine t_or ?_))
local macro_rules | `(tactic| walk_at "yA") => `(tactic| first
  | (with_reducible refine vs_cons ?_)
  | (with_reducible refine vs_nil ?_)
  | (with_reducible refine a_cons ?_)
  | (with_reducible refine a_nil ?_)
  | (with_reducible refine o_none ?_)
  | (with_reducible refine o_some ?_))
local macro_rules | `(tactic| walk_at "yX") => `(tactic| first
  | ((with_reducible show ∃ _, CmpD _ _ _ ∧ _); first | refine ⟨_, cmpd_int, ?_⟩ | refine ⟨_, cmpd_str, ?_⟩ | refine ⟨_, cmpd_bl, ?_⟩)
  | ((with_reducible show ∃ _ _, _ ∧ ExcC _ _ ∧ _); refine ⟨_, _, rfl, by assumption, by assumption, ?_⟩)
  | (refine ⟨_, _, rfl, rfl, ?_⟩)
  | (refine ⟨_, _, rfl, ?_⟩)
  | (refine ⟨_, rfl, ?_⟩))
local macro_rules | `(tactic| walk_at "yN") => `(tactic| first
  | (with_reducible refine brT ?_)
  | (with_reducible refine brF ?_)
  | (with_reducible refine brT' ?_)
  | (with_reducible refine brF' ?_)
  | ((with_reducible show ((!_) = false → _) ∧ _); first | (refine brA' rfl ?_) | (refine brB' rfl ?_))
  | ((with_reducible show ((!_) = true → _) ∧ _); first | (refine brA rfl ?_) | (refine brB rfl ?_))
  | ((with_reducible show 0 < _ ∧ _); refine ⟨by first | decide | omega, ?_⟩)
  | ((with_reducible show _ ≤ sizeLine ∧ _); refine ⟨small_len (by with_unfolding_all exact Nat.le_of_ble_eq_true rfl), ?_⟩)
  | ((with_reducible show CPow _ _ ∧ _); refine ⟨⟨by decide, by decide, by decide⟩, ?_⟩)
  | ((with_reducible show CDivX _ _ ∧ _); refine ⟨⟨by decide, by decide⟩, ?_⟩)
  | ((with_reducible show 0 ≤ _ ∧ _); refine ⟨by first | decide | omega, ?_⟩)
  | ((with_reducible show _ = D.non ∧ _); refine ⟨rfl, ?_⟩))
local macro_rules | `(tactic| walk_at "yO") => `(tactic| first
  | ((with_reducible show vR _ _); first | (with_reducible refine vr_val ?_) | (with_reducible refine vr_own ?_))
  | ((with_reducible show asgR _ _); first | (with_reducible refine as_val ?_) | (with_reducible refine as_own ?_))
  | ((with_reducible show ∃ _, _); walk_at "yX")
  | ((with_reducible show _ ∧ _); walk_at "yN")
  | ((with_reducible show AddD _ _ _); first | (refine add_int ?_) | (refine add_lst (small_len' (by with_unfolding_all exact Nat.le_of_ble_eq_true rfl)) ?_))
  | ((with_reducible show MulD _ _ _); refine mul_int (by walk_at "mok") ?_)
  | (with_reducible refine ss_go (by with_unfolding_all repeat constructor) ?_)
  | (with_reducible refine g_nameS (by first | trivial | exact List.mem_cons_self | simp) (by with_unfolding_all repeat constructor) ?_)
  | (with_reducible refine g_tup (by with_unfolding_all rfl) ?_)
  | (with_reducible refine gs_cons ?_)
  | (with_reducible refine gs_nil ?_))
local macro_rules | `(tactic| walk_at "y") => `(tactic| first
  | ((with_reducible show tE _ _ _ _ _ _); walk_at "yE")
  | ((with_reducible show tS _ _ _ _ _ _); walk_at "yS")
  | ((with_reducible show tT _ _ _ _ _ _); walk_at "yT")
  | ((with_reducible show tVs _ _ _ _ _ _); walk_at "yA")
  | ((with_reducible show tA _ _ _ _ _ _); walk_at "yA")
  | ((with_reducible show tOo _ _ _ _ _ _); walk_at "yA")
  | walk_at "yO")
local macro_rules | `(tactic| walk_at "z") => `(tactic| (fail_if_success (with_reducible show tS _ _ _ (tSeq (tIfS _ _ _) _) _ _); walk_at "y"))
local macro_rules | `(tactic| walk_at "smb") => `(tactic| first
  | assumption
  | exact (show Sm 64 _ by unfold Sm; decide)
  | (apply Sm.mul <;> walk_at "smb")
  | (apply Sm.add2 <;> walk_at "smb")
  | (apply Sm.sub2 <;> walk_at "smb")
  | (apply Sm.neg <;> walk_at "smb"))
local macro_rules | `(tactic| walk_at "mok") => `(tactic| exact mulOk (by walk_at "smb") (by walk_at "smb") (by decide) (by decide) (by decide))

namespace K02
open PySem PySem.Spec PyProof.Rows L2 Y Wd TL Tx
section
variable {P : Program} {w : World} {K : PySem.W.Frag} {mg : Str → Option Value} {base : Heap} {f : Addr} {fd : FuncData}
theorem ok_number_of {tk : Tok} (B : Bl mg) (n_RUN : mg "RUN" = some (.int 60 tk)) (F : Fun K "number_of" "number_of" s_number_of f fd) : FnOk P w K mg base CX0 1 f fd ["text"] (spD K fs_number_of) := by
  refine fn0 F sc_number_of (fun ds R Ex ⟨d, h, _⟩ => by rw [h]; rfl) fun cdv A outer s H E hr => ⟨_, (pss_cons (ps_set (i := 1) sc_number_of.nd rfl (by first | exact .inl rfl | exact .inr rfl) (pe_op op_mod (pe_callB (call_lenK (K := K)) (by rfl) B.bLen (by decide +kernel) (pa_cons (pv 0) pa_nil)) (pe_glob (v := .int 60) rfl n_RUN ⟨_, rfl⟩)))
      (pss_cons (ps_set (i := 2) sc_number_of.nd rfl (by first | exact .inl rfl | exact .inr rfl) (pe_callTy call_int_str (by rfl) B.bInt (by decide +kernel) (pa_cons (pe_orTK (K := K) (pe_slice (sl_K (K := K)) (pv 0) po_none (po_some (pv 1))) (pe_one pe_str)) pa_nil)))
      (pss_cons (ps_for PassesOwn.never rfl (pi_range3 (by rfl) B.bRange (pa_cons (pv 1) (pa_cons (pe_callB (call_lenK (K := K)) (by rfl) B.bLen (by decide +kernel) (pa_cons (pv 0) pa_nil)) (pa_cons (pe_glob (v := .int 60) rfl n_RUN ⟨_, rfl⟩) pa_nil)))) (pg_name (i := 3) sc_number_of.nd rfl (by first | exact .inl rfl | exact .inr rfl))
      (pss_one (ps_set (i := 2) sc_number_of.nd rfl (by first | exact .inl rfl | exact .inr rfl) (pe_op op_addU (pe_op op_mulU (pv 2) (pe_op op_pow pe_int pe_int)) (pe_callTy call_int_str (by rfl) B.bInt (by decide +kernel) (pa_cons (pe_slice (sl_K (K := K)) (pv 0) (po_some (pv 3)) (po_some (pe_op op_addU (pv 3) (pe_glob (v := .int 60) rfl n_RUN ⟨_, rfl⟩)))) pa_nil))))))
      (pss_one (ps_ret (pv 2)))))), fun ds R Ex ⟨z, hd, hz, hf, h⟩ => ?_⟩
  subst hd
  (try dsimp only [cxOf, Cx.nox, Cx.wish]); change tS K _ _ _ [.val (.str z), .emp, .emp, .emp] _
  iterate 4 walk_at "y"
  have dg := figs_dig hf
  have l1 : 1 ≤ z.length := by
    rw [len_tl]
    exact List.length_pos_iff.mpr dg.2
  refine e_val (by with_unfolding_all rfl) ?_
  refine ⟨z.length, ?_⟩
  refine ⟨⟨small_len' (by omega), rfl⟩, ?_⟩
  have em : ((z.length : Nat) : Int) % 60 = (z.length : Int) := Int.emod_eq_of_lt (by omega) (by omega)
  repeat walk_at "y"
  rw [em]
  have ec : cutS z none (some (z.length : Int)) = z := by
    refine ext_tl ?_
    show ((tl z).drop (HT.sIx z.length 0 none)).take (HT.sIx z.length z.length (some (z.length : Int)) - HT.sIx z.length 0 none) = tl z
    rw [HT.sIx_none, HT.sIx_nat, Nat.min_self, List.drop_zero, Nat.sub_zero, len_tl]
    exact List.take_length
  refine ⟨small_len' (by omega), ?_⟩
  rw [ec]
  repeat walk_at "y"
  refine ⟨true, ⟨small_len' (by omega), ?_⟩, fun _ => ?_, fun c => Bool.noConfusion c⟩
  · symm
    rw [bne_iff_ne]
    omega
  repeat walk_at "y"
  refine ⟨_, _, rfl, intText_digits dg.1 dg.2 (by omega), by omega, ?_⟩
  repeat walk_at "y"
  refine s_for (i_rangeN ?_)
  repeat walk_at "y"
  refine ⟨z.length, ⟨small_len' (by omega), rfl⟩, ?_⟩
  repeat walk_at "y"
  refine ⟨z.length, 60, rfl, rfl, rfl, ⟨by omega, by omega, by decide, by decide⟩, fun i ρ => ρ = [.val (.str z), .val (.int (z.length : Int)), .val (.int ((NumText.digitsVal z.cps.toList : Nat) : Int)), .emp], rfl, fun i d ρ' hd => ?_, fun ρ' e => ?_⟩
  · cases i <;> cases hd
  · subst e
    repeat walk_at "y"
    exact h
end
end K02
end

section
set_option maxHeartbeats 4000000
open PySem PySem.Spec PyProof.Rows L2 Y
local macro_rules | `(tactic| walk_at "yE") => `(tactic| first
  | ((with_reducible show tE _ _ _ (tOp _ _ _) _ _); first
    | (with_reducible refine e_ix ?_)
    | (with_reducible refine e_ixS ?_)
    | (with_reducible refine e_notInS ?_)
    | (with_reducible refine e_add ?_)
    | (with_reducible refine e_catA ?_)
    | (with_reducible refine e_sub ?_)
    | (with_reducible refine e_mul ?_)
    | (with_reducible refine e_mod ?_)
    | (with_reducible refine e_fdiv ?_)
    | (with_reducible refine e_pow ?_)
    | (with_reducible refine e_shr ?_)
    | (with_reducible refine e_band ?_)
    | (with_reducible refine e_lt ?_)
    | (with_reducible refine e_le ?_)
    | (with_reducible refine e_gt ?_)
    | (with_reducible refine e_ge ?_)
    | (with_reducible refine e_eq ?_)
    | (with_reducible refine e_ne ?_)
    | (with_reducible refine e_isN ?_)
    | (with_reducible refine e_notN ?_)
    | (with_reducible refine e_isB ?_)
    | (with_reducible refine e_isntB ?_))
  | ((with_reducible show tE _ _ _ (tCB _ _) _ _); first
    | (with_reducible refine e_len ?_)
    | (with_reducible refine e_isX (by with_unfolding_all exact fun _ h => h) ?_)
    | (with_reducible refine e_isInt ?_)
    | (with_reducible refine e_isBool ?_)
    | (with_reducible refine e_isTup ?_)
    | (with_reducible refine e_isStr ?_)
    | (with_reducible refine e_isList ?_)
    | (with_reducible refine e_gcd ?_)
    | (with_reducible refine e_abs ?_)
    | (with_reducible refine e_max2 ?_)
    | (with_reducible refine e_intS ?_)
    | (with_reducible refine e_intB ?_)
    | (with_reducible refine e_strI ?_)
    | (with_reducible refine e_list ?_)
    | (with_reducible refine e_repr ?_)
    | (with_reducible refine e_tupL ?_)
    | (with_reducible refine e_all ?_))
  | (with_reducible refine e_val (by with_unfolding_all rfl) ?_)
  | (with_reducible refine e_own (by with_unfolding_all rfl) ?_)
  | (with_reducible refine e_int ?_)
  | (with_reducible refine e_bl ?_)
  | (with_reducible refine e_non ?_)
  | (with_reducible refine e_str ?_)
  | (with_reducible refine e_neg ?_)
  | (with_reducible refine e_and ?_)
  | (with_reducible refine e_or ?_)
  | (with_reducible refine e_not ?_)
  | (with_reducible refine e_if ?_)
  | (with_reducible refine e_chainI ?_)
  | (with_reducible refine e_tup ?_)
  | (with_reducible refine e_lst ?_)
  | (with_reducible refine e_dk0 ?_)
  | (with_reducible refine e_sl ?_)
  | (with_reducible refine e_orT ?_)
  | (with_reducible refine e_m0b ?_)
  | (with_reducible refine e_m1b ?_)
  | (with_reducible refine e_m1s ?_)
  | (with_reducible refine e_zfill ?_)
  | (with_reducible refine e_partition ?_)
  | (with_reducible refine e_split ?_)
  | (with_reducible refine e_joinRev ?_)
  | (with_reducible refine e_joined ?_)
  | (with_reducible refine e_fmt ?_)
  | (with_reducible refine e_revL ?_))
local macro_rules | `(tactic| walk_at "yS") => `(tactic| first
  | (with_reducible refine s_seq ?_)
  | (with_reducible refine s_if ?_)
  | (with_reducible refine s_retOwn (by with_unfolding_all rfl) ?_)
  | (with_reducible refine s_ret ?_)
  | (with_reducible refine s_retN ?_)
  | (with_reducible refine s_next ?_)
  | (with_reducible refine s_set ?_ (by with_unfolding_all exact Nat.le_of_ble_eq_true rfl))
  | (with_reducible refine s_asgG ?_)
  | (with_reducible refine s_parS ?_ (by with_unfolding_all exact Nat.le_of_ble_eq_true rfl) (by with_unfolding_all exact Nat.le_of_ble_eq_true rfl))
  | (with_reducible refine s_rz ?_)
  | (with_reducible refine s_appendS (by with_unfolding_all rfl) ?_)
  | (with_reducible refine s_expr ?_)
  | ((with_reducible refine s_tryKK ?_); intro W))
local macro_rules | `(tactic| walk_at "yT") => `(tactic| first
  | (with_reducible refine t_test ?_)
  | (with_reducible refine t_tru ?_)
  | (with_reducible refine t_not ?_)
  | (with_reducible refine t_and ?_)
  | (with_reducible refine t_or ?_))
local macro_rules | `(tactic| walk_at "yA") => `(tactic| first
  | (with_reducible refine vs_cons ?_)
  | (with_reducible refine vs_nil ?_)
  | (with_reducible refine a_cons ?_)
  | (with_reducible refine a_nil ?_)
  | (with_reducible refine o_none ?_)
  | (with_reducible refine o_some ?_))
local macro_rules | `(tactic| walk_at "yX") => `(tactic| first
  | ((with_reducible show ∃ _, CmpD _ _ _ ∧ _); first | refine ⟨_, cmpd_int, ?_⟩ | refine ⟨_, cmpd_str, ?_⟩ | refine ⟨_, cmpd_bl, ?_⟩)
  | ((with_reducible show ∃ _ _, _ ∧ ExcC _ _ ∧ _); refine ⟨_, _, rfl, by assumption, by assumption, ?_⟩)
  | (refine ⟨_, _, rfl, rfl, ?_⟩)
  | (refine ⟨_, _, rfl, ?_⟩)
  | (refine ⟨_, rfl, ?_⟩))
local macro_rules | `(tactic| walk_at "yN") => `(tactic| first
  | (with_reducible refine brT ?_)
  | (with_reducible refine brF ?_)
  | (with_reducible refine brT' ?_)
  | (with_reducible refine brF' ?_)
  | ((with_reducible show ((!_) = false → _) ∧ _); first | (refine brA' rfl ?_) | (refine brB' rfl ?_))
  | ((with_reducible show ((!_) = true → _) ∧ _); first | (refine brA rfl ?_) | (refine brB rfl ?_))
  | ((with_reducible show 0 < _ ∧ _); refine ⟨by first | decide | omega, ?_⟩)
  | ((with_reducible show _ ≤ sizeLine ∧ _); refine ⟨small_len (by with_unfolding_all exact Nat.le_of_ble_eq_true rfl), ?_⟩)
  | ((with_reducible show CPow _ _ ∧ _); refine ⟨⟨by decide, by decide, by decide⟩, ?_⟩)
  | ((with_reducible show CDivX _ _ ∧ _); refine ⟨⟨by decide, by decide⟩, ?_⟩)
  | ((with_reducible show 0 ≤ _ ∧ _); refine ⟨by first | decide | omega, ?_⟩)
  | ((with_reducible show _ = D.non ∧ _); refine ⟨rfl, ?_⟩))
local macro_rules | `(tactic| walk_at "yO") => `(tactic| first
  | ((with_reducible show vR _ _); first | (with_reducible refine vr_val ?_) | (with_reducible refine vr_own ?_))
  | ((with_reducible show asgR _ _); first | (with_reducible refine as_val ?_) | (with_reducible refine as_own ?_))
  | ((with_reducible show ∃ _, _); walk_at "yX")
  | ((with_reducible show _ ∧ _); walk_at "yN")
  | ((with_reducible show AddD _ _ _); first | (refine add_int ?_) | (refine add_lst (small_len' (by with_unfolding_all exact Nat.le_of_ble_eq_true rfl)) ?_))
  | ((with_reducible show MulD _ _ _); refine mul_int (by walk_at "mok") ?_)
  | (with_reducible refine ss_go (by with_unfolding_all repeat constructor) ?_)
  | (with_reducible refine g_nameS (by first | trivial | exact List.mem_cons_self | simp) (by with_unfolding_all repeat constructor) ?_)
  | (with_reducible refine g_tup (by with_unfolding_all rfl) ?_)
  | (with_reducible refine gs_cons ?_)
  | (with_reducible refine gs_nil ?_))
local macro_rules | `(tactic| walk_at "y") => `(tactic| first
  | ((with_reducible show tE _ _ _ _ _ _); walk_at "yE")
  | ((with_reducible show tS _ _ _ _ _ _); walk_at "yS")
  | ((with_reducible show tT _ _ _ _ _ _); walk_at "yT")
  | ((with_reducible show tVs _ _ _ _ _ _); walk_at "yA")
  | ((with_reducible show tA _ _ _ _ _ _); walk_at "yA")
  | ((with_reducible show tOo _ _ _ _ _ _); walk_at "yA")
  | walk_at "yO")
local macro_rules | `(tactic| walk_at "z") => `(tactic| (fail_if_success (with_reducible show tS _ _ _ (tSeq (tIfS _ _ _) _) _ _); walk_at "y"))
local macro_rules | `(tactic| walk_at "smb") => `(tactic| first
  | assumption
  | exact (show Sm 64 _ by unfold Sm; decide)
  | (apply Sm.mul <;> walk_at "smb")
  | (apply Sm.add2 <;> walk_at "smb")
  | (apply Sm.sub2 <;> walk_at "smb")
  | (apply Sm.neg <;> walk_at "smb"))
local macro_rules | `(tactic| walk_at "mok") => `(tactic| exact mulOk (by walk_at "smb") (by walk_at "smb") (by decide) (by decide) (by decide))

namespace K02
open PySem PySem.Spec PyProof.Rows L2 Y Wd TL Tx
section
variable {P : Program} {w : World} {K : PySem.W.Frag} {mg : Str → Option Value} {base : Heap} {f : Addr} {fd : FuncData}
theorem add_str {x y : Str} {R : Res → Prop} (hl : x.length + y.length ≤ sizeLine) (h : R (.val (.str (x ++ y)))) : AddD (.str x) (.str y) R := .inr (.inl ⟨x, y, rfl, rfl, hl, h⟩)
theorem ok_part_text (B : Bl mg) (d_figures_of : Dfn P w K mg base CX0 "figures_of" ["number"] 1 fs_figures_of) (F : Fun K "part_text" "part_text" s_part_text f fd) : FnOk P w K mg base CX0 2 f fd ["part"] (spD K fs_part_text) := by
  refine fn0 F sc_part_text (fun ds R Ex ⟨d, _, h, _⟩ => by rw [h]; rfl) fun cdv A outer s H E hr => ⟨_, (pss_cons (ps_asg (pv 0) (pg_tup rfl (pgs_cons (pg_name (i := 1) sc_part_text.nd rfl (by first | exact .inl rfl | exact .inr rfl)) (pgs_cons (pg_name (i := 2) sc_part_text.nd rfl (by first | exact .inl rfl | exact .inr rfl)) pgs_nil))))
      (pss_cons (ps_set (i := 3) sc_part_text.nd rfl (by first | exact .inl rfl | exact .inr rfl) (pe_dK d_figures_of hr (pa_cons (pe_callB call_abs (by rfl) B.bAbs (by decide +kernel) (pa_cons (pv 1) pa_nil)) pa_nil)))
      (pss_cons (ps_if (pt_cmpR op_lt (pv 1) pe_int (nomark _)) (pss_one (ps_set (i := 3) sc_part_text.nd rfl (by first | exact .inl rfl | exact .inr rfl) (pe_op op_addU pe_str (pv 3)))) pss_nil)
      (pss_cons (ps_if (pt_cmpR (op_eqK (K := K) hr) (pv 2) pe_int (nomark _)) (pss_one (ps_ret (pv 3))) pss_nil)
      (pss_one (ps_ret (pe_joined (.cons (pe_fmt (pv 3)) (.cons pe_str (.cons (pe_fmt (pe_dK d_figures_of hr (pa_cons (pv 2) pa_nil))) .nil)))))))))), fun ds R Ex ⟨a, b, hd, ⟨b0, ha, hb⟩, h⟩ => ?_⟩
  subst hd
  (try dsimp only [cxOf, Cx.nox, Cx.wish]); change tS K _ _ _ [.val (pt a b), .emp, .emp, .emp] _
  generalize hM : (10 : Nat) ^ 60 = M at ha hb
  repeat walk_at "y"
  refine e_call (fun _ => .nil) ?_
  repeat walk_at "y"
  refine ⟨by rw [hM]; exact ha, ?_⟩
  have ea := tl_num a.natAbs
  have na := numL_len (k := 60) (by decide) (hM ▸ ha)
  have nb := numL_len (k := 60) (by decide) (hM ▸ hb)
  rw [← ea] at na
  generalize Str.ofString (toString ((a.natAbs : Nat) : Int)) = y1 at ea na
  have l1 : y1.length ≤ 60 := by
    rw [len_tl]
    exact na
  repeat ((fail_if_success (with_reducible show tS _ _ _ (tSeq (tIfS _ _ _) _) _ _)); walk_at "y")
  refine s_seqJ (fun ρ => ∃ y : Str, ρ = [.val (pt a b), .val (.int a), .val (.int b), .val (.str y)] ∧ y.length ≤ 61 ∧ tl y = sgn a ++ numL a.natAbs) ?_ ?_
  · repeat walk_at "y"
    refine br2 (fun c => ?_) fun c => ?_
    · repeat walk_at "y"
      refine add_str (small_len' (show 1 + y1.length ≤ _ by omega)) ?_
      repeat walk_at "y"
      refine ⟨?_, ?_⟩
      · rw [len_tl, tl_append, List.length_append, ← len_tl y1]
        show 1 + y1.length ≤ 61
        omega
      · rw [tl_append, ea]
        unfold sgn
        rw [if_pos c]
        rfl
    · repeat walk_at "y"
      refine ⟨by omega, ?_⟩
      rw [ea]
      unfold sgn
      rw [if_neg c]
      rfl
  · rintro ρ' ⟨y, rfl, ly, ey⟩
    repeat walk_at "y"
    refine br2 (fun c => ?_) fun c => ?_
    · repeat walk_at "y"
      refine h y ?_
      rw [ey]
      unfold ptL
      rw [if_pos c, List.append_nil]
    · repeat walk_at "y"
      rw [tJD]
      refine e_fmt ?_
      repeat walk_at "y"
      refine .inl ⟨y, rfl, small_len' (by omega), ?_⟩
      repeat walk_at "y"
      refine ⟨by rw [len_tl, tl_append, List.length_append, ← len_tl y]; exact small_len' (show 0 + y.length ≤ _ by omega), ?_⟩
      rw [tJD]
      repeat walk_at "y"
      have l3 : (Str.empty ++ y ++ Str.ofString "/").length ≤ 62 := by
        rw [len_tl, tl_append, tl_append, List.length_append, List.length_append, ← len_tl y]
        show 0 + y.length + 1 ≤ 62
        omega
      refine ⟨small_len' (by omega), ?_⟩
      rw [tJD]
      refine e_fmt ?_
      refine e_call (fun _ => .nil) ?_
      repeat walk_at "y"
      have eb := tl_num b.toNat
      rw [Int.toNat_of_nonneg (by omega)] at eb
      refine ⟨b.toNat, by rw [Int.toNat_of_nonneg (by omega)]; rfl, by rw [hM]; exact hb, ?_⟩
      rw [Int.toNat_of_nonneg (by omega)]
      rw [← eb] at nb
      generalize Str.ofString (toString b) = y2 at eb nb
      have l2 : y2.length ≤ 60 := by
        rw [len_tl]
        exact nb
      repeat walk_at "y"
      refine .inl ⟨y2, rfl, small_len' (by omega), ?_⟩
      repeat walk_at "y"
      refine ⟨by rw [len_tl, tl_append, List.length_append, ← len_tl, ← len_tl]; exact small_len' (by omega), ?_⟩
      rw [tJD]
      repeat walk_at "y"
      refine h _ ?_
      rw [tl_append, tl_append, tl_append, ey, eb]
      unfold ptL
      rw [if_neg c]
      show [] ++ (sgn a ++ numL a.natAbs) ++ [47] ++ numL b.toNat = _
      simp only [List.nil_append, List.append_assoc, List.singleton_append]
end
end K02
end

section
set_option maxHeartbeats 4000000
open PySem PySem.Spec PyProof.Rows L2 Y
local macro_rules | `(tactic| walk_at "yE") => `(tactic| first
  | ((with_reducible show tE _ _ _ (tOp _ _ _) _ _); first
    | (with_reducible refine e_ix ?_)
    | (with_reducible refine e_ixS ?_)
    | (with_reducible refine e_notInS ?_)
    | (with_reducible refine e_add ?_)
    | (with_reducible refine e_catA ?_)
    | (with_reducible refine e_sub ?_)
    | (with_reducible refine e_mul ?_)
    | (with_reducible refine e_mod ?_)
    | (with_reducible refine e_fdiv ?_)
    | (with_reducible refine e_pow ?_)
    | (with_reducible refine e_shr ?_)
    | (with_reducible refine e_band ?_)
    | (with_reducible refine e_lt ?_)
    | (with_reducible refine e_le ?_)
    | (with_reducible refine e_gt ?_)
    | (with_reducible refine e_ge ?_)
    | (with_reducible refine e_eq ?_)
    | (with_reducible refine e_ne ?_)
    | (with_reducible refine e_isN ?_)
    | (with_reducible refine e_notN ?_)
    | (with_reducible refine e_isB ?_)
    | (with_reducible refine e_isntB ?_))
  | ((with_reducible show tE _ _ _ (tCB _ _) _ _); first
    | (with_reducible refine e_len ?_)
    | (with_reducible refine e_isX (by with_unfolding_all exact fun _ h => h) ?_)
    | (with_reducible refine e_isInt ?_)
    | (with_reducible refine e_isBool ?_)
    | (with_reducible refine e_isTup ?_)
    | (with_reducible refine e_isStr ?_)
    | (with_reducible refine e_isList ?_)
    | (with_reducible refine e_gcd ?_)
    | (with_reducible refine e_abs ?_)
    | (with_reducible refine e_max2 ?_)
    | (with_reducible refine e_intS ?_)
    | (with_reducible refine e_intB ?_)
    | (with_reducible refine e_strI ?_)
    | (with_reducible refine e_list ?_)
    | (with_reducible refine e_repr ?_)
    | (with_reducible refine e_tupL ?_)
    | (with_reducible refine e_all ?_))
  | (with_reducible refine e_val (by with_unfolding_all rfl) ?_)
  | (with_reducible refine e_own (by with_unfolding_all rfl) ?_)
  | (with_reducible refine e_int ?_)
  | (with_reducible refine e_bl ?_)
  | (with_reducible refine e_non ?_)
  | (with_reducible refine e_str ?_)
  | (with_reducible refine e_neg ?_)
  | (with_reducible refine e_and ?_)
  | (with_reducible refine e_or ?_)
  | (with_reducible refine e_not ?_)
  | (with_reducible refine e_if ?_)
  | (with_reducible refine e_chainI ?_)
  | (with_reducible refine e_tup ?_)
  | (with_reducible refine e_lst ?_)
  | (with_reducible refine e_dk0 ?_)
  | (with_reducible refine e_sl ?_)
  | (with_reducible refine e_orT ?_)
  | (with_reducible refine e_m0b ?_)
  | (with_reducible refine e_m1b ?_)
  | (with_reducible refine e_m1s ?_)
  | (with_reducible refine e_zfill ?_)
  | (with_reducible refine e_partition ?_)
  | (with_reducible refine e_split ?_)
  | (with_reducible refine e_joinRev ?_)
  | (with_reducible refine e_joined ?_)
  | (with_reducible refine e_fmt ?_)
  | (with_reducible refine e_revL ?_))
local macro_rules | `(tactic| walk_at "yS") => `(tactic| first
  | (with_reducible refine s_seq ?_)
  | (with_reducible refine s_if ?_)
  | (with_reducible refine s_retOwn (by with_unfolding_all rfl) ?_)
  | (with_reducible refine s_ret ?_)
  | (with_reducible refine s_retN ?_)
  | (with_reducible refine s_next ?_)
  | (with_reducible refine s_set ?_ (by with_unfolding_all exact Nat.le_of_ble_eq_true rfl))
  | (with_reducible refine s_asgG ?_)
  | (with_reducible refine s_parS ?_ (by with_unfolding_all exact Nat.le_of_ble_eq_true rfl) (by with_unfolding_all exact Nat.le_of_ble_eq_true rfl))
  | (with_reducible refine s_rz ?_)
  | (with_reducible refine s_appendS (by with_unfolding_all rfl) ?_)
  | (with_reducible refine s_expr ?_)
  | ((with_reducible refine s_tryKK ?_); intro W))
local macro_rules | `(tactic| walk_at "yT") => `(tactic| first
  | (with_reducible refine t_test ?_)
  | (with_reducible refine t_tru ?_)
  | (with_reducible refine t_not ?_)
  | (with_reducible refine t_and ?_)
  | (with_reducible refine t_or ?_))
local macro_rules | `(tactic| walk_at "yA") => `(tactic| first
  | (with_reducible refine vs_cons ?_)
  | (with_reducible refine vs_nil ?_)
  | (with_reducible refine a_cons ?_)
  | (with_reducible refine a_nil ?_)
  | (with_reducible refine o_none ?_)
  | (with_reducible refine o_some ?_))
local macro_rules | `(tactic| walk_at "yX") => `(tactic| first
  | ((with_reducible show ∃ _, CmpD _ _ _ ∧ _); first | refine ⟨_, cmpd_int, ?_⟩ | refine ⟨_, cmpd_str, ?_⟩ | refine ⟨_, cmpd_bl, ?_⟩)
  | ((with_reducible show ∃ _ _, _ ∧ ExcC _ _ ∧ _); refine ⟨_, _, rfl, by assumption, by assumption, ?_⟩)
  | (refine ⟨_, _, rfl, rfl, ?_⟩)
  | (refine ⟨_, _, rfl, ?_⟩)
  | (refine ⟨_, rfl, ?_⟩))
local macro_rules | `(tactic| walk_at "yN") => `(tactic| first
  | (with_reducible refine brT ?_)
  | (with_reducible refine brF ?_)
  | (with_reducible refine brT' ?_)
  | (with_reducible refine brF' ?_)
  | ((with_reducible show ((!_) = false → _) ∧ _); first | (refine brA' rfl ?_) | (refine brB' rfl ?_))
  | ((with_reducible show ((!_) = true → _) ∧ _); first | (refine brA rfl ?_) | (refine brB rfl ?_))
  | ((with_reducible show 0 < _ ∧ _); refine ⟨by first | decide | omega, ?_⟩)
  | ((with_reducible show _ ≤ sizeLine ∧ _); refine ⟨small_len (by with_unfolding_all exact Nat.le_of_ble_eq_true rfl), ?_⟩)
  | ((with_reducible show CPow _ _ ∧ _); refine ⟨⟨by decide, by decide, by decide⟩, ?_⟩)
  | ((with_reducible show CDivX _ _ ∧ _); refine ⟨⟨by decide, by decide⟩, ?_⟩)
  | ((with_reducible show 0 ≤ _ ∧ _); refine ⟨by first | decide | omega, ?_⟩)
  | ((with_reducible show _ = D.non ∧ _); refine ⟨rfl, ?_⟩))
local macro_rules | `(tactic| walk_at "yO") => `(tactic| first
  | ((with_reducible show vR _ _); first | (with_reducible refine vr_val ?_) | (with_reducible refine vr_own ?_))
  | ((with_reducible show asgR _ _); first | (with_reducible refine as_val ?_) | (with_reducible refine as_own ?_))
  | ((with_reducible show ∃ _, _); walk_at "yX")
  | ((with_reducible show _ ∧ _); walk_at "yN")
  | ((with_reducible show AddD _ _ _); first | (refine add_int ?_) | (refine add_lst (small_len' (by with_unfolding_all exact Nat.le_of_ble_eq_true rfl)) ?_))
  | ((with_reducible show MulD _ _ _); refine mul_int (by walk_at "mok") ?_)
  | (with_reducible refine ss_go (by with_unfolding_all repeat constructor) ?_)
  | (with_reducible refine g_nameS (by first | trivial | exact List.mem_cons_self | simp) (by with_unfolding_all repeat constructor) ?_)
  | (with_reducible refine g_tup (by with_unfolding_all rfl) ?_)
  | (with_reducible refine gs_cons ?_)
  | (with_reducible refine gs_nil ?_))
local macro_rules | `(tactic| walk_at "y") => `(tactic| first
  | ((with_reducible show tE _ _ _ _ _ _); walk_at "yE")
  | ((with_reducible show tS _ _ _ _ _ _); walk_at "yS")
  | ((with_reducible show tT _ _ _ _ _ _); walk_at "yT")
  | ((with_reducible show tVs _ _ _ _ _ _); walk_at "yA")
  | ((with_reducible show tA _ _ _ _ _ _); walk_at "yA")
  | ((with_reducible show tOo _ _ _ _ _ _); walk_at "yA")
  | walk_at "yO")
local macro_rules | `(tactic| walk_at "z") => `(tactic| (fail_if_success (with_reducible show tS _ _ _ (tSeq (tIfS _ _ _) _) _ _); walk_at "y"))
local macro_rules | `(tactic| walk_at "smb") => `(tactic| first
  | assumption
  | exact (show Sm 64 _ by unfold Sm; decide)
  | (apply Sm.mul <;> walk_at "smb")
  | (apply Sm.add2 <;> walk_at "smb")
  | (apply Sm.sub2 <;> walk_at "smb")
  | (apply Sm.neg <;> walk_at "smb"))
local macro_rules | `(tactic| walk_at "mok") => `(tactic| exact mulOk (by walk_at "smb") (by walk_at "smb") (by decide) (by decide) (by decide))

namespace K02
open PySem PySem.Spec PyProof.Rows L2 Y Wd TL Tx
section
variable {P : Program} {w : World} {K : PySem.W.Frag} {mg : Str → Option Value} {base : Heap} {f : Addr} {fd : FuncData}
theorem ok_law_text (B : Bl mg) (F : Fun K "_law_text" "_law_text" s__law_text f fd) : FnOk P w K mg base CX0 1 f fd ["_law_part_here"] (spD K fs_law_text) := by
  refine fn0 F sc__law_text (fun ds R Ex ⟨d, _, h, _⟩ => by rw [h]; rfl) fun cdv A outer s H E hr => ⟨_, (pss_cons (ps_set (i := 1) sc__law_text.nd rfl (by first | exact .inl rfl | exact .inr rfl) (pe_callTy call_str_int (by rfl) B.bStr (by decide +kernel) (pa_cons (pe_ix (ix_K (K := K)) (pv 0) pe_int (fun _ _ => rfl)) pa_nil)))
      (pss_cons (ps_if (pt_cmpR (op_neK (K := K) hr) (pe_ix (ix_K (K := K)) (pv 0) pe_int (fun _ _ => rfl)) pe_int (nomark _)) (pss_one (ps_set (i := 1) sc__law_text.nd rfl (by first | exact .inl rfl | exact .inr rfl) (pe_op op_addU (pe_op op_addU (pv 1) pe_str) (pe_callTy call_str_int (by rfl) B.bStr (by decide +kernel) (pa_cons (pe_ix (ix_K (K := K)) (pv 0) pe_int (fun _ _ => rfl)) pa_nil))))) pss_nil)
      (pss_one (ps_ret (pv 1))))), fun ds R Ex ⟨a, b, hd, ⟨b0, ha, hb⟩, h⟩ => ?_⟩
  subst hd
  (try dsimp only [cxOf, Cx.nox, Cx.wish]); change tS K _ _ _ [.val (pt a b), .emp] _
  have la : a.natAbs.log2 < 1920 := PySem.Flt.log2_lt_of (by decide) (Nat.lt_of_lt_of_le ha (Nat.le_trans (show 10 ^ 60 ≤ 2 ^ 200 by decide) (Nat.pow_le_pow_right (by decide) (by decide))))
  have lb : b.natAbs.log2 < 1920 := PySem.Flt.log2_lt_of (by decide) (Nat.lt_of_lt_of_le (show b.natAbs < 10 ^ 60 by omega) (Nat.le_trans (show 10 ^ 60 ≤ 2 ^ 200 by decide) (Nat.pow_le_pow_right (by decide) (by decide))))
  have na := numL_len (k := 60) (by decide) ha
  have nb := numL_len (k := 60) (by decide) hb
  clear ha hb
  iterate 6 walk_at "y"
  refine ⟨0, .int a, rfl, atI_nat (j := 0) rfl, ⟨a, rfl, la, ?_⟩⟩
  have ea := tl_int a
  generalize Str.ofString (toString a) = y1 at ea
  have l1 : y1.length ≤ 61 := by
    rw [len_tl, ea, List.length_append]
    unfold sgn
    split <;> simp only [List.length_cons, List.length_nil] <;> omega
  repeat walk_at "y"
  refine br2n (fun hb1 => ?_) fun hb1 => ?_
  · have eb := tl_int b
    have sb : sgn b = [] := if_neg (by omega)
    rw [sb, List.nil_append, show b.natAbs = b.toNat by omega] at eb
    repeat walk_at "y"
    refine add_str (small_len' (show y1.length + 1 ≤ _ by omega)) ?_
    iterate 3 walk_at "y"
    refine e_int ?_
    refine ⟨1, .int b, rfl, atI_nat (j := 1) rfl, ⟨b, rfl, lb, ?_⟩⟩
    generalize Str.ofString (toString b) = y2 at eb
    have l2 : y2.length ≤ 61 := by
      rw [len_tl, eb]
      omega
    refine add_str (small_len' (by rw [len_tl, tl_append, List.length_append, ← len_tl]; show y1.length + 1 + y2.length ≤ _; omega)) ?_
    repeat walk_at "y"
    refine h _ ?_
    rw [tl_append, tl_append, ea, eb]
    unfold ptL
    rw [if_neg hb1, List.append_assoc]
    rfl
  · repeat walk_at "y"
    refine h y1 ?_
    rw [ea]
    unfold ptL
    rw [if_pos hb1, List.append_nil]
end
end K02
end

section
set_option maxHeartbeats 4000000
open PySem PySem.Spec PyProof.Rows L2 Y
local macro_rules | `(tactic| walk_at "yE") => `(tactic| first
  | ((with_reducible show tE _ _ _ (tOp _ _ _) _ _); first
    | (with_reducible refine e_ix ?_)
    | (with_reducible refine e_ixS ?_)
    | (with_reducible refine e_notInS ?_)
    | (with_reducible refine e_add ?_)
    | (with_reducible refine e_catA ?_)
    | (with_reducible refine e_sub ?_)
    | (with_reducible refine e_mul ?_)
    | (with_reducible refine e_mod ?_)
    | (with_reducible refine e_fdiv ?_)
    | (with_reducible refine e_pow ?_)
    | (with_reducible refine e_shr ?_)
    | (with_reducible refine e_band ?_)
    | (with_reducible refine e_lt ?_)
    | (with_reducible refine e_le ?_)
    | (with_reducible refine e_gt ?_)
    | (with_reducible refine e_ge ?_)
    | (with_reducible refine e_eq ?_)
    | (with_reducible refine e_ne ?_)
    | (with_reducible refine e_isN ?_)
    | (with_reducible refine e_notN ?_)
    | (with_reducible refine e_isB ?_)
    | (with_reducible refine e_isntB ?_))
  | ((with_reducible show tE _ _ _ (tCB _ _) _ _); first
    | (with_reducible refine e_len ?_)
    | (with_reducible refine e_isX (by with_unfolding_all exact fun _ h => h) ?_)
    | (with_reducible refine e_isInt ?_)
    | (with_reducible refine e_isBool ?_)
    | (with_reducible refine e_isTup ?_)
    | (with_reducible refine e_isStr ?_)
    | (with_reducible refine e_isList ?_)
    | (with_reducible refine e_gcd ?_)
    | (with_reducible refine e_abs ?_)
    | (with_reducible refine e_max2 ?_)
    | (with_reducible refine e_intS ?_)
    | (with_reducible refine e_intB ?_)
    | (with_reducible refine e_strI ?_)
    | (with_reducible refine e_list ?_)
    | (with_reducible refine e_repr ?_)
    | (with_reducible refine e_tupL ?_)
    | (with_reducible refine e_all ?_))
  | (with_reducible refine e_val (by with_unfolding_all rfl) ?_)
  | (with_reducible refine e_own (by with_unfolding_all rfl) ?_)
  | (with_reducible refine e_int ?_)
  | (with_reducible refine e_bl ?_)
  | (with_reducible refine e_non ?_)
  | (with_reducible refine e_str ?_)
  | (with_reducible refine e_neg ?_)
  | (with_reducible refine e_and ?_)
  | (with_reducible refine e_or ?_)
  | (with_reducible refine e_not ?_)
  | (with_reducible refine e_if ?_)
  | (with_reducible refine e_chainI ?_)
  | (with_reducible refine e_tup ?_)
  | (with_reducible refine e_lst ?_)
  | (with_reducible refine e_dk0 ?_)
  | (with_reducible refine e_sl ?_)
  | (with_reducible refine e_orT ?_)
  | (with_reducible refine e_m0b ?_)
  | (with_reducible refine e_m1b ?_)
  | (with_reducible refine e_m1s ?_)
  | (with_reducible refine e_zfill ?_)
  | (with_reducible refine e_partition ?_)
  | (with_reducible refine e_split ?_)
  | (with_reducible refine e_joinRev ?_)
  | (with_reducible refine e_joined ?_)
  | (with_reducible refine e_fmt ?_)
  | (with_reducible refine e_revL ?_))
local macro_rules | `(tactic| walk_at "yS") => `(tactic| first
  | (with_reducible refine s_seq ?_)
  | (with_reducible refine s_if ?_)
  | (with_reducible refine s_retOwn (by with_unfolding_all rfl) ?_)
  | (with_reducible refine s_ret ?_)
  | (with_reducible refine s_retN ?_)
  | (with_reducible refine s_next ?_)
  | (with_reducible refine s_set ?_ (by with_unfolding_all exact Nat.le_of_ble_eq_true rfl))
  | (with_reducible refine s_asgG ?_)
  | (with_reducible refine s_parS ?_ (by with_unfolding_all exact Nat.le_of_ble_eq_true rfl) (by with_unfolding_all exact Nat.le_of_ble_eq_true rfl))
  | (with_reducible refine s_rz ?_)
  | (with_reducible refine s_appendS (by with_unfolding_all rfl) ?_)
  | (with_reducible refine s_expr ?_)
  | ((with_reducible refine s_tryKK ?_); intro W))
local macro_rules | `(tactic| walk_at "yT") => `(tactic| first
  | (with_reducible refine t_test ?_)
  | (with_reducible refine t_tru ?_)
  | (with_reducible refine t_not ?_)
  | (with_reducible refine t_and ?_)
  | (with_reducible refine t_or ?_))
local macro_rules | `(tactic| walk_at "yA") => `(tactic| first
  | (with_reducible refine vs_cons ?_)
  | (with_reducible refine vs_nil ?_)
  | (with_reducible refine a_cons ?_)
  | (with_reducible refine a_nil ?_)
  | (with_reducible refine o_none ?_)
  | (with_reducible refine o_some ?_))
local macro_rules | `(tactic| walk_at "yX") => `(tactic| first
  | ((with_reducible show ∃ _, CmpD _ _ _ ∧ _); first | refine ⟨_, cmpd_int, ?_⟩ | refine ⟨_, cmpd_str, ?_⟩ | refine ⟨_, cmpd_bl, ?_⟩)
  | ((with_reducible show ∃ _ _, _ ∧ ExcC _ _ ∧ _); refine ⟨_, _, rfl, by assumption, by assumption, ?_⟩)
  | (refine ⟨_, _, rfl, rfl, ?_⟩)
  | (refine ⟨_, _, rfl, ?_⟩)
  | (refine ⟨_, rfl, ?_⟩))
local macro_rules | `(tactic| walk_at "yN") => `(tactic| first
  | (with_reducible refine brT ?_)
  | (with_reducible refine brF ?_)
  | (with_reducible refine brT' ?_)
  | (with_reducible refine brF' ?_)
  | ((with_reducible show ((!_) = false → _) ∧ _); first | (refine brA' rfl ?_) | (refine brB' rfl ?_))
  | ((with_reducible show ((!_) = true → _) ∧ _); first | (refine brA rfl ?_) | (refine brB rfl ?_))
  | ((with_reducible show 0 < _ ∧ _); refine ⟨by first | decide | omega, ?_⟩)
  | ((with_reducible show _ ≤ sizeLine ∧ _); refine ⟨small_len (by with_unfolding_all exact Nat.le_of_ble_eq_true rfl), ?_⟩)
  | ((with_reducible show CPow _ _ ∧ _); refine ⟨⟨by decide, by decide, by decide⟩, ?_⟩)
  | ((with_reducible show CDivX _ _ ∧ _); refine ⟨⟨by decide, by decide⟩, ?_⟩)
  | ((with_reducible show 0 ≤ _ ∧ _); refine ⟨by first | decide | omega, ?_⟩)
  | ((with_reducible show _ = D.non ∧ _); refine ⟨rfl, ?_⟩))
local macro_rules | `(tactic| walk_at "yO") => `(tactic| first
  | ((with_reducible show vR _ _); first | (with_reducible refine vr_val ?_) | (with_reducible refine vr_own ?_))
  | ((with_reducible show asgR _ _); first | (with_reducible refine as_val ?_) | (with_reducible refine as_own ?_))
  | ((with_reducible show ∃ _, _); walk_at "yX")
  | ((with_reducible show _ ∧ _); walk_at "yN")
  | ((with_reducible show AddD _ _ _); first | (refine add_int ?_) | (refine add_lst (small_len' (by with_unfolding_all exact Nat.le_of_ble_eq_true rfl)) ?_))
  | ((with_reducible show MulD _ _ _); refine mul_int (by walk_at "mok") ?_)
  | (with_reducible refine ss_go (by with_unfolding_all repeat constructor) ?_)
  | (with_reducible refine g_nameS (by first | trivial | exact List.mem_cons_self | simp) (by with_unfolding_all repeat constructor) ?_)
  | (with_reducible refine g_tup (by with_unfolding_all rfl) ?_)
  | (with_reducible refine gs_cons ?_)
  | (with_reducible refine gs_nil ?_))
local macro_rules | `(tactic| walk_at "y") => `(tactic| first
  | ((with_reducible show tE _ _ _ _ _ _); walk_at "yE")
  | ((with_reducible show tS _ _ _ _ _ _); walk_at "yS")
  | ((with_reducible show tT _ _ _ _ _ _); walk_at "yT")
  | ((with_reducible show tVs _ _ _ _ _ _); walk_at "yA")
  | ((with_reducible show tA _ _ _ _ _ _); walk_at "yA")
  | ((with_reducible show tOo _ _ _ _ _ _); walk_at "yA")
  | walk_at "yO")
local macro_rules | `(tactic| walk_at "z") => `(tactic| (fail_if_success (with_reducible show tS _ _ _ (tSeq (tIfS _ _ _) _) _ _); walk_at "y"))
local macro_rules | `(tactic| walk_at "smb") => `(tactic| first
  | assumption
  | exact (show Sm 64 _ by unfold Sm; decide)
  | (apply Sm.mul <;> walk_at "smb")
  | (apply Sm.add2 <;> walk_at "smb")
  | (apply Sm.sub2 <;> walk_at "smb")
  | (apply Sm.neg <;> walk_at "smb"))
local macro_rules | `(tactic| walk_at "mok") => `(tactic| exact mulOk (by walk_at "smb") (by walk_at "smb") (by decide) (by decide) (by decide))

namespace K02
open PySem PySem.Spec PyProof.Rows L2 Y Wd TL Tx
section
variable {P : Program} {w : World} {K : PySem.W.Frag} {mg : Str → Option Value} {base : Heap} {f : Addr} {fd : FuncData}
theorem cmp_none {xs : List D} (h1 : plainAll xs = true) (h2 : depAll xs ≤ 60) : CmpD (.lst xs) (.lst []) xs.isEmpty := by
  refine ⟨⟨h1, rfl, ?_⟩, by cases xs <;> rfl⟩
  refine Nat.le_trans (Nat.min_le_left _ _) ?_
  show depAll xs + 1 ≤ 64
  omega
theorem strs_plain : ∀ {xs : List D}, (∀ d ∈ xs, ∃ y, d = .str y) → plainAll xs = true ∧ depAll xs = 0
  | [], _ => ⟨rfl, rfl⟩
  | d :: xs, h => by
    obtain ⟨y, rfl⟩ := h _ List.mem_cons_self
    obtain ⟨a, b⟩ := strs_plain fun d hd => h d (List.mem_cons_of_mem _ hd)
    refine ⟨a, ?_⟩
    show max 0 (depAll xs) = 0
    omega
theorem ok_law_figures (B : Bl mg) (F : Fun K "_law_figures" "_law_figures" s__law_figures f fd) : FnOk P w K mg base CX0 1 f fd ["_law_text_here"] (spD K fs_law_figures) := by
  refine fn0 F sc__law_figures (fun ds R Ex ⟨d, h, _⟩ => by rw [h]; rfl) fun cdv A outer s H E hr => ⟨_, (pss_cons (ps_if (PW.pt (pw_or (pt_cmpR (op_eqK (K := K) hr) (pe_callB (call_lenK (K := K)) (by rfl) B.bLen (by decide +kernel) (pa_cons (pv 0) pa_nil)) pe_int (nomark _)) (pw_or1 (PW.pt (pw_and (pt_cmpR op_gt (pe_callB (call_lenK (K := K)) (by rfl) B.bLen (by decide +kernel) (pa_cons (pv 0) pa_nil)) pe_int (nomark _)) (pw_and1 (pt_cmpR (op_eqK (K := K) hr) (pe_item_str (pv 0) pe_int (fun _ _ => rfl)) pe_str (nomark _)))))))) (pss_one (ps_ret pe_bl)) pss_nil)
      (pss_one (ps_ret (pe_cmpR (op_eqK (K := K) hr) (pe_lc (own := [("_law_sign", 1)]) rfl sc__law_figures.nd (pi_str (pv 0)) (blkOk_by (N := NM__law_figures) (sc := defScope s__law_figures) (by decide +kernel)) (fun _ _ _ _ _ => (pg_name (i := 1) sc__law_figures.nd rfl (by first | exact .inl rfl | exact .inr rfl))) (fun _ _ _ _ _ => (pts_one (pt_cmpR op_notInS (pv 1) pe_str (by rfl)))) (fun _ _ _ _ _ => (pv 1))) (pe_lst pa_nil) (nomark _))))), fun ds R Ex ⟨z, hd, hz, h⟩ => ?_⟩
  subst hd
  (try dsimp only [cxOf, Cx.nox, Cx.wish]); change tS K _ _ _ [.val (.str z), .emp] _
  iterate 6 walk_at "y"
  refine e_val (by with_unfolding_all rfl) ?_
  refine ⟨z.length, ⟨small_len' (by omega), rfl⟩, ?_⟩
  have lz := len_tl z
  repeat walk_at "y"
  refine ⟨fun c => ?_, fun c => ?_⟩
  · have n0 : (z.length : Int) ≠ 0 := of_decide_eq_false c
    repeat walk_at "y"
    refine ⟨z.length, ⟨small_len' (by omega), rfl⟩, ?_⟩
    repeat walk_at "y"
    obtain ⟨c0, cr, ec⟩ : ∃ c0 cr, tl z = c0 :: cr := by
      cases q : tl z with
      | nil =>
        rw [q] at lz
        exact absurd (congrArg (fun n : Nat => (n : Int)) lz) n0
      | cons a r => exact ⟨a, r, rfl⟩
    have a0 : z.cps[(0 : Int).toNat]? = some c0 := by
      show z.cps[0]? = some c0
      rw [← Array.getElem?_toList]
      show (tl z)[0]? = some c0
      rw [ec]
      rfl
    have hl : (z.length : Int) = ((cr.length + 1 : Nat) : Int) := by
      rw [lz, ec]
      rfl
    have fg : figs (tl z) = ((tl z).all (fun c => decide (48 ≤ c) && decide (c ≤ 57)) && (decide (tl z = [48]) || !decide (c0 = 48))) := by
      unfold figs
      rw [ec]
      have e1 : decide ((c0 :: cr).head? = some 48) = decide (c0 = 48) := decide_eq_decide.mpr ⟨fun z => Option.some.inj z, fun z => by rw [z]; rfl⟩
      rw [e1, decide_eq_true (show c0 :: cr ≠ [] from fun z => by cases z), Bool.true_and]
    have ez : decide ((⟨#[c0]⟩ : Str) = Str.ofString "0") = decide (c0 = 48) := decide_eq_decide.mpr ⟨fun z => by
      have := congrArg tl z
      exact (List.cons.inj this).1, fun z => by rw [z]; rfl⟩
    have rest : ((tl z = [48]) ∨ c0 ≠ 48) → tS K (fun c _ => Ex c) (fun _ => E) (tRet (tOp (rEqU K) (tLc (iStr (tVar 0)) (gName 1) (tTest (tOp rNotInS (tVar 1) (tC (V.str (Str.ofString "0123456789"))))) (tVar 1) (List.map (fun x => x.snd) [(Str.ofString "_law_sign", 1)])) (tLst tNil))) [.val (.str z), .emp] (endDE R) := fun ok => by
      repeat walk_at "y"
      refine e_lcF (fun d => d) (fun d => match d with | .str y => !decide (y.cps.toList.headD 0 ∈ (Str.ofString "0123456789").cps.toList) | _ => false) (tIt.ic (i_str ?_))
      repeat walk_at "y"
      refine ⟨small_len' (by rw [signs_len]; show z.length ≤ _; omega), fun d hd => ?_, ?_⟩
      · obtain ⟨c, _, rfl⟩ := List.mem_map.mp hd
        repeat walk_at "y"
        refine ⟨rfl, fun _ => ?_⟩
        repeat walk_at "y"
        rfl
      · repeat walk_at "y"
        rw [List.map_id']
        have hs : ∀ d ∈ (signsD z).filter (fun d => match d with | .str y => !decide (y.cps.toList.headD 0 ∈ (Str.ofString "0123456789").cps.toList) | _ => false), ∃ y, d = .str y := fun d hd => by
          obtain ⟨c, _, rfl⟩ := List.mem_map.mp (List.mem_filter.mp hd).1
          exact ⟨_, rfl⟩
        refine ⟨_, cmp_none (strs_plain hs).1 (by rw [(strs_plain hs).2]; decide), ?_⟩
        have e : ((signsD z).filter (fun d => match d with | .str y => !decide (y.cps.toList.headD 0 ∈ (Str.ofString "0123456789").cps.toList) | _ => false)).isEmpty = figs (tl z) := by
          rw [fg]
          have o : (decide (tl z = [48]) || !decide (c0 = 48)) = true := by
            rcases ok with e | e
            · rw [decide_eq_true e]
              rfl
            · rw [decide_eq_false e, Bool.or_comm]
              rfl
          rw [o, Bool.and_true]
          unfold signsD
          show (List.filter _ ((tl z).map fun c => D.str ⟨#[c]⟩)).isEmpty = _
          generalize tl z = l
          clear fg ok o hs lz ec a0 h
          induction l with
          | nil => rfl
          | cons c r ih =>
            have dg : decide (c ∈ (Str.ofString "0123456789").cps.toList) = (decide (48 ≤ c) && decide (c ≤ 57)) := by
              rw [← Bool.decide_and]
              refine decide_eq_decide.mpr ?_
              show c ∈ [48, 49, 50, 51, 52, 53, 54, 55, 56, 57] ↔ _
              simp only [List.mem_cons, List.not_mem_nil, or_false]
              omega
            rw [List.map_cons, List.all_cons, ← dg]
            cases q : decide (c ∈ (Str.ofString "0123456789").cps.toList) with
            | true =>
              rw [List.filter_cons_of_neg (by show ¬ (!decide (c ∈ (Str.ofString "0123456789").cps.toList)) = true; rw [q]; decide), Bool.true_and]
              exact ih
            | false =>
              rw [List.filter_cons_of_pos (by show (!decide (c ∈ (Str.ofString "0123456789").cps.toList)) = true; rw [q]; rfl), Bool.false_and]
              rfl
        rw [e]
        exact h
    refine br2 (fun c1 => ?_) fun c1 => ?_
    · repeat walk_at "y"
      refine ⟨0, c0, rfl, by decide, by decide, by omega, a0, ?_⟩
      repeat walk_at "y"
      rw [ez]
      refine br2 (fun c2 => ?_) fun c2 => ?_
      · repeat walk_at "y"
        have ff : figs (tl z) = false := by
          rw [fg, ec, decide_eq_false (show ¬ c0 :: cr = [48] from fun q => by
            rw [(List.cons.inj q).2] at hl
            simp only [List.length_nil] at hl
            omega), decide_eq_true c2]
          cases (c0 :: cr).all (fun c => decide (48 ≤ c) && decide (c ≤ 57)) <;> rfl
        rw [ff] at h
        exact h
      · refine s_next ?_
        exact rest (.inr c2)
    · refine ⟨fun z => Bool.noConfusion z, fun _ => ?_⟩
      refine s_next ?_
      have c3 : cr = [] := List.eq_nil_of_length_eq_zero (by omega)
      by_cases c4 : c0 = 48
      · exact rest (.inl (by rw [ec, c3, c4]))
      · exact rest (.inr c4)
  · repeat walk_at "y"
    have e : tl z = [] := List.eq_nil_of_length_eq_zero (by have := of_decide_eq_true c; omega)
    rw [e] at h
    exact h
end
end K02
end

section
set_option maxHeartbeats 4000000
open PySem PySem.Spec PyProof.Rows L2 Y
local macro_rules | `(tactic| walk_at "yE") => `(tactic| first
  | ((with_reducible show tE _ _ _ (tOp _ _ _) _ _); first
    | (with_reducible refine e_ix ?_)
    | (with_reducible refine e_ixS ?_)
    | (with_reducible refine e_notInS ?_)
    | (with_reducible refine e_add ?_)
    | (with_reducible refine e_catA ?_)
    | (with_reducible refine e_sub ?_)
    | (with_reducible refine e_mul ?_)
    | (with_reducible refine e_mod ?_)
    | (with_reducible refine e_fdiv ?_)
    | (with_reducible refine e_pow ?_)
    | (with_reducible refine e_shr ?_)
    | (with_reducible refine e_band ?_)
    | (with_reducible refine e_lt ?_)
    | (with_reducible refine e_le ?_)
    | (with_reducible refine e_gt ?_)
    | (with_reducible refine e_ge ?_)
    | (with_reducible refine e_eq ?_)
    | (with_reducible refine e_ne ?_)
    | (with_reducible refine e_isN ?_)
    | (with_reducible refine e_notN ?_)
    | (with_reducible refine e_isB ?_)
    | (with_reducible refine e_isntB ?_))
  | ((with_reducible show tE _ _ _ (tCB _ _) _ _); first
    | (with_reducible refine e_len ?_)
    | (with_reducible refine e_isX (by with_unfolding_all exact fun _ h => h) ?_)
    | (with_reducible refine e_isInt ?_)
    | (with_reducible refine e_isBool ?_)
    | (with_reducible refine e_isTup ?_)
    | (with_reducible refine e_isStr ?_)
    | (with_reducible refine e_isList ?_)
    | (with_reducible refine e_gcd ?_)
    | (with_reducible refine e_abs ?_)
    | (with_reducible refine e_max2 ?_)
    | (with_reducible refine e_intS ?_)
    | (with_reducible refine e_intB ?_)
    | (with_reducible refine e_strI ?_)
    | (with_reducible refine e_list ?_)
    | (with_reducible refine e_repr ?_)
    | (with_reducible refine e_tupL ?_)
    | (with_reducible refine e_all ?_))
  | (with_reducible refine e_val (by with_unfolding_all rfl) ?_)
  | (with_reducible refine e_own (by with_unfolding_all rfl) ?_)
  | (with_reducible refine e_int ?_)
  | (with_reducible refine e_bl ?_)
  | (with_reducible refine e_non ?_)
  | (with_reducible refine e_str ?_)
  | (with_reducible refine e_neg ?_)
  | (with_reducible refine e_and ?_)
  | (with_reducible refine e_or ?_)
  | (with_reducible refine e_not ?_)
  | (with_reducible refine e_if ?_)
  | (with_reducible refine e_chainI ?_)
  | (with_reducible refine e_tup ?_)
  | (with_reducible refine e_lst ?_)
  | (with_reducible refine e_dk0 ?_)
  | (with_reducible refine e_sl ?_)
  | (with_reducible refine e_orT ?_)
  | (with_reducible refine e_m0b ?_)
  | (with_reducible refine e_m1b ?_)
  | (with_reducible refine e_m1s ?_)
  | (with_reducible refine e_zfill ?_)
  | (with_reducible refine e_partition ?_)
  | (with_reducible refine e_split ?_)
  | (with_reducible refine e_joinRev ?_)
  | (with_reducible refine e_joined ?_)
  | (with_reducible refine e_fmt ?_)
  | (with_reducible refine e_revL ?_))
local macro_rules | `(tactic| walk_at "yS") => `(tactic| first
  | (with_reducible refine s_seq ?_)
  | (with_reducible refine s_if ?_)
  | (with_reducible refine s_retOwn (by with_unfolding_all rfl) ?_)
  | (with_reducible refine s_ret ?_)
  | (with_reducible refine s_retN ?_)
  | (with_reducible refine s_next ?_)
  | (with_reducible refine s_set ?_ (by with_unfolding_all exact Nat.le_of_ble_eq_true rfl))
  | (with_reducible refine s_asgG ?_)
  | (with_reducible refine s_parS ?_ (by with_unfolding_all exact Nat.le_of_ble_eq_true rfl) (by with_unfolding_all exact Nat.le_of_ble_eq_true rfl))
  | (with_reducible refine s_rz ?_)
  | (with_reducible refine s_appendS (by with_unfolding_all rfl) ?_)
  | (with_reducible refine s_expr ?_)
  | ((with_reducible refine s_tryKK ?_); intro W))
local macro_rules | `(tactic| walk_at "yT") => `(tactic| first
  | (with_reducible refine t_test ?_)
  | (with_reducible refine t_tru ?_)
  | (with_reducible refine t_not ?_)
  | (with_reducible refine t_and ?_)
  | (with_reducible refine t_or ?_))
local macro_rules | `(tactic| walk_at "yA") => `(tactic| first
  | (with_reducible refine vs_cons ?_)
  | (with_reducible refine vs_nil ?_)
  | (with_reducible refine a_cons ?_)
  | (with_reducible refine a_nil ?_)
  | (with_reducible refine o_none ?_)
  | (with_reducible refine o_some ?_))
local macro_rules | `(tactic| walk_at "yX") => `(tactic| first
  | ((with_reducible show ∃ _, CmpD _ _ _ ∧ _); first | refine ⟨_, cmpd_int, ?_⟩ | refine ⟨_, cmpd_str, ?_⟩ | refine ⟨_, cmpd_bl, ?_⟩)
  | ((with_reducible show ∃ _ _, _ ∧ ExcC _ _ ∧ _); refine ⟨_, _, rfl, by assumption, by assumption, ?_⟩)
  | (refine ⟨_, _, rfl, rfl, ?_⟩)
  | (refine ⟨_, _, rfl, ?_⟩)
  | (refine ⟨_, rfl, ?_⟩))
local macro_rules | `(tactic| walk_at "yN") => `(tactic| first
  | (with_reducible refine brT ?_)
  | (with_reducible refine brF ?_)
  | (with_reducible refine brT' ?_)
  | (with_reducible refine brF' ?_)
  | ((with_reducible show ((!_) = false → _) ∧ _); first | (refine brA' rfl ?_) | (refine brB' rfl ?_))
  | ((with_reducible show ((!_) = true → _) ∧ _); first | (refine brA rfl ?_) | (refine brB rfl ?_))
  | ((with_reducible show 0 < _ ∧ _); refine ⟨by first | decide | omega, ?_⟩)
  | ((with_reducible show _ ≤ sizeLine ∧ _); refine ⟨small_len (by with_unfolding_all exact Nat.le_of_ble_eq_true rfl), ?_⟩)
  | ((with_reducible show CPow _ _ ∧ _); refine ⟨⟨by decide, by decide, by decide⟩, ?_⟩)
  | ((with_reducible show CDivX _ _ ∧ _); refine ⟨⟨by decide, by decide⟩, ?_⟩)
  | ((with_reducible show 0 ≤ _ ∧ _); refine ⟨by first | decide | omega, ?_⟩)
  | ((with_reducible show _ = D.non ∧ _); refine ⟨rfl, ?_⟩))
local macro_rules | `(tactic| walk_at "yO") => `(tactic| first
  | ((with_reducible show vR _ _); first | (with_reducible refine vr_val ?_) | (with_reducible refine vr_own ?_))
  | ((with_reducible show asgR _ _); first | (with_reducible refine as_val ?_) | (with_reducible refine as_own ?_))
  | ((with_reducible show ∃ _, _); walk_at "yX")
  | ((with_reducible show _ ∧ _); walk_at "yN")
  | ((with_reducible show AddD _ _ _); first | (refine add_int ?_) | (refine add_lst (small_len' (by with_unfolding_all exact Nat.le_of_ble_eq_true rfl)) ?_))
  | ((with_reducible show MulD _ _ _); refine mul_int (by walk_at "mok") ?_)
  | (with_reducible refine ss_go (by with_unfolding_all repeat constructor) ?_)
  | (with_reducible refine g_nameS (by first | trivial | exact List.mem_cons_self | simp) (by with_unfolding_all repeat constructor) ?_)
  | (with_reducible refine g_tup (by with_unfolding_all rfl) ?_)
  | (with_reducible refine gs_cons ?_)
  | (with_reducible refine gs_nil ?_))
local macro_rules | `(tactic| walk_at "y") => `(tactic| first
  | ((with_reducible show tE _ _ _ _ _ _); walk_at "yE")
  | ((with_reducible show tS _ _ _ _ _ _); walk_at "yS")
  | ((with_reducible show tT _ _ _ _ _ _); walk_at "yT")
  | ((with_reducible show tVs _ _ _ _ _ _); walk_at "yA")
  | ((with_reducible show tA _ _ _ _ _ _); walk_at "yA")
  | ((with_reducible show tOo _ _ _ _ _ _); walk_at "yA")
  | walk_at "yO")
local macro_rules | `(tactic| walk_at "z") => `(tactic| (fail_if_success (with_reducible show tS _ _ _ (tSeq (tIfS _ _ _) _) _ _); walk_at "y"))
local macro_rules | `(tactic| walk_at "smb") => `(tactic| first
  | assumption
  | exact (show Sm 64 _ by unfold Sm; decide)
  | (apply Sm.mul <;> walk_at "smb")
  | (apply Sm.add2 <;> walk_at "smb")
  | (apply Sm.sub2 <;> walk_at "smb")
  | (apply Sm.neg <;> walk_at "smb"))
local macro_rules | `(tactic| walk_at "mok") => `(tactic| exact mulOk (by walk_at "smb") (by walk_at "smb") (by decide) (by decide) (by decide))

namespace K02
open PySem PySem.Spec PyProof.Rows L2 Y Wd TL Tx
section
variable {P : Program} {w : World} {K : PySem.W.Frag} {mg : Str → Option Value} {base : Heap} {f : Addr} {fd : FuncData}
theorem ok_law_drawn (B : Bl mg) (F : Fun K "_law_drawn" "_law_drawn" s__law_drawn f fd) : FnOk P w K mg base CX0 1 f fd ["_law_a", "_law_b"] (spD K fs_law_drawn) := by
  refine fn0 F sc__law_drawn (fun ds R Ex ⟨_, _, h, _⟩ => by rw [h]; rfl) fun cdv A outer s H E hr => ⟨_, (pss_cons (ps_set (i := 2) sc__law_drawn.nd rfl (by first | exact .inl rfl | exact .inr rfl) (pe_ix (ix_K (K := K)) (pe_lst (pa_cons (pe_op op_mod (pv 0) pe_int) (pa_cons (pe_op op_mod (pv 0) pe_int) (pa_cons (pe_op op_mod (pe_op op_mulU (pv 0) (pv 1)) (pe_op op_pow pe_int pe_int)) (pa_cons (pe_op op_mod (pe_op op_mulU (pv 0) (pe_op op_addU (pv 1) pe_int)) (pe_op op_pow pe_int pe_int)) pa_nil))))) (pe_op op_mod (pe_op op_fdivX (pv 0) pe_int) pe_int) (fun _ _ => rfl)))
      (pss_one (ps_ret (pe_ix (ix_K (K := K)) (pe_lst (pa_cons (pv 2) (pa_cons (pe_op op_sub pe_int (pv 2)) pa_nil))) (pe_op op_mod (pe_op op_fdivX (pv 1) pe_int) pe_int) (fun _ _ => rfl))))), fun ds R Ex ⟨a, b, hd, ⟨a0, a1⟩, ⟨b0, b1⟩, h⟩ => ?_⟩
  subst hd
  have sa : Sm 140 a := by unfold Sm; omega
  have sb : Sm 140 b := by unfold Sm; omega
  clear a1 b1
  (try dsimp only [cxOf, Cx.nox, Cx.wish]); change tS K _ _ _ [.val (.int a), .val (.int b), .emp] _
  repeat walk_at "y"
  have y0 := Int.emod_nonneg (a.fdiv 7) (show (4 : Int) ≠ 0 by decide)
  have y1 := Int.emod_lt_of_pos (a.fdiv 7) (show (0 : Int) < 4 by decide)
  obtain ⟨d, hm, hx⟩ := ixd_any (ds := [.int (a % 12), .int (a % 1000), .int (a * b % 10 ^ Int.toNat 20), .int (a * (b + 1) % 10 ^ Int.toNat 12)]) y0 y1
  have e20 : (10 : Int) ^ Int.toNat 20 = 100000000000000000000 := by decide
  have e12 : (10 : Int) ^ Int.toNat 12 = 1000000000000 := by decide
  obtain ⟨u, rfl, u0, u1⟩ : ∃ u : Int, d = .int u ∧ 0 ≤ u ∧ u < 100000000000000000000 := by
    rw [e20, e12] at hm
    simp only [List.mem_cons, List.not_mem_nil, or_false] at hm
    rcases hm with rfl | rfl | rfl | rfl
    · exact ⟨_, rfl, Int.emod_nonneg _ (by decide), by have := Int.emod_lt_of_pos a (show (0 : Int) < 12 by decide); omega⟩
    · exact ⟨_, rfl, Int.emod_nonneg _ (by decide), by have := Int.emod_lt_of_pos a (show (0 : Int) < 1000 by decide); omega⟩
    · exact ⟨_, rfl, Int.emod_nonneg _ (by decide), Int.emod_lt_of_pos _ (by decide)⟩
    · exact ⟨_, rfl, Int.emod_nonneg _ (by decide), by have := Int.emod_lt_of_pos (a * (b + 1)) (show (0 : Int) < 1000000000000 by decide); omega⟩
  refine ⟨_, _, rfl, hx, ?_⟩
  repeat walk_at "y"
  have w0 := Int.emod_nonneg (b.fdiv 11) (show (2 : Int) ≠ 0 by decide)
  have w1 := Int.emod_lt_of_pos (b.fdiv 11) (show (0 : Int) < 2 by decide)
  obtain ⟨d, hm, hx⟩ := ixd_any (ds := [.int u, .int (0 - u)]) w0 w1
  obtain ⟨v, rfl, v1⟩ : ∃ v : Int, d = .int v ∧ v.natAbs < 10 ^ 20 := by
    simp only [List.mem_cons, List.not_mem_nil, or_false] at hm
    rcases hm with rfl | rfl
    · exact ⟨_, rfl, by omega⟩
    · exact ⟨_, rfl, by omega⟩
  refine ⟨_, _, rfl, hx, ?_⟩
  exact h v v1
end
end K02
end

section
set_option maxHeartbeats 4000000
open PySem PySem.Spec PyProof.Rows L2 Y
local macro_rules | `(tactic| walk_at "yE") => `(tactic| first
  | ((with_reducible show tE _ _ _ (tOp _ _ _) _ _); first
    | (with_reducible refine e_ix ?_)
    | (with_reducible refine e_ixS ?_)
    | (with_reducible refine e_notInS ?_)
    | (with_reducible refine e_add ?_)
    | (with_reducible refine e_catA ?_)
    | (with_reducible refine e_sub ?_)
    | (with_reducible refine e_mul ?_)
    | (with_reducible refine e_mod ?_)
    | (with_reducible refine e_fdiv ?_)
    | (with_reducible refine e_pow ?_)
    | (with_reducible refine e_shr ?_)
    | (with_reducible refine e_band ?_)
    | (with_reducible refine e_lt ?_)
    | (with_reducible refine e_le ?_)
    | (with_reducible refine e_gt ?_)
    | (with_reducible refine e_ge ?_)
    | (with_reducible refine e_eq ?_)
    | (with_reducible refine e_ne ?_)
    | (with_reducible refine e_isN ?_)
    | (with_reducible refine e_notN ?_)
    | (with_reducible refine e_isB ?_)
    | (with_reducible refine e_isntB ?_))
  | ((with_reducible show tE _ _ _ (tCB _ _) _ _); first
    | (with_reducible refine e_len ?_)
    | (with_reducible refine e_isX (by with_unfolding_all exact fun _ h => h) ?_)
    | (with_reducible refine e_isInt ?_)
    | (with_reducible refine e_isBool ?_)
    | (with_reducible refine e_isTup ?_)
    | (with_reducible refine e_isStr ?_)
    | (with_reducible refine e_isList ?_)
    | (with_reducible refine e_gcd ?_)
    | (with_reducible refine e_abs ?_)
    | (with_reducible refine e_max2 ?_)
    | (with_reducible refine e_intS ?_)
    | (with_reducible refine e_intB ?_)
    | (with_reducible refine e_strI ?_)
    | (with_reducible refine e_list ?_)
    | (with_reducible refine e_repr ?_)
    | (with_reducible refine e_tupL ?_)
    | (with_reducible refine e_all ?_))
  | (with_reducible refine e_val (by with_unfolding_all rfl) ?_)
  | (with_reducible refine e_own (by with_unfolding_all rfl) ?_)
  | (with_reducible refine e_int ?_)
  | (with_reducible refine e_bl ?_)
  | (with_reducible refine e_non ?_)
  | (with_reducible refine e_str ?_)
  | (with_reducible refine e_neg ?_)
  | (with_reducible refine e_and ?_)
  | (with_reducible refine e_or ?_)
  | (with_reducible refine e_not ?_)
  | (with_reducible refine e_if ?_)
  | (with_reducible refine e_chainI ?_)
  | (with_reducible refine e_tup ?_)
  | (with_reducible refine e_lst ?_)
  | (with_reducible refine e_dk0 ?_)
  | (with_reducible refine e_sl ?_)
  | (with_reducible refine e_orT ?_)
  | (with_reducible refine e_m0b ?_)
  | (with_reducible refine e_m1b ?_)
  | (with_reducible refine e_m1s ?_)
  | (with_reducible refine e_zfill ?_)
  | (with_reducible refine e_partition ?_)
  | (with_reducible refine e_split ?_)
  | (with_reducible refine e_joinRev ?_)
  | (with_reducible refine e_joined ?_)
  | (with_reducible refine e_fmt ?_)
  | (with_reducible refine e_revL ?_))
local macro_rules | `(tactic| walk_at "yS") => `(tactic| first
  | (with_reducible refine s_seq ?_)
  | (with_reducible refine s_if ?_)
  | (with_reducible refine s_retOwn (by with_unfolding_all rfl) ?_)
  | (with_reducible refine s_ret ?_)
  | (with_reducible refine s_retN ?_)
  | (with_reducible refine s_next ?_)
  | (with_reducible refine s_set ?_ (by with_unfolding_all exact Nat.le_of_ble_eq_true rfl))
  | (with_reducible refine s_asgG ?_)
  | (with_reducible refine s_parS ?_ (by with_unfolding_all exact Nat.le_of_ble_eq_true rfl) (by with_unfolding_all exact Nat.le_of_ble_eq_true rfl))
  | (with_reducible refine s_rz ?_)
  | (with_reducible refine s_appendS (by with_unfolding_all rfl) ?_)
  | (with_reducible refine s_expr ?_)
  | ((with_reducible refine s_tryKK ?_); intro W))
local macro_rules | `(tactic| walk_at "yT") => `(tactic| first
  | (with_reducible refine t_test ?_)
  | (with_reducible refine t_tru ?_)
  | (with_reducible refine t_not ?_)
  | (with_reducible refine t_and ?_)
  | (with_reducible refine t_or ?_))
local macro_rules | `(tactic| walk_at "yA") => `(tactic| first
  | (with_reducible refine vs_cons ?_)
  | (with_reducible refine vs_nil ?_)
  | (with_reducible refine a_cons ?_)
  | (with_reducible refine a_nil ?_)
  | (with_reducible refine o_none ?_)
  | (with_reducible refine o_some ?_))
local macro_rules | `(tactic| walk_at "yX") => `(tactic| first
  | ((with_reducible show ∃ _, CmpD _ _ _ ∧ _); first | refine ⟨_, cmpd_int, ?_⟩ | refine ⟨_, cmpd_str, ?_⟩ | refine ⟨_, cmpd_bl, ?_⟩)
  | ((with_reducible show ∃ _ _, _ ∧ ExcC _ _ ∧ _); refine ⟨_, _, rfl, by assumption, by assumption, ?_⟩)
  | (refine ⟨_, _, rfl, rfl, ?_⟩)
  | (refine ⟨_, _, rfl, ?_⟩)
  | (refine ⟨_, rfl, ?_⟩))
local macro_rules | `(tactic| walk_at "yN") => `(tactic| first
  | (with_reducible refine brT ?_)
  | (with_reducible refine brF ?_)
  | (with_reducible refine brT' ?_)
  | (with_reducible refine brF' ?_)
  | ((with_reducible show ((!_) = false → _) ∧ _); first | (refine brA' rfl ?_) | (refine brB' rfl ?_))
  | ((with_reducible show ((!_) = true → _) ∧ _); first | (refine brA rfl ?_) | (refine brB rfl ?_))
  | ((with_reducible show 0 < _ ∧ _); refine ⟨by first | decide | omega, ?_⟩)
  | ((with_reducible show _ ≤ sizeLine ∧ _); refine ⟨small_len (by with_unfolding_all exact Nat.le_of_ble_eq_true rfl), ?_⟩)
  | ((with_reducible show CPow _ _ ∧ _); refine ⟨⟨by decide, by decide, by decide⟩, ?_⟩)
  | ((with_reducible show CDivX _ _ ∧ _); refine ⟨⟨by decide, by decide⟩, ?_⟩)
  | ((with_reducible show 0 ≤ _ ∧ _); refine ⟨by first | decide | omega, ?_⟩)
  | ((with_reducible show _ = D.non ∧ _); refine ⟨rfl, ?_⟩))
local macro_rules | `(tactic| walk_at "yO") => `(tactic| first
  | ((with_reducible show vR _ _); first | (with_reducible refine vr_val ?_) | (with_reducible refine vr_own ?_))
  | ((with_reducible show asgR _ _); first | (with_reducible refine as_val ?_) | (with_reducible refine as_own ?_))
  | ((with_reducible show ∃ _, _); walk_at "yX")
  | ((with_reducible show _ ∧ _); walk_at "yN")
  | ((with_reducible show AddD _ _ _); first | (refine add_int ?_) | (refine add_lst (small_len' (by with_unfolding_all exact Nat.le_of_ble_eq_true rfl)) ?_))
  | ((with_reducible show MulD _ _ _); refine mul_int (by walk_at "mok") ?_)
  | (with_reducible refine ss_go (by with_unfolding_all repeat constructor) ?_)
  | (with_reducible refine g_nameS (by first | trivial | exact List.mem_cons_self | simp) (by with_unfolding_all repeat constructor) ?_)
  | (with_reducible refine g_tup (by with_unfolding_all rfl) ?_)
  | (with_reducible refine gs_cons ?_)
  | (with_reducible refine gs_nil ?_))
local macro_rules | `(tactic| walk_at "y") => `(tactic| first
  | ((with_reducible show tE _ _ _ _ _ _); walk_at "yE")
  | ((with_reducible show tS _ _ _ _ _ _); walk_at "yS")
  | ((with_reducible show tT _ _ _ _ _ _); walk_at "yT")
  | ((with_reducible show tVs _ _ _ _ _ _); walk_at "yA")
  | ((with_reducible show tA _ _ _ _ _ _); walk_at "yA")
  | ((with_reducible show tOo _ _ _ _ _ _); walk_at "yA")
  | walk_at "yO")
local macro_rules | `(tactic| walk_at "z") => `(tactic| (fail_if_success (with_reducible show tS _ _ _ (tSeq (tIfS _ _ _) _) _ _); walk_at "y"))
local macro_rules | `(tactic| walk_at "smb") => `(tactic| first
  | assumption
  | exact (show Sm 64 _ by unfold Sm; decide)
  | (apply Sm.mul <;> walk_at "smb")
  | (apply Sm.add2 <;> walk_at "smb")
  | (apply Sm.sub2 <;> walk_at "smb")
  | (apply Sm.neg <;> walk_at "smb"))
local macro_rules | `(tactic| walk_at "mok") => `(tactic| exact mulOk (by walk_at "smb") (by walk_at "smb") (by decide) (by decide) (by decide))

namespace K02
open PySem PySem.Spec PyProof.Rows L2 Y Wd TL Tx
section
variable {P : Program} {w : World} {K : PySem.W.Frag} {mg : Str → Option Value} {base : Heap} {f : Addr} {fd : FuncData}
theorem noSign_len (l : List Nat) : (noSign l).length ≤ l.length := by
  unfold noSign
  split
  · exact Nat.le_succ _
  · exact Nat.le_refl _
theorem ok_read_part {C : Addr} (B : Bl mg) (c_NoPart : Cl mg "NoPart" C) (r_NoPart : ClR P w K mg base C) (d_is_number : Dfn P w K mg base CX0 "is_number" ["text"] 1 fs_is_number) (d_number_of : Dfn P w K mg base CX0 "number_of" ["text"] 1 fs_number_of) (d_is_part : Dfn P w K mg base CX0 "is_part" ["thing"] 2 fs_is_part) (d_part_text : Dfn P w K mg base CX0 "part_text" ["part"] 2 fs_part_text)
    (F : Fun K "read_part" "read_part" s_read_part f fd) : FnOk P w K mg base (L2.CX P w) 3 f fd ["text"] (spD K (fs_read_part C)) := by
  refine fnX F sc_read_part (fun ds R Ex ⟨d, h, _⟩ => by rw [h]; rfl) fun cdv A outer s H E hr => ⟨_, (pss_cons (ps_asg (pe_partition (pv 0) pe_str) (pg_tup rfl (pgs_cons (pg_name (i := 1) sc_read_part.nd rfl (by first | exact .inl rfl | exact .inr rfl)) (pgs_cons (pg_name (i := 2) sc_read_part.nd rfl (by first | exact .inl rfl | exact .inr rfl)) (pgs_cons (pg_name (i := 3) sc_read_part.nd rfl (by first | exact .inl rfl | exact .inr rfl)) pgs_nil)))))
      (pss_cons (ps_if (pt_not (pt_truK (K := K) (pv 2))) (pss_one (ps_set (i := 3) sc_read_part.nd rfl (by first | exact .inl rfl | exact .inr rfl) pe_str)) pss_nil)
      (pss_cons (ps_set (i := 4) sc_read_part.nd rfl (by first | exact .inl rfl | exact .inr rfl) (pe_m1 PySem.F.slot_str_removeprefix PySem.F.type_str_removeprefix mt_removeprefix (pv 1) pe_str))
      (pss_cons (ps_if (PW.pt (pw_or (pt_not (pt_truK (K := K) (pe_dK d_is_number (hr.mono (by decide)) (pa_cons (pv 4) pa_nil)))) (pw_or1 (pt_not (pt_truK (K := K) (pe_dK d_is_number (hr.mono (by decide)) (pa_cons (pv 3) pa_nil))))))) (pss_one (ps_rz rfl (takes_of rfl rfl rfl rfl) r_NoPart c_NoPart.g hr)) pss_nil)
      (pss_cons (ps_set (i := 5) sc_read_part.nd rfl (by first | exact .inl rfl | exact .inr rfl) (pe_dK d_number_of (hr.mono (by decide)) (pa_cons (pv 4) pa_nil)))
      (pss_cons (ps_if (pt_cmpR (op_neK (K := K) hr) (pv 1) (pv 4) (nomark _)) (pss_one (ps_set (i := 5) sc_read_part.nd rfl (by first | exact .inl rfl | exact .inr rfl) (pe_un un_neg (pv 5)))) pss_nil)
      (pss_cons (ps_set (i := 6) sc_read_part.nd rfl (by first | exact .inl rfl | exact .inr rfl) (pe_tup (pa_cons (pv 5) (pa_cons (pe_dK d_number_of (hr.mono (by decide)) (pa_cons (pv 3) pa_nil)) pa_nil))))
      (pss_cons (ps_if (PW.pt (pw_or (pt_not (pt_truK (K := K) (pe_dK d_is_part hr (pa_cons (pv 6) pa_nil)))) (pw_or1 (pt_cmpR (op_neK (K := K) hr) (pe_dK d_part_text hr (pa_cons (pv 6) pa_nil)) (pv 0) (nomark _))))) (pss_one (ps_rz rfl (takes_of rfl rfl rfl rfl) r_NoPart c_NoPart.g hr)) pss_nil)
      (pss_one (ps_ret (pv 6))))))))))), fun ds R Ex ⟨z, hd, hz, h⟩ => ?_⟩
  subst hd
  (try dsimp only [cxOf, Cx.nox, Cx.wish]); change tS K _ _ _ [.val (.str z), .emp, .emp, .emp, .emp, .emp, .emp] _
  obtain ⟨T, sp, Bt, ep, lT, lB, cs⟩ := part_z z
  iterate 6 walk_at "y"
  refine e_str ?_
  refine ⟨"/", rfl, rfl, small_len' (by omega), ?_⟩
  rw [show Txt.partition z (Str.ofString "/") = (T, sp, Bt) from ep]
  repeat ((fail_if_success (with_reducible show tS _ _ _ (tSeq (tIfS _ _ _) _) _ _)); walk_at "y")
  dsimp only
  refine s_seqJ (fun ρ => ∃ B : Str, ρ = [.val (.str z), .val (.str T), .val (.str sp), .val (.str B), .emp, .emp, .emp] ∧ B.length ≤ 55 ∧ ∀ a b : Int, 0 < b → tl z = ptL a b → tl T = sgn a ++ numL a.natAbs ∧ tl B = numL b.toNat) ?_ ?_
  · repeat walk_at "y"
    rcases cs with ⟨e1, e2, e3⟩ | ⟨e1, e2⟩
    · have es : sp.length = 0 := by rw [len_tl, e1]; rfl
      refine ⟨false, ⟨small_len' (by omega), by rw [es]; rfl⟩, fun _ => ?_, fun c => Bool.noConfusion c⟩
      repeat walk_at "y"
      refine ⟨by decide, fun a b b0 ez => ?_⟩
      rw [ez, par_pt] at e2
      by_cases b1 : b = 1
      · rw [e3, ez]
        unfold ptL
        rw [if_pos b1, List.append_nil, b1]
        exact ⟨rfl, (numL_lt (n := 1) (by decide)).symm⟩
      · rw [if_neg b1] at e2
        cases e2
    · have es : sp.length = 1 := by rw [len_tl, e1]; rfl
      refine ⟨true, ⟨small_len' (by omega), by rw [es]; rfl⟩, fun c => Bool.noConfusion c, fun _ => ?_⟩
      repeat walk_at "y"
      refine ⟨by omega, fun a b b0 ez => ?_⟩
      rw [ez, par_pt] at e2
      by_cases b1 : b = 1
      · rw [if_pos b1] at e2
        cases e2
      · rw [if_neg b1] at e2
        have e := Option.some.inj e2
        exact ⟨(congrArg Prod.fst e).symm, (congrArg Prod.snd e).symm⟩
  · rintro ρ' ⟨B, rfl, lB', hp⟩
    have rs := rem_sign T
    repeat walk_at "y"
    refine ⟨small_len' (by omega), ?_⟩
    repeat walk_at "y"
    generalize Txt.removeprefix T (Str.ofString "-") = G at rs
    have lG : G.length ≤ 55 := by
      have k := noSign_len (tl T)
      rw [← rs, ← len_tl, ← len_tl] at k
      omega
    have yes : ∀ a b : Int, Lowest a b → tl z = ptL a b → tl G = numL a.natAbs ∧ tl B = numL b.toNat ∧ tl T = sgn a ++ numL a.natAbs := fun a b lo ez => by
      obtain ⟨h1, h2⟩ := hp a b lo.1 ez
      refine ⟨?_, h2, h1⟩
      rw [rs, h1, noSign_top]
    refine e_call (fun _ => .nil) ?_
    repeat walk_at "y"
    refine ⟨by omega, ?_⟩
    refine ⟨figs (tl G), rfl, fun c => ?_, fun c => ?_⟩
    · have fG : figs (tl G) = true := by simpa using c
      repeat walk_at "y"
      refine e_call (fun _ => .nil) ?_
      repeat walk_at "y"
      refine ⟨by omega, ?_⟩
      refine ⟨figs (tl B), rfl, fun c => ?_, fun c => ?_⟩
      · repeat walk_at "y"
        rcases h with ⟨a, b, lo, ez, _⟩ | ⟨_, h⟩
        · rw [(yes a b lo ez).2.1, figs_num] at c
          cases c
        · exact h
      · have fB : figs (tl B) = true := by simpa using c
        repeat walk_at "y"
        refine e_call (fun _ => .nil) ?_
        repeat walk_at "y"
        have dG := figs_dig fG
        have dB := figs_dig fB
        have vG : NumText.digitsVal (tl G) < 10 ^ 60 := Nat.lt_of_lt_of_le (val_lt _ dG.1) (Nat.pow_le_pow_right (by decide) (by rw [← len_tl]; omega))
        have vB : NumText.digitsVal (tl B) < 10 ^ 60 := Nat.lt_of_lt_of_le (val_lt _ dB.1) (Nat.pow_le_pow_right (by decide) (by rw [← len_tl]; omega))
        have yes2 : ∀ a b : Int, Lowest a b → tl z = ptL a b → NumText.digitsVal (tl G) = a.natAbs ∧ NumText.digitsVal (tl B) = b.toNat := fun a b lo ez => by
          obtain ⟨h1, h2, _⟩ := yes a b lo ez
          rw [h1, h2, numL_val, numL_val]
          exact ⟨rfl, rfl⟩
        refine ⟨by omega, fG, ?_⟩
        generalize NumText.digitsVal (tl G) = v at vG yes2
        generalize hw : NumText.digitsVal (tl B) = w at vB yes2
        generalize hM : (10 : Nat) ^ 60 = M at vG vB
        repeat ((fail_if_success (with_reducible show tS _ _ _ (tSeq (tIfS _ _ _) _) _ _)); walk_at "y")
        dsimp only
        refine s_seqJ (fun ρ => ∃ t : Int, ρ = [.val (.str z), .val (.str T), .val (.str sp), .val (.str B), .val (.str G), .val (.int t), .emp] ∧ t.natAbs = v ∧ ∀ a b : Int, Lowest a b → tl z = ptL a b → t = a) ?_ ?_
        · repeat walk_at "y"
          refine br2n (fun ne => ?_) fun eq => ?_
          · repeat walk_at "y"
            refine ⟨by omega, fun a b lo ez => ?_⟩
            obtain ⟨h1, _, h3⟩ := yes a b lo ez
            have h4 := (yes2 a b lo ez).1
            by_cases a0 : a < 0
            · omega
            · unfold sgn at h3
              rw [if_neg a0, List.nil_append, ← h1] at h3
              exact absurd (ext_tl h3) ne
          · repeat walk_at "y"
            refine ⟨by omega, fun a b lo ez => ?_⟩
            obtain ⟨h1, _, h3⟩ := yes a b lo ez
            have h4 := (yes2 a b lo ez).1
            by_cases a0 : a < 0
            · unfold sgn at h3
              rw [if_pos a0, ← h1, eq] at h3
              have := congrArg List.length h3
              rw [List.length_append] at this
              simp only [List.length_cons, List.length_nil] at this
              omega
            · omega
        · rintro ρ' ⟨t, rfl, tv, ty⟩
          repeat walk_at "y"
          refine e_call (fun _ => .nil) ?_
          repeat walk_at "y"
          refine ⟨by omega, fB, ?_⟩
          rw [hw]
          repeat walk_at "y"
          refine e_call (fun _ => .nil) ?_
          repeat walk_at "y"
          refine ⟨rfl, ?_⟩
          have ip : isPartD (.tup [.int t, .int (w : Int)]) = true ↔ Lowest t (w : Int) := by
            show (decide (0 < (w : Int)) && decide (Nat.gcd t.natAbs (w : Int).natAbs = 1)) = true ↔ _
            rw [Bool.and_eq_true, decide_eq_true_iff, decide_eq_true_iff]
            exact Iff.rfl
          refine ⟨isPartD (.tup [.int t, .int (w : Int)]), rfl, fun c => ?_, fun c => ?_⟩
          · have lo : Lowest t (w : Int) := ip.mp (by simpa using c)
            repeat walk_at "y"
            refine e_call (fun _ => .nil) ?_
            repeat walk_at "y"
            refine ⟨⟨lo.1, by rw [hM, tv]; exact vG, by rw [hM]; exact vB⟩, fun y ey => ?_⟩
            repeat walk_at "y"
            refine br2n (fun ne => ?_) fun eq => ?_
            · repeat walk_at "y"
              rcases h with ⟨a, b, lo', ez, _⟩ | ⟨_, h⟩
              · have e1 := ty a b lo' ez
                have e2 := (yes2 a b lo' ez).2
                have b0 := lo'.1
                rw [e1, e2, Int.toNat_of_nonneg (by omega), ← ez] at ey
                exact absurd (ext_tl ey) ne
              · exact h
            · repeat walk_at "y"
              rcases h with ⟨a, b, lo', ez, hr⟩ | ⟨no, _⟩
              · have e1 := ty a b lo' ez
                have e2 := (yes2 a b lo' ez).2
                have b0 := lo'.1
                rw [e1, e2, Int.toNat_of_nonneg (by omega)]
                exact hr
              · exact absurd ⟨t, (w : Int), lo, by rw [← eq]; exact ey⟩ no
          · repeat walk_at "y"
            rcases h with ⟨a, b, lo', ez, _⟩ | ⟨_, h⟩
            · have e1 := ty a b lo' ez
              have e2 := (yes2 a b lo' ez).2
              have b0 := lo'.1
              have z := ip.mpr (by rw [e1, e2, Int.toNat_of_nonneg (by omega)]; exact lo')
              rw [z] at c
              cases c
            · exact h
    · repeat walk_at "y"
      rcases h with ⟨a, b, lo, ez, _⟩ | ⟨_, h⟩
      · rw [(yes a b lo ez).1, figs_num] at c
        cases c
      · exact h
end
end K02
end

section
set_option maxHeartbeats 4000000
open PySem PySem.Spec PyProof.Rows L2 Y
local macro_rules | `(tactic| walk_at "yE") => `(tactic| first
  | ((with_reducible show tE _ _ _ (tOp _ _ _) _ _); first
    | (with_reducible refine e_ix ?_)
    | (with_reducible refine e_ixS ?_)
    | (with_reducible refine e_notInS ?_)
    | (with_reducible refine e_add ?_)
    | (with_reducible refine e_catA ?_)
    | (with_reducible refine e_sub ?_)
    | (with_reducible refine e_mul ?_)
    | (with_reducible refine e_mod ?_)
    | (with_reducible refine e_fdiv ?_)
    | (with_reducible refine e_pow ?_)
    | (with_reducible refine e_shr ?_)
    | (with_reducible refine e_band ?_)
    | (with_reducible refine e_lt ?_)
    | (with_reducible refine e_le ?_)
    | (with_reducible refine e_gt ?_)
    | (with_reducible refine e_ge ?_)
    | (with_reducible refine e_eq ?_)
    | (with_reducible refine e_ne ?_)
    | (with_reducible refine e_isN ?_)
    | (with_reducible refine e_notN ?_)
    | (with_reducible refine e_isB ?_)
    | (with_reducible refine e_isntB ?_))
  | ((with_reducible show tE _ _ _ (tCB _ _) _ _); first
    | (with_reducible refine e_len ?_)
    | (with_reducible refine e_isX (by with_unfolding_all exact fun _ h => h) ?_)
    | (with_reducible refine e_isInt ?_)
    | (with_reducible refine e_isBool ?_)
    | (with_reducible refine e_isTup ?_)
    | (with_reducible refine e_isStr ?_)
    | (with_reducible refine e_isList ?_)
    | (with_reducible refine e_gcd ?_)
    | (with_reducible refine e_abs ?_)
    | (with_reducible refine e_max2 ?_)
    | (with_reducible refine e_intS ?_)
    | (with_reducible refine e_intB ?_)
    | (with_reducible refine e_strI ?_)
    | (with_reducible refine e_list ?_)
    | (with_reducible refine e_repr ?_)
    | (with_reducible refine e_tupL ?_)
    | (with_reducible refine e_all ?_))
  | (with_reducible refine e_val (by with_unfolding_all rfl) ?_)
  | (with_reducible refine e_own (by with_unfolding_all rfl) ?_)
  | (with_reducible refine e_int ?_)
  | (with_reducible refine e_bl ?_)
  | (with_reducible refine e_non ?_)
  | (with_reducible refine e_str ?_)
  | (with_reducible refine e_neg ?_)
  | (with_reducible refine e_and ?_)
  | (with_reducible refine e_or ?_)
  | (with_reducible refine e_not ?_)
  | (with_reducible refine e_if ?_)
  | (with_reducible refine e_chainI ?_)
  | (with_reducible refine e_tup ?_)
  | (with_reducible refine e_lst ?_)
  | (with_reducible refine e_dk0 ?_)
  | (with_reducible refine e_sl ?_)
  | (with_reducible refine e_orT ?_)
  | (with_reducible refine e_m0b ?_)
  | (with_reducible refine e_m1b ?_)
  | (with_reducible refine e_m1s ?_)
  | (with_reducible refine e_zfill ?_)
  | (with_reducible refine e_partition ?_)
  | (with_reducible refine e_split ?_)
  | (with_reducible refine e_joinRev ?_)
  | (with_reducible refine e_joined ?_)
  | (with_reducible refine e_fmt ?_)
  | (with_reducible refine e_revL ?_))
local macro_rules | `(tactic| walk_at "yS") => `(tactic| first
  | (with_reducible refine s_seq ?_)
  | (with_reducible refine s_if ?_)
  | (with_reducible refine s_retOwn (by with_unfolding_all rfl) ?_)
  | (with_reducible refine s_ret ?_)
  | (with_reducible refine s_retN ?_)
  | (with_reducible refine s_next ?_)
  | (with_reducible refine s_set ?_ (by with_unfolding_all exact Nat.le_of_ble_eq_true rfl))
  | (with_reducible refine s_asgG ?_)
  | (with_reducible refine s_parS ?_ (by with_unfolding_all exact Nat.le_of_ble_eq_true rfl) (by with_unfolding_all exact Nat.le_of_ble_eq_true rfl))
  | (with_reducible refine s_rz ?_)
  | (with_reducible refine s_appendS (by with_unfolding_all rfl) ?_)
  | (with_reducible refine s_expr ?_)
  | ((with_reducible refine s_tryKK ?_); intro W))
local macro_rules | `(tactic| walk_at "yT") => `(tactic| first
  | (with_reducible refine t_test ?_)
  | (with_reducible refine t_tru ?_)
  | (with_reducible refine t_not ?_)
  | (with_reducible refine t_and ?_)
  | (with_reducible refine t_or ?_))
local macro_rules | `(tactic| walk_at "yA") => `(tactic| first
  | (with_reducible refine vs_cons ?_)
  | (with_reducible refine vs_nil ?_)
  | (with_reducible refine a_cons ?_)
  | (with_reducible refine a_nil ?_)
  | (with_reducible refine o_none ?_)
  | (with_reducible refine o_some ?_))
local macro_rules | `(tactic| walk_at "yX") => `(tactic| first
  | ((with_reducible show ∃ _, CmpD _ _ _ ∧ _); first | refine ⟨_, cmpd_int, ?_⟩ | refine ⟨_, cmpd_str, ?_⟩ | refine ⟨_, cmpd_bl, ?_⟩)
  | ((with_reducible show ∃ _ _, _ ∧ ExcC _ _ ∧ _); refine ⟨_, _, rfl, by assumption, by assumption, ?_⟩)
  | (refine ⟨_, _, rfl, rfl, ?_⟩)
  | (refine ⟨_, _, rfl, ?_⟩)
  | (refine ⟨_, rfl, ?_⟩))
local macro_rules | `(tactic| walk_at "yN") => `(tactic| first
  | (with_reducible refine brT ?_)
  | (with_reducible refine brF ?_)
  | (with_reducible refine brT' ?_)
  | (with_reducible refine brF' ?_)
  | ((with_reducible show ((!_) = false → _) ∧ _); first | (refine brA' rfl ?_) | (refine brB' rfl ?_))
  | ((with_reducible show ((!_) = true → _) ∧ _); first | (refine brA rfl ?_) | (refine brB rfl ?_))
  | ((with_reducible show 0 < _ ∧ _); refine ⟨by first | decide | omega, ?_⟩)
  | ((with_reducible show _ ≤ sizeLine ∧ _); refine ⟨small_len (by with_unfolding_all exact Nat.le_of_ble_eq_true rfl), ?_⟩)
  | ((with_reducible show CPow _ _ ∧ _); refine ⟨⟨by decide, by decide, by decide⟩, ?_⟩)
  | ((with_reducible show CDivX _ _ ∧ _); refine ⟨⟨by decide, by decide⟩, ?_⟩)
  | ((with_reducible show 0 ≤ _ ∧ _); refine ⟨by first | decide | omega, ?_⟩)
  | ((with_reducible show _ = D.non ∧ _); refine ⟨rfl, ?_⟩))
local macro_rules | `(tactic| walk_at "yO") => `(tactic| first
  | ((with_reducible show vR _ _); first | (with_reducible refine vr_val ?_) | (with_reducible refine vr_own ?_))
  | ((with_reducible show asgR _ _); first | (with_reducible refine as_val ?_) | (with_reducible refine as_own ?_))
  | ((with_reducible show ∃ _, _); walk_at "yX")
  | ((with_reducible show _ ∧ _); walk_at "yN")
  | ((with_reducible show AddD _ _ _); first | (refine add_int ?_) | (refine add_lst (small_len' (by with_unfolding_all exact Nat.le_of_ble_eq_true rfl)) ?_))
  | ((with_reducible show MulD _ _ _); refine mul_int (by walk_at "mok") ?_)
  | (with_reducible refine ss_go (by with_unfolding_all repeat constructor) ?_)
  | (with_reducible refine g_nameS (by first | trivial | exact List.mem_cons_self | simp) (by with_unfolding_all repeat constructor) ?_)
  | (with_reducible refine g_tup (by with_unfolding_all rfl) ?_)
  | (with_reducible refine gs_cons ?_)
  | (with_reducible refine gs_nil ?_))
local macro_rules | `(tactic| walk_at "y") => `(tactic| first
  | ((with_reducible show tE _ _ _ _ _ _); walk_at "yE")
  | ((with_reducible show tS _ _ _ _ _ _); walk_at "yS")
  | ((with_reducible show tT _ _ _ _ _ _); walk_at "yT")
  | ((with_reducible show tVs _ _ _ _ _ _); walk_at "yA")
  | ((with_reducible show tA _ _ _ _ _ _); walk_at "yA")
  | ((with_reducible show tOo _ _ _ _ _ _); walk_at "yA")
  | walk_at "yO")
local macro_rules | `(tactic| walk_at "z") => `(tactic| (fail_if_success (with_reducible show tS _ _ _ (tSeq (tIfS _ _ _) _) _ _); walk_at "y"))
local macro_rules | `(tactic| walk_at "smb") => `(tactic| first
  | assumption
  | exact (show Sm 64 _ by unfold Sm; decide)
  | (apply Sm.mul <;> walk_at "smb")
  | (apply Sm.add2 <;> walk_at "smb")
  | (apply Sm.sub2 <;> walk_at "smb")
  | (apply Sm.neg <;> walk_at "smb"))
local macro_rules | `(tactic| walk_at "mok") => `(tactic| exact mulOk (by walk_at "smb") (by walk_at "smb") (by decide) (by decide) (by decide))

namespace K02
open PySem PySem.Spec PyProof.Rows L2 Y Wd TL Tx
section
variable {P : Program} {w : World} {K : PySem.W.Frag} {mg : Str → Option Value} {base : Heap} {f : Addr} {fd : FuncData}
theorem sl_own {ds es : List D} {lo hi : Option Int} {R : Res → Prop} (e : Y.cutD ds lo hi = es) (h : R (.own es)) : SlD (.lst ds) lo hi R := by
  subst e
  exact h
theorem cut_one {d : D} {ds : List D} : Y.cutD (d :: ds) (some ((1 : Nat) : Int)) none = ds := by
  unfold Y.cutD
  rw [HT.sIx_none, HT.sIx_nat, Nat.min_eq_left (by simp)]
  show (ds.take _) = ds
  rw [List.take_of_length_le]
  simp
theorem flt : ∀ l : List Str, ((l.map D.str).filter (fun d => match d with | .str y => !figs (tl y) | _ => false)).isEmpty = l.all fun y => figs (tl y)
  | [] => rfl
  | y :: l => by
    rw [List.map_cons, List.all_cons]
    cases q : figs (tl y) with
    | true =>
      rw [List.filter_cons_of_neg (by show ¬ (!figs (tl y)) = true; rw [q]; decide), Bool.true_and]
      exact flt l
    | false =>
      rw [List.filter_cons_of_pos (by show (!figs (tl y)) = true; rw [q]; rfl), Bool.false_and]
      rfl
theorem ok_law_due (B : Bl mg) (d__law_figures : Dfn P w K mg base CX0 "_law_figures" ["_law_text_here"] 1 fs_law_figures) (d__law_part : Dfn P w K mg base CX0 "_law_part" ["_law_top", "_law_bottom"] 2 fs_law_part) (d__law_text : Dfn P w K mg base CX0 "_law_text" ["_law_part_here"] 1 fs_law_text)
    (F : Fun K "_law_due" "_law_due" s__law_due f fd) : FnOk P w K mg base CX0 3 f fd ["_law_text_here"] (spD K fs_law_due) := by
  refine fn0 F sc__law_due (fun ds R Ex ⟨_, h, _⟩ => by rw [h]; rfl) fun cdv A outer s H E hr => ⟨_, (pss_cons (ps_set (i := 1) sc__law_due.nd rfl (by first | exact .inl rfl | exact .inr rfl) (pe_split (pv 0) pe_str))
      (pss_cons (ps_set (i := 2) sc__law_due.nd rfl (by first | exact .inl rfl | exact .inr rfl) (pe_ix (ix_K (K := K)) (pv 1) pe_int (fun _ _ => rfl)))
      (pss_cons (ps_if (pt_cmpR (op_eqK (K := K) hr) (pe_slice (sl_K (K := K)) (pv 2) po_none (po_some pe_int)) pe_str (nomark _)) (pss_one (ps_set (i := 2) sc__law_due.nd rfl (by first | exact .inl rfl | exact .inr rfl) (pe_slice (sl_K (K := K)) (pv 2) (po_some pe_int) po_none))) pss_nil)
      (pss_cons (ps_if (PW.pt (pw_or (pt_cmpR op_gt (pe_callB (call_lenK (K := K)) (by rfl) B.bLen (by decide +kernel) (pa_cons (pv 1) pa_nil)) pe_int (nomark _)) (pw_or1 (pt_cmpR (op_neK (K := K) hr) (pe_lc (own := [("_law_one", 3)]) rfl sc__law_due.nd (pi_listK (K := K) (pe_op op_addU (pe_lst (pa_cons (pv 2) pa_nil)) (pe_slice (sl_K (K := K)) (pv 1) (po_some pe_int) po_none))) (blkOk_by (N := NM__law_due) (sc := defScope s__law_due) (by decide +kernel)) (fun _ _ _ _ _ => (pg_name (i := 3) sc__law_due.nd rfl (by first | exact .inl rfl | exact .inr rfl))) (fun _ _ _ _ _ => (pts_one (pt_not (pt_truK (K := K) (pe_dK d__law_figures (hr.mono (by decide)) (pa_cons (pv 3) pa_nil)))))) (fun _ _ _ _ _ => (pv 3))) (pe_lst pa_nil) (nomark _))))) (pss_one (ps_ret pe_non)) pss_nil)
      (pss_cons (ps_set (i := 4) sc__law_due.nd rfl (by first | exact .inl rfl | exact .inr rfl) pe_int)
      (pss_cons (ps_if (pt_cmpR (op_eqK (K := K) hr) (pe_callB (call_lenK (K := K)) (by rfl) B.bLen (by decide +kernel) (pa_cons (pv 1) pa_nil)) pe_int (nomark _)) (pss_one (ps_set (i := 4) sc__law_due.nd rfl (by first | exact .inl rfl | exact .inr rfl) (pe_callTy call_int_str (by rfl) B.bInt (by decide +kernel) (pa_cons (pe_ix (ix_K (K := K)) (pv 1) pe_int (fun _ _ => rfl)) pa_nil)))) pss_nil)
      (pss_cons (ps_if (PW.pt (pw_or (pt_cmpR (op_eqK (K := K) hr) (pv 4) pe_int (nomark _)) (pw_or1 (pt_cmpR (op_neK (K := K) hr) (pe_dK d__law_text (hr.mono (by decide)) (pa_cons (pe_dK d__law_part hr (pa_cons (pe_callTy call_int_str (by rfl) B.bInt (by decide +kernel) (pa_cons (pe_ix (ix_K (K := K)) (pv 1) pe_int (fun _ _ => rfl)) pa_nil)) (pa_cons (pv 4) pa_nil))) pa_nil)) (pv 0) (nomark _))))) (pss_one (ps_ret pe_non)) pss_nil)
      (pss_one (ps_ret (pe_dK d__law_part hr (pa_cons (pe_callTy call_int_str (by rfl) B.bInt (by decide +kernel) (pa_cons (pe_ix (ix_K (K := K)) (pv 1) pe_int (fun _ _ => rfl)) pa_nil)) (pa_cons (pv 4) pa_nil)))))))))))), fun ds R Ex ⟨z, hd, hz, h⟩ => ?_⟩
  subst hd
  (try dsimp only [cxOf, Cx.nox, Cx.wish]); change tS K _ _ _ [.val (.str z), .emp, .emp, .emp, .emp] _
  obtain ⟨p0, ps, ep, es, pl, pn⟩ := split_z z
  iterate 6 walk_at "y"
  refine e_str ?_
  refine ⟨"/", rfl, rfl, small_len' (by omega), ?_⟩
  rw [show Txt.split z (Str.ofString "/") = p0 :: ps from ep]
  repeat walk_at "y"
  refine ⟨0, .str p0, rfl, atI_nat (j := 0) rfl, ?_⟩
  have l0 : p0.length ≤ 55 := Nat.le_trans (pl p0 List.mem_cons_self) hz
  repeat ((fail_if_success (with_reducible show tS _ _ _ (tSeq (tIfS _ _ _) _) _ _)); walk_at "y")
  dsimp only
  refine s_freezeS (i := 1) rfl (by repeat constructor) ?_
  refine s_seqJ (fun ρ => ∃ G : Str, ρ = [.val (.str z), .val (.lst ((p0 :: ps).map D.str)), .val (.str G), .emp, .emp] ∧ tl G = noSign (tl p0)) ?_ ?_
  · repeat walk_at "y"
    refine ⟨small_len' (by omega), ?_⟩
    repeat walk_at "y"
    have tc := tl_cut_lo p0 1
    have td := tl_cut_hi p0 1
    refine br2 (fun c => ?_) fun c => ?_
    · repeat walk_at "y"
      refine ⟨small_len' (by omega), ?_⟩
      repeat walk_at "y"
      show tl (cutS p0 (some ((1 : Nat) : Int)) none) = _
      rw [td]
      have c' : tl (cutS p0 none (some ((1 : Nat) : Int))) = [45] := by
        rw [show cutS p0 none (some ((1 : Nat) : Int)) = Str.ofString "-" from c]
        rfl
      rw [tc] at c'
      cases q : tl p0 with
      | nil =>
        rw [q] at c'
        cases c'
      | cons x r =>
        rw [q] at c'
        have e : x = 45 := (List.cons.inj c').1
        rw [e]
        rfl
    · repeat walk_at "y"
      cases q : tl p0 with
      | nil => rfl
      | cons x r =>
        by_cases e : x = 45
        · refine absurd (ext_tl ?_) c
          show tl (cutS p0 none (some ((1 : Nat) : Int))) = [45]
          rw [tc, q, e]
          rfl
        · unfold noSign
          split
          · rename_i a b z
            exact absurd (List.cons.inj z).1 e
          · rfl
  · rintro ρ' ⟨G, rfl, eG⟩
    have lG : G.length ≤ 55 := by
      have k := noSign_len (tl p0)
      rw [← eG, ← len_tl, ← len_tl] at k
      omega
    have two : ∀ a b : Int, tl z = ptL a b → ps.length ≤ 1 := fun a b ez => by
      have k := congrArg List.length es
      rw [ez, spl_pt, List.length_map] at k
      split at k <;> simp only [List.length_cons, List.length_nil] at k <;> omega
    repeat walk_at "y"
    refine ⟨fun c => ?_, fun c => ?_⟩
    · have c := of_decide_eq_false c
      rw [List.length_map] at c
      have pn1 : ps.length ≤ 1 := by
        simp only [List.length_cons] at c
        omega
      repeat walk_at "y"
      refine e_lcF (fun d => d) (fun d => match d with | .str y => !figs (tl y) | _ => false) (ic_list ?_)
      repeat walk_at "y"
      refine sl_own (show Y.cutD ((p0 :: ps).map D.str) (some ((1 : Nat) : Int)) none = ps.map D.str from cut_one) ?_
      repeat walk_at "y"
      refine add_lst (small_len' (by rw [List.length_map]; show 1 + ps.length ≤ _; omega)) ?_
      repeat walk_at "y"
      have mem : ∀ d ∈ [D.str G] ++ ps.map D.str, ∃ y : Str, d = .str y ∧ y.length ≤ 55 := fun d hd => by
        rcases List.mem_append.mp hd with e | e
        · exact ⟨G, List.mem_singleton.mp e, lG⟩
        · obtain ⟨y, hy, rfl⟩ := List.mem_map.mp e
          exact ⟨y, rfl, Nat.le_trans (pl y (List.mem_cons_of_mem _ hy)) hz⟩
      have fl := flt (G :: ps)
      rw [show (G :: ps).map D.str = [D.str G] ++ ps.map D.str from rfl] at fl
      refine ⟨small_len' (by rw [List.length_append, List.length_map]; show 1 + ps.length ≤ _; omega), fun d hd => ?_, ?_⟩
      · obtain ⟨y, rfl, ly⟩ := mem d hd
        repeat walk_at "y"
        refine e_call (fun _ => .nil) ?_
        repeat walk_at "y"
        refine ⟨by omega, figs (tl y), rfl, rfl, fun _ => ?_⟩
        repeat walk_at "y"
        rfl
      · repeat walk_at "y"
        rw [List.map_id']
        have hs : ∀ d ∈ ([D.str G] ++ ps.map D.str).filter (fun d => match d with | .str y => !figs (tl y) | _ => false), ∃ y, d = .str y := fun d hd => by
          obtain ⟨y, e, _⟩ := mem d (List.mem_filter.mp hd).1
          exact ⟨y, e⟩
        refine ⟨_, cmp_none (strs_plain hs).1 (by rw [(strs_plain hs).2]; decide), ?_⟩
        rw [fl]
        have yesP : ∀ a b : Int, tl z = ptL a b → tl p0 = sgn a ++ numL a.natAbs ∧ ((b = 1 ∧ ps = []) ∨ (b ≠ 1 ∧ ∃ p1, ps = [p1] ∧ tl p1 = numL b.toNat)) := fun a b ez => by
          rw [ez, spl_pt, List.map_cons] at es
          by_cases b1 : b = 1
          · rw [if_pos b1] at es
            refine ⟨(List.cons.inj es).1, .inl ⟨b1, ?_⟩⟩
            exact List.map_eq_nil_iff.mp (List.cons.inj es).2
          · rw [if_neg b1] at es
            refine ⟨(List.cons.inj es).1, .inr ⟨b1, ?_⟩⟩
            have e2 := (List.cons.inj es).2
            cases q : ps with
            | nil =>
              rw [q] at e2
              cases e2
            | cons p1 r =>
              rw [q] at e2
              have e3 := (List.cons.inj e2).2
              rw [List.map_eq_nil_iff.mp e3]
              exact ⟨p1, rfl, (List.cons.inj e2).1⟩
        have yesF : ∀ a b : Int, tl z = ptL a b → ((G :: ps).all fun y => figs (tl y)) = true := fun a b ez => by
          obtain ⟨e1, e2⟩ := yesP a b ez
          rw [List.all_cons, eG, e1, noSign_top, figs_num]
          rcases e2 with ⟨_, e2⟩ | ⟨_, p1, e2, e3⟩
          · rw [e2]
            rfl
          · rw [e2, List.all_cons, e3, figs_num]
            rfl
        repeat walk_at "y"
        refine ⟨fun c2 => ?_, fun c2 => ?_⟩
        · repeat walk_at "y"
          rcases h with ⟨a, b, _, ez, _⟩ | ⟨_, h⟩
          · rw [yesF a b ez] at c2
            cases c2
          · exact h
        · have c3 : ((G :: ps).all fun y => figs (tl y)) = true := by simpa using c2
          rw [List.all_cons, Bool.and_eq_true] at c3
          obtain ⟨n0, en, ab, yn⟩ := int_top (p := p0) (by rw [← eG]; exact c3.1) (by omega)
          repeat ((fail_if_success (with_reducible show tS _ _ _ (tSeq (tIfS _ _ _) _) _ _)); walk_at "y")
          dsimp only
          refine s_seqJ (fun ρ => ∃ bt : Int, ρ = [.val (.str z), .val (.lst ((p0 :: ps).map D.str)), .val (.str G), .emp, .val (.int bt)] ∧ (0 ≤ bt ∧ Sm 190 bt) ∧ ∀ a b : Int, 0 < b → tl z = ptL a b → bt = b) ?_ ?_
          · repeat walk_at "y"
            refine br2 (fun e2 => ?_) fun e2 => ?_
            · obtain ⟨p1, rfl⟩ : ∃ p1, ps = [p1] := by
                cases q : ps with
                | nil =>
                  rw [q] at e2
                  exact absurd e2 (show ¬ (((1 : Nat) : Int) = 2) by decide)
                | cons x r =>
                  rw [q] at pn1
                  have : r = [] := List.eq_nil_of_length_eq_zero (by simp only [List.length_cons] at pn1; omega)
                  exact ⟨x, by rw [this]⟩
              have f1 : figs (tl p1) = true := by
                have z := c3.2
                rw [List.all_cons, Bool.and_eq_true] at z
                exact z.1
              have d1 := figs_dig f1
              have l1 : p1.length ≤ 55 := Nat.le_trans (pl p1 (List.mem_cons_of_mem _ List.mem_cons_self)) hz
              have vl := Nat.lt_of_lt_of_le (val_lt _ d1.1) (Nat.pow_le_pow_right (show 0 < 10 by decide) (show (tl p1).length ≤ 55 by rw [← len_tl]; exact l1))
              have sv : Sm 190 ((NumText.digitsVal (tl p1) : Nat) : Int) := Nat.lt_of_lt_of_le vl (by decide)
              clear vl
              repeat walk_at "y"
              refine ⟨p1, _, rfl, intText_digits d1.1 d1.2 (by omega), by omega, ?_⟩
              repeat walk_at "y"
              refine ⟨⟨by omega, sv⟩, fun a b b0 ez => ?_⟩
              rcases (yesP a b ez).2 with ⟨_, e⟩ | ⟨_, p, e, e3⟩
              · cases e
              · have ep := (List.cons.inj e).1
                subst ep
                show ((NumText.digitsVal (tl p1) : Nat) : Int) = b
                rw [e3, numL_val]
                omega
            · repeat walk_at "y"
              refine ⟨⟨by decide, by unfold Sm; decide⟩, fun a b b0 ez => ?_⟩
              rcases (yesP a b ez).2 with ⟨e, _⟩ | ⟨_, p, e, e3⟩
              · exact e.symm
              · rw [e] at e2
                exact absurd rfl e2
          · rintro ρ' ⟨bt, rfl, ⟨bt0, bt1⟩, by_⟩
            repeat walk_at "y"
            refine ⟨fun c5 => ?_, fun c5 => ?_⟩
            · have bne := of_decide_eq_false c5
              have bp : 0 < bt := by omega
              have sn : Sm 190 n0 := by
                unfold Sm
                rw [ab]
                have dG := figs_dig c3.1
                rw [eG] at dG
                have kk := noSign_len (tl p0)
                rw [← len_tl p0] at kk
                exact Nat.lt_of_lt_of_le (val_lt _ dG.1) (Nat.le_trans (Nat.pow_le_pow_right (by decide) (show (noSign (tl p0)).length ≤ 55 by omega)) (by decide))
              obtain ⟨g, qa, qb, g0, ta, tb, qb0, da, db, gg, la, lb⟩ := prt_low (t := n0) bp
              have lo : Lowest qa qb := ⟨qb0, gg⟩
              have ep : prt n0 bt = pt qa qb := by
                unfold prt
                rw [da, db]
              have yesQ : ∀ a b : Int, Lowest a b → tl z = ptL a b → qa = a ∧ qb = b := fun a b lo' ez => by
                have e1 := yn a (yesP a b ez).1
                have e2 := by_ a b lo'.1 ez
                have o : ng n0 bt = 1 := by
                  unfold ng
                  rw [e1, e2, lo'.2]
                  rfl
                rw [o, Int.ediv_one] at da db
                exact ⟨by rw [← da, e1], by rw [← db, e2]⟩
              repeat walk_at "y"
              refine e_call (fun _ => .nil) ?_
              repeat walk_at "y"
              refine e_call (fun _ => .nil) ?_
              repeat walk_at "y"
              refine ⟨0, .str p0, rfl, atI_nat (j := 0) rfl, p0, n0, rfl, en, by omega, ?_⟩
              repeat walk_at "y"
              refine ⟨Sm.le bt1 (by decide), ?_⟩
              rw [ep]
              repeat walk_at "y"
              refine ⟨⟨qb0, Nat.lt_of_le_of_lt la (Nat.lt_of_lt_of_le sn (by decide)), Nat.lt_of_le_of_lt (show qb.toNat ≤ bt.natAbs by omega) (Nat.lt_of_lt_of_le bt1 (by decide))⟩, fun y ey => ?_⟩
              repeat walk_at "y"
              refine ⟨fun ne => ?_, fun eq => ?_⟩
              · have ne : y ≠ z := by simpa using ne
                repeat walk_at "y"
                rcases h with ⟨a, b, lo', ez, _⟩ | ⟨_, h⟩
                · obtain ⟨e1, e2⟩ := yesQ a b lo' ez
                  rw [e1, e2, ← ez] at ey
                  exact absurd (ext_tl ey) ne
                · exact h
              · have eq : y = z := by simpa using eq
                repeat walk_at "y"
                refine e_call (fun _ => .nil) ?_
                repeat walk_at "y"
                refine ⟨0, .str p0, rfl, atI_nat (j := 0) rfl, p0, n0, rfl, en, by omega, ?_⟩
                repeat walk_at "y"
                refine ⟨Sm.le bt1 (by decide), ?_⟩
                rw [ep]
                rcases h with ⟨a, b, lo', ez, hr⟩ | ⟨no, _⟩
                · obtain ⟨e1, e2⟩ := yesQ a b lo' ez
                  rw [e1, e2]
                  exact hr
                · exact absurd ⟨qa, qb, lo, by rw [← eq]; exact ey⟩ no
            · have b00 := of_decide_eq_true c5
              repeat walk_at "y"
              rcases h with ⟨a, b, lo', ez, _⟩ | ⟨_, h⟩
              · have e2 := by_ a b lo'.1 ez
                have := lo'.1
                omega
              · exact h
    · have c := of_decide_eq_true c
      rw [List.length_map] at c
      repeat walk_at "y"
      rcases h with ⟨a, b, _, ez, _⟩ | ⟨_, h⟩
      · have k := two a b ez
        simp only [List.length_cons] at c
        omega
      · exact h
end
end K02
end

section
set_option maxHeartbeats 4000000
open PySem PySem.Spec PyProof.Rows L2 Y
local macro_rules | `(tactic| walk_at "yE") => `(tactic| first
  | ((with_reducible show tE _ _ _ (tOp _ _ _) _ _); first
    | (with_reducible refine e_ix ?_)
    | (with_reducible refine e_ixS ?_)
    | (with_reducible refine e_notInS ?_)
    | (with_reducible refine e_add ?_)
    | (with_reducible refine e_catA ?_)
    | (with_reducible refine e_sub ?_)
    | (with_reducible refine e_mul ?_)
    | (with_reducible refine e_mod ?_)
    | (with_reducible refine e_fdiv ?_)
    | (with_reducible refine e_pow ?_)
    | (with_reducible refine e_shr ?_)
    | (with_reducible refine e_band ?_)
    | (with_reducible refine e_lt ?_)
    | (with_reducible refine e_le ?_)
    | (with_reducible refine e_gt ?_)
    | (with_reducible refine e_ge ?_)
    | (with_reducible refine e_eq ?_)
    | (with_reducible refine e_ne ?_)
    | (with_reducible refine e_isN ?_)
    | (with_reducible refine e_notN ?_)
    | (with_reducible refine e_isB ?_)
    | (with_reducible refine e_isntB ?_))
  | ((with_reducible show tE _ _ _ (tCB _ _) _ _); first
    | (with_reducible refine e_len ?_)
    | (with_reducible refine e_isX (by with_unfolding_all exact fun _ h => h) ?_)
    | (with_reducible refine e_isInt ?_)
    | (with_reducible refine e_isBool ?_)
    | (with_reducible refine e_isTup ?_)
    | (with_reducible refine e_isStr ?_)
    | (with_reducible refine e_isList ?_)
    | (with_reducible refine e_gcd ?_)
    | (with_reducible refine e_abs ?_)
    | (with_reducible refine e_max2 ?_)
    | (with_reducible refine e_intS ?_)
    | (with_reducible refine e_intB ?_)
    | (with_reducible refine e_strI ?_)
    | (with_reducible refine e_list ?_)
    | (with_reducible refine e_repr ?_)
    | (with_reducible refine e_tupL ?_)
    | (with_reducible refine e_all ?_))
  | (with_reducible refine e_val (by with_unfolding_all rfl) ?_)
  | (with_reducible refine e_own (by with_unfolding_all rfl) ?_)
  | (with_reducible refine e_int ?_)
  | (with_reducible refine e_bl ?_)
  | (with_reducible refine e_non ?_)
  | (with_reducible refine e_str ?_)
  | (with_reducible refine e_neg ?_)
  | (with_reducible refine e_and ?_)
  | (with_reducible refine e_or ?_)
  | (with_reducible refine e_not ?_)
  | (with_reducible refine e_if ?_)
  | (with_reducible refine e_chainI ?_)
  | (with_reducible refine e_tup ?_)
  | (with_reducible refine e_lst ?_)
  | (with_reducible refine e_dk0 ?_)
  | (with_reducible refine e_sl ?_)
  | (with_reducible refine e_orT ?_)
  | (with_reducible refine e_m0b ?_)
  | (with_reducible refine e_m1b ?_)
  | (with_reducible refine e_m1s ?_)
  | (with_reducible refine e_zfill ?_)
  | (with_reducible refine e_partition ?_)
  | (with_reducible refine e_split ?_)
  | (with_reducible refine e_joinRev ?_)
  | (with_reducible refine e_joined ?_)
  | (with_reducible refine e_fmt ?_)
  | (with_reducible refine e_revL ?_))
local macro_rules | `(tactic| walk_at "yS") => `(tactic| first
  | (with_reducible refine s_seq ?_)
  | (with_reducible refine s_if ?_)
  | (with_reducible refine s_retOwn (by with_unfolding_all rfl) ?_)
  | (with_reducible refine s_ret ?_)
  | (with_reducible refine s_retN ?_)
  | (with_reducible refine s_next ?_)
  | (with_reducible refine s_set ?_ (by with_unfolding_all exact Nat.le_of_ble_eq_true rfl))
  | (with_reducible refine s_asgG ?_)
  | (with_reducible refine s_parS ?_ (by with_unfolding_all exact Nat.le_of_ble_eq_true rfl) (by with_unfolding_all exact Nat.le_of_ble_eq_true rfl))
  | (with_reducible refine s_rz ?_)
  | (with_reducible refine s_appendS (by with_unfolding_all rfl) ?_)
  | (with_reducible refine s_expr ?_)
  | ((with_reducible refine s_tryKK ?_); intro W))
local macro_rules | `(tactic| walk_at "yT") => `(tactic| first
  | (with_reducible refine t_test ?_)
  | (with_reducible refine t_tru ?_)
  | (with_reducible refine t_not ?_)
  | (with_reducible refine t_and ?_)
  | (with_reducible refine t_or ?_))
local macro_rules | `(tactic| walk_at "yA") => `(tactic| first
  | (with_reducible refine vs_cons ?_)
  | (with_reducible refine vs_nil ?_)
  | (with_reducible refine a_cons ?_)
  | (with_reducible refine a_nil ?_)
  | (with_reducible refine o_none ?_)
  | (with_reducible refine o_some ?_))
local macro_rules | `(tactic| walk_at "yX") => `(tactic| first
  | ((with_reducible show ∃ _, CmpD _ _ _ ∧ _); first | refine ⟨_, cmpd_int, ?_⟩ | refine ⟨_, cmpd_str, ?_⟩ | refine ⟨_, cmpd_bl, ?_⟩)
  | ((with_reducible show ∃ _ _, _ ∧ ExcC _ _ ∧ _); refine ⟨_, _, rfl, by assumption, by assumption, ?_⟩)
  | (refine ⟨_, _, rfl, rfl, ?_⟩)
  | (refine ⟨_, _, rfl, ?_⟩)
  | (refine ⟨_, rfl, ?_⟩))
local macro_rules | `(tactic| walk_at "yN") => `(tactic| first
  | (with_reducible refine brT ?_)
  | (with_reducible refine brF ?_)
  | (with_reducible refine brT' ?_)
  | (with_reducible refine brF' ?_)
  | ((with_reducible show ((!_) = false → _) ∧ _); first | (refine brA' rfl ?_) | (refine brB' rfl ?_))
  | ((with_reducible show ((!_) = true → _) ∧ _); first | (refine brA rfl ?_) | (refine brB rfl ?_))
  | ((with_reducible show 0 < _ ∧ _); refine ⟨by first | decide | omega, ?_⟩)
  | ((with_reducible show _ ≤ sizeLine ∧ _); refine ⟨small_len (by with_unfolding_all exact Nat.le_of_ble_eq_true rfl), ?_⟩)
  | ((with_reducible show CPow _ _ ∧ _); refine ⟨⟨by decide, by decide, by decide⟩, ?_⟩)
  | ((with_reducible show CDivX _ _ ∧ _); refine ⟨⟨by decide, by decide⟩, ?_⟩)
  | ((with_reducible show 0 ≤ _ ∧ _); refine ⟨by first | decide | omega, ?_⟩)
  | ((with_reducible show _ = D.non ∧ _); refine ⟨rfl, ?_⟩))
local macro_rules | `(tactic| walk_at "yO") => `(tactic| first
  | ((with_reducible show vR _ _); first | (with_reducible refine vr_val ?_) | (with_reducible refine vr_own ?_))
  | ((with_reducible show asgR _ _); first | (with_reducible refine as_val ?_) | (with_reducible refine as_own ?_))
  | ((with_reducible show ∃ _, _); walk_at "yX")
  | ((with_reducible show _ ∧ _); walk_at "yN")
  | ((with_reducible show AddD _ _ _); first | (refine add_int ?_) | (refine add_lst (small_len' (by with_unfolding_all exact Nat.le_of_ble_eq_true rfl)) ?_))
  | ((with_reducible show MulD _ _ _); refine mul_int (by walk_at "mok") ?_)
  | (with_reducible refine ss_go (by with_unfolding_all repeat constructor) ?_)
  | (with_reducible refine g_nameS (by first | trivial | exact List.mem_cons_self | simp) (by with_unfolding_all repeat constructor) ?_)
  | (with_reducible refine g_tup (by with_unfolding_all rfl) ?_)
  | (with_reducible refine gs_cons ?_)
  | (with_reducible refine gs_nil ?_))
local macro_rules | `(tactic| walk_at "y") => `(tactic| first
  | ((with_reducible show tE _ _ _ _ _ _); walk_at "yE")
  | ((with_reducible show tS _ _ _ _ _ _); walk_at "yS")
  | ((with_reducible show tT _ _ _ _ _ _); walk_at "yT")
  | ((with_reducible show tVs _ _ _ _ _ _); walk_at "yA")
  | ((with_reducible show tA _ _ _ _ _ _); walk_at "yA")
  | ((with_reducible show tOo _ _ _ _ _ _); walk_at "yA")
  | walk_at "yO")
local macro_rules | `(tactic| walk_at "z") => `(tactic| (fail_if_success (with_reducible show tS _ _ _ (tSeq (tIfS _ _ _) _) _ _); walk_at "y"))
local macro_rules | `(tactic| walk_at "smb") => `(tactic| first
  | assumption
  | exact (show Sm 64 _ by unfold Sm; decide)
  | (apply Sm.mul <;> walk_at "smb")
  | (apply Sm.add2 <;> walk_at "smb")
  | (apply Sm.sub2 <;> walk_at "smb")
  | (apply Sm.neg <;> walk_at "smb"))
local macro_rules | `(tactic| walk_at "mok") => `(tactic| exact mulOk (by walk_at "smb") (by walk_at "smb") (by decide) (by decide) (by decide))

namespace K02
open PySem PySem.Spec PyProof.Rows L2 Y Wd TL Tx
section
variable {P : Program} {w : World} {K : PySem.W.Frag} {mg : Str → Option Value} {base : Heap} {f : Addr} {fd : FuncData}
theorem ok_law_read {C C_WideError : Addr} (B : Bl mg) (c_WideError : Cl mg "WideError" C_WideError) (hx : PySem.W.exmOne K (.ref C) (.ref C_WideError) = some true) (d_read_part : Dfn P w K mg base (L2.CX P w) "read_part" ["text"] 3 (fs_read_part C)) (d__law_of_class : Dfn P w K mg base CX0 "_law_of_class" ["_law_e", "_law_name"] 1 (fs_law_of_class C "NoPart"))
    (F : Fun K "_law_read" "_law_read" s__law_read f fd) : FnOk P w K mg base CX0 4 f fd ["_law_text_here"] (spD K fs_law_read) := by
  refine fn0 F sc__law_read (fun ds R Ex ⟨_, h, _⟩ => by rw [h]; rfl) fun cdv A outer s H E hr => ⟨_, (pss_cons (ps_set (i := 1) sc__law_read.nd rfl (by first | exact .inl rfl | exact .inr rfl) pe_non)
      (pss_cons (ps_set (i := 2) sc__law_read.nd rfl (by first | exact .inl rfl | exact .inr rfl) pe_non)
      (pss_cons (ps_tryK (K := K) (i := 3) (j := 2) rfl rfl sc__law_read.nd rfl rfl (by decide) rfl rfl ⟨rfl, by decide, .inl c_WideError.g⟩ rfl (by decide) (by decide) (by rfl) fun W pn xe tk _ =>
      (pss_one (ps_set (i := 1) sc__law_read.nd rfl (by first | exact .inl rfl | exact .inr rfl) (pe_dSK d_read_part hr tk (pa_cons (pv 0) pa_nil)))))
      (pss_cons (ps_if (PW.pt (pw_and (pt_cmpR op_notN (pv 2) pe_non (nomark _)) (pw_and1 (pt_not (pt_truK (K := K) (pe_dK d__law_of_class (hr.mono (by decide)) (pa_cons (pv 2) (pa_cons pe_str pa_nil)))))))) (pss_one (ps_ret pe_str)) pss_nil)
      (pss_one (ps_ret (pv 1))))))), fun ds R Ex ⟨z, hd, hz, h⟩ => ?_⟩
  subst hd
  (try dsimp only [cxOf, Cx.nox, Cx.wish]); change tS K _ _ _ [.val (.str z), .emp, .emp, .emp] _
  repeat walk_at "y"
  refine e_callS ?_
  repeat walk_at "y"
  refine ⟨hz, ?_⟩
  rcases h with ⟨a, b, lo, ez, h⟩ | ⟨no, h⟩
  · refine .inl ⟨a, b, lo, ez, ?_⟩
    repeat walk_at "y"
    exact h
  · refine .inr ⟨no, ⟨C, rfl, hx, ?_⟩⟩
    repeat walk_at "y"
    refine e_call (fun _ => .nil) ?_
    repeat walk_at "y"
    refine ⟨rfl, true, rfl, fun c => Bool.noConfusion c, fun _ => ?_⟩
    dsimp only [List.set]
    repeat walk_at "y"
    exact h
end
end K02
end

section
set_option maxHeartbeats 4000000
open PySem PySem.Spec PyProof.Rows L2 Y
local macro_rules | `(tactic| walk_at "yE") => `(tactic| first
  | ((with_reducible show tE _ _ _ (tOp _ _ _) _ _); first
    | (with_reducible refine e_ix ?_)
    | (with_reducible refine e_ixS ?_)
    | (with_reducible refine e_notInS ?_)
    | (with_reducible refine e_add ?_)
    | (with_reducible refine e_catA ?_)
    | (with_reducible refine e_sub ?_)
    | (with_reducible refine e_mul ?_)
    | (with_reducible refine e_mod ?_)
    | (with_reducible refine e_fdiv ?_)
    | (with_reducible refine e_pow ?_)
    | (with_reducible refine e_shr ?_)
    | (with_reducible refine e_band ?_)
    | (with_reducible refine e_lt ?_)
    | (with_reducible refine e_le ?_)
    | (with_reducible refine e_gt ?_)
    | (with_reducible refine e_ge ?_)
    | (with_reducible refine e_eq ?_)
    | (with_reducible refine e_ne ?_)
    | (with_reducible refine e_isN ?_)
    | (with_reducible refine e_notN ?_)
    | (with_reducible refine e_isB ?_)
    | (with_reducible refine e_isntB ?_))
  | ((with_reducible show tE _ _ _ (tCB _ _) _ _); first
    | (with_reducible refine e_len ?_)
    | (with_reducible refine e_isX (by with_unfolding_all exact fun _ h => h) ?_)
    | (with_reducible refine e_isInt ?_)
    | (with_reducible refine e_isBool ?_)
    | (with_reducible refine e_isTup ?_)
    | (with_reducible refine e_isStr ?_)
    | (with_reducible refine e_isList ?_)
    | (with_reducible refine e_gcd ?_)
    | (with_reducible refine e_abs ?_)
    | (with_reducible refine e_max2 ?_)
    | (with_reducible refine e_intS ?_)
    | (with_reducible refine e_intB ?_)
    | (with_reducible refine e_strI ?_)
    | (with_reducible refine e_list ?_)
    | (with_reducible refine e_repr ?_)
    | (with_reducible refine e_tupL ?_)
    | (with_reducible refine e_all ?_))
  | (with_reducible refine e_val (by with_unfolding_all rfl) ?_)
  | (with_reducible refine e_own (by with_unfolding_all rfl) ?_)
  | (with_reducible refine e_int ?_)
  | (with_reducible refine e_bl ?_)
  | (with_reducible refine e_non ?_)
  | (with_reducible refine e_str ?_)
  | (with_reducible refine e_neg ?_)
  | (with_reducible refine e_and ?_)
  | (with_reducible refine e_or ?_)
  | (with_reducible refine e_not ?_)
  | (with_reducible refine e_if ?_)
  | (with_reducible refine e_chainI ?_)
  | (with_reducible refine e_tup ?_)
  | (with_reducible refine e_lst ?_)
  | (with_reducible refine e_dk0 ?_)
  | (with_reducible refine e_sl ?_)
  | (with_reducible refine e_orT ?_)
  | (with_reducible refine e_m0b ?_)
  | (with_reducible refine e_m1b ?_)
  | (with_reducible refine e_m1s ?_)
  | (with_reducible refine e_zfill ?_)
  | (with_reducible refine e_partition ?_)
  | (with_reducible refine e_split ?_)
  | (with_reducible refine e_joinRev ?_)
  | (with_reducible refine e_joined ?_)
  | (with_reducible refine e_fmt ?_)
  | (with_reducible refine e_revL ?_))
local macro_rules | `(tactic| walk_at "yS") => `(tactic| first
  | (with_reducible refine s_seq ?_)
  | (with_reducible refine s_if ?_)
  | (with_reducible refine s_retOwn (by with_unfolding_all rfl) ?_)
  | (with_reducible refine s_ret ?_)
  | (with_reducible refine s_retN ?_)
  | (with_reducible refine s_next ?_)
  | (with_reducible refine s_set ?_ (by with_unfolding_all exact Nat.le_of_ble_eq_true rfl))
  | (with_reducible refine s_asgG ?_)
  | (with_reducible refine s_parS ?_ (by with_unfolding_all exact Nat.le_of_ble_eq_true rfl) (by with_unfolding_all exact Nat.le_of_ble_eq_true rfl))
  | (with_reducible refine s_rz ?_)
  | (with_reducible refine s_appendS (by with_unfolding_all rfl) ?_)
  | (with_reducible refine s_expr ?_)
  | ((with_reducible refine s_tryKK ?_); intro W))
local macro_rules | `(tactic| walk_at "yT") => `(tactic| first
  | (with_reducible refine t_test ?_)
  | (with_reducible refine t_tru ?_)
  | (with_reducible refine t_not ?_)
  | (with_reducible refine t_and ?_)
  | (with_reducible refine t_or ?_))
local macro_rules | `(tactic| walk_at "yA") => `(tactic| first
  | (with_reducible refine vs_cons ?_)
  | (with_reducible refine vs_nil ?_)
  | (with_reducible refine a_cons ?_)
  | (with_reducible refine a_nil ?_)
  | (with_reducible refine o_none ?_)
  | (with_reducible refine o_some ?_))
local macro_rules | `(tactic| walk_at "yX") => `(tactic| first
  | ((with_reducible show ∃ _, CmpD _ _ _ ∧ _); first | refine ⟨_, cmpd_int, ?_⟩ | refine ⟨_, cmpd_str, ?_⟩ | refine ⟨_, cmpd_bl, ?_⟩)
  | ((with_reducible show ∃ _ _, _ ∧ ExcC _ _ ∧ _); refine ⟨_, _, rfl, by assumption, by assumption, ?_⟩)
  | (refine ⟨_, _, rfl, rfl, ?_⟩)
  | (refine ⟨_, _, rfl, ?_⟩)
  | (refine ⟨_, rfl, ?_⟩))
local macro_rules | `(tactic| walk_at "yN") => `(tactic| first
  | (with_reducible refine brT ?_)
  | (with_reducible refine brF ?_)
  | (with_reducible refine brT' ?_)
  | (with_reducible refine brF' ?_)
  | ((with_reducible show ((!_) = false → _) ∧ _); first | (refine brA' rfl ?_) | (refine brB' rfl ?_))
  | ((with_reducible show ((!_) = true → _) ∧ _); first | (refine brA rfl ?_) | (refine brB rfl ?_))
  | ((with_reducible show 0 < _ ∧ _); refine ⟨by first | decide | omega, ?_⟩)
  | ((with_reducible show _ ≤ sizeLine ∧ _); refine ⟨small_len (by with_unfolding_all exact Nat.le_of_ble_eq_true rfl), ?_⟩)
  | ((with_reducible show CPow _ _ ∧ _); refine ⟨⟨by decide, by decide, by decide⟩, ?_⟩)
  | ((with_reducible show CDivX _ _ ∧ _); refine ⟨⟨by decide, by decide⟩, ?_⟩)
  | ((with_reducible show 0 ≤ _ ∧ _); refine ⟨by first | decide | omega, ?_⟩)
  | ((with_reducible show _ = D.non ∧ _); refine ⟨rfl, ?_⟩))
local macro_rules | `(tactic| walk_at "yO") => `(tactic| first
  | ((with_reducible show vR _ _); first | (with_reducible refine vr_val ?_) | (with_reducible refine vr_own ?_))
  | ((with_reducible show asgR _ _); first | (with_reducible refine as_val ?_) | (with_reducible refine as_own ?_))
  | ((with_reducible show ∃ _, _); walk_at "yX")
  | ((with_reducible show _ ∧ _); walk_at "yN")
  | ((with_reducible show AddD _ _ _); first | (refine add_int ?_) | (refine add_lst (small_len' (by with_unfolding_all exact Nat.le_of_ble_eq_true rfl)) ?_))
  | ((with_reducible show MulD _ _ _); refine mul_int (by walk_at "mok") ?_)
  | (with_reducible refine ss_go (by with_unfolding_all repeat constructor) ?_)
  | (with_reducible refine g_nameS (by first | trivial | exact List.mem_cons_self | simp) (by with_unfolding_all repeat constructor) ?_)
  | (with_reducible refine g_tup (by with_unfolding_all rfl) ?_)
  | (with_reducible refine gs_cons ?_)
  | (with_reducible refine gs_nil ?_))
local macro_rules | `(tactic| walk_at "y") => `(tactic| first
  | ((with_reducible show tE _ _ _ _ _ _); walk_at "yE")
  | ((with_reducible show tS _ _ _ _ _ _); walk_at "yS")
  | ((with_reducible show tT _ _ _ _ _ _); walk_at "yT")
  | ((with_reducible show tVs _ _ _ _ _ _); walk_at "yA")
  | ((with_reducible show tA _ _ _ _ _ _); walk_at "yA")
  | ((with_reducible show tOo _ _ _ _ _ _); walk_at "yA")
  | walk_at "yO")
local macro_rules | `(tactic| walk_at "z") => `(tactic| (fail_if_success (with_reducible show tS _ _ _ (tSeq (tIfS _ _ _) _) _ _); walk_at "y"))
local macro_rules | `(tactic| walk_at "smb") => `(tactic| first
  | assumption
  | exact (show Sm 64 _ by unfold Sm; decide)
  | (apply Sm.mul <;> walk_at "smb")
  | (apply Sm.add2 <;> walk_at "smb")
  | (apply Sm.sub2 <;> walk_at "smb")
  | (apply Sm.neg <;> walk_at "smb"))
local macro_rules | `(tactic| walk_at "mok") => `(tactic| exact mulOk (by walk_at "smb") (by walk_at "smb") (by decide) (by decide) (by decide))

namespace K02
open PySem PySem.Spec PyProof.Rows L2 Y Wd TL Tx
section
variable {P : Program} {w : World} {K : PySem.W.Frag} {mg : Str → Option Value} {base : Heap} {f : Addr} {fd : FuncData}
def twenty : List D := [D.str "", .str "-", .str "/", .str "1/", .str "/2", .str "-0", .str "00", .str "0/1", .str "0/3", .str "1/0", .str "2/2", .str "3/-2", .str "--1", .str "1//2", .str "1/2/3", .str "+1"] ++ [.str "1 /2", .str "x", .str "1_0", .str "0x1"]
theorem twenty_ok : twenty.all (fun d => match d with | .str y => decide (y.length ≤ 55) | _ => false) = true := by decide +kernel
theorem ok_law_other (B : Bl mg) (F : Fun K "_law_other" "_law_other" s__law_other f fd) : FnOk P w K mg base CX0 1 f fd ["_law_text_here", "_law_part_here", "_law_number"] (spD K Tx.fs_law_other) := by
  refine fn0 F sc__law_other (fun ds R Ex ⟨_, _, _, _, h, _⟩ => by rw [h]; rfl) fun cdv A outer s H E hr => ⟨_, (pss_cons (ps_set (i := 3) sc__law_other.nd rfl (by first | exact .inl rfl | exact .inr rfl) (pe_op op_mod (pv 2) pe_int))
      (pss_cons (ps_set (i := 4) sc__law_other.nd rfl (by first | exact .inl rfl | exact .inr rfl) (pe_op op_mod (pe_op op_fdivX (pv 2) pe_int) (pe_op op_addU (pe_callB (call_lenK (K := K)) (by rfl) B.bLen (by decide +kernel) (pa_cons (pv 0) pa_nil)) pe_int)))
      (pss_cons (ps_set (i := 5) sc__law_other.nd rfl (by first | exact .inl rfl | exact .inr rfl) (pe_item_str pe_str (pe_op op_mod (pe_op op_fdivX (pv 2) pe_int) pe_int) (fun _ _ => rfl)))
      (pss_cons (ps_set (i := 6) sc__law_other.nd rfl (by first | exact .inl rfl | exact .inr rfl) (pe_lst (pa_cons pe_str (pa_cons pe_str (pa_cons pe_str (pa_cons pe_str (pa_cons pe_str (pa_cons pe_str (pa_cons pe_str (pa_cons pe_str (pa_cons pe_str (pa_cons pe_str (pa_cons pe_str (pa_cons pe_str (pa_cons pe_str (pa_cons pe_str (pa_cons pe_str (pa_cons pe_str pa_nil))))))))))))))))))
      (pss_cons (ps_if (pt_cmpR op_lt (pv 3) pe_int (nomark _)) (pss_one (ps_ret (pe_ix (ix_K (K := K)) (pe_lst (pa_cons (pe_op op_addU (pe_op op_addU (pe_slice (sl_K (K := K)) (pv 0) po_none (po_some (pv 4))) (pv 5)) (pe_slice (sl_K (K := K)) (pv 0) (po_some (pv 4)) po_none)) (pa_cons (pe_op op_addU (pe_op op_addU (pe_slice (sl_K (K := K)) (pv 0) po_none (po_some (pv 4))) (pv 5)) (pe_slice (sl_K (K := K)) (pv 0) (po_some (pe_op op_addU (pv 4) pe_int)) po_none)) (pa_cons (pe_op op_addU (pe_slice (sl_K (K := K)) (pv 0) po_none (po_some (pv 4))) (pe_slice (sl_K (K := K)) (pv 0) (po_some (pe_op op_addU (pv 4) pe_int)) po_none)) pa_nil)))) (pv 3) (fun _ _ => rfl)))) pss_nil)
      (pss_cons (ps_if (pt_cmpR (op_eqK (K := K) hr) (pv 3) pe_int (nomark _)) (pss_one (ps_ret (pe_op op_addU (pe_op op_addU (pe_callTy call_str_int (by rfl) B.bStr (by decide +kernel) (pa_cons (pe_op op_mulU (pe_ix (ix_K (K := K)) (pv 1) pe_int (fun _ _ => rfl)) pe_int) pa_nil)) pe_str) (pe_callTy call_str_int (by rfl) B.bStr (by decide +kernel) (pa_cons (pe_op op_mulU (pe_ix (ix_K (K := K)) (pv 1) pe_int (fun _ _ => rfl)) pe_int) pa_nil))))) pss_nil)
      (pss_cons (ps_if (pt_cmpR (op_eqK (K := K) hr) (pv 3) pe_int (nomark _)) (pss_one (ps_ret (pe_op op_addU (pe_op op_addU (pe_callTy call_str_int (by rfl) B.bStr (by decide +kernel) (pa_cons (pe_ix (ix_K (K := K)) (pv 1) pe_int (fun _ _ => rfl)) pa_nil)) pe_str) (pe_callTy call_str_int (by rfl) B.bStr (by decide +kernel) (pa_cons (pe_ix (ix_K (K := K)) (pv 1) pe_int (fun _ _ => rfl)) pa_nil))))) pss_nil)
      (pss_cons (ps_if (pt_cmpR (op_eqK (K := K) hr) (pv 3) pe_int (nomark _)) (pss_one (ps_ret (pe_ix (ix_K (K := K)) (pe_op op_addU (pv 6) (pe_lst (pa_cons pe_str (pa_cons pe_str (pa_cons pe_str (pa_cons pe_str pa_nil)))))) (pe_op op_mod (pe_op op_fdivX (pv 2) pe_int) pe_int) (fun _ _ => rfl)))) pss_nil)
      (pss_cons (ps_if (pt_cmpR (op_eqK (K := K) hr) (pv 3) pe_int (nomark _)) (pss_one (ps_ret (pe_ix (ix_K (K := K)) (pe_lst (pa_cons (pe_op op_addU pe_str (pv 0)) (pa_cons (pe_op op_addU (pv 0) pe_str) (pa_cons (pe_op op_addU pe_str (pv 0)) (pa_cons (pe_op op_addU (pv 0) pe_str) (pa_cons (pe_op op_addU pe_str (pv 0)) pa_nil)))))) (pe_op op_mod (pe_op op_fdivX (pv 2) pe_int) pe_int) (fun _ _ => rfl)))) pss_nil)
      (pss_one (ps_ret (pv 0)))))))))))), fun ds R Ex ⟨z, a, b, n, hd, hz, ⟨b0, ha, hb⟩, n0, h⟩ => ?_⟩
  subst hd
  have tx : ∀ x : Int, x.natAbs < 10 ^ 23 → x.natAbs.log2 < 1920 ∧ (Str.ofString (toString x)).length ≤ 24 := fun x hx => by
    refine ⟨PySem.Flt.log2_lt_of (by decide) (Nat.lt_of_lt_of_le hx (Nat.le_trans (show 10 ^ 23 ≤ 2 ^ 200 by decide) (Nat.pow_le_pow_right (by decide) (by decide)))), ?_⟩
    have k := numL_len (k := 23) (by decide) hx
    rw [len_tl, tl_int, List.length_append]
    unfold sgn
    split <;> simp only [List.length_cons, List.length_nil] <;> omega
  have t1 := tx (a * 3) (by omega)
  have t2 := tx (b * 3) (by omega)
  have t3 := tx a (by omega)
  have t4 := tx b (by omega)
  have sa : Sm 100 a := by unfold Sm; omega
  have sb : Sm 100 b := by unfold Sm; omega
  clear tx ha hb
  (try dsimp only [cxOf, Cx.nox, Cx.wish]); change tS K _ _ _ [.val (.str z), .val (pt a b), .val (.int n), .emp, .emp, .emp, .emp] _
  repeat walk_at "y"
  refine ⟨z.length, ⟨small_len' (by omega), rfl⟩, ?_⟩
  repeat walk_at "y"
  have q0 := Int.emod_nonneg (n.fdiv 768) (show (16 : Int) ≠ 0 by decide)
  have q1 := Int.emod_lt_of_pos (n.fdiv 768) (show (0 : Int) < 16 by decide)
  generalize n.fdiv 768 % 16 = i at q0 q1
  obtain ⟨c, hc⟩ : ∃ c, (Str.ofString "0123456789/-+ .a").cps[i.toNat]? = some c := ⟨_, Array.getElem?_eq_getElem (show i.toNat < 16 by omega)⟩
  refine ⟨i, c, rfl, q0, by omega, show i < 16 by omega, hc, ?_⟩
  have w0 := Int.emod_nonneg n (show (12 : Int) ≠ 0 by decide)
  have w1 := Int.emod_lt_of_pos n (show (0 : Int) < 12 by decide)
  generalize n % 12 = way at w0 w1
  have v0 := Int.emod_nonneg (n.fdiv 12) (show ((z.length : Int) + 1) ≠ 0 by omega)
  have v1 := Int.emod_lt_of_pos (n.fdiv 12) (show (0 : Int) < (z.length : Int) + 1 by omega)
  generalize n.fdiv 12 % ((z.length : Int) + 1) = at' at v0 v1
  obtain ⟨at_, rfl⟩ := Int.eq_ofNat_of_zero_le v0
  have c1 := (cut_lens z at_).1
  have c2 := (cut_lens z at_).2
  have c3 : (cutS z (some ((at_ : Int) + 1)) none).length = z.length - (at_ + 1) := (cut_lens z (at_ + 1)).2
  have app : ∀ x y : Str, (x ++ y).length = x.length + y.length := fun x y => by
    rw [len_tl, tl_append, List.length_append, ← len_tl, ← len_tl]
  have s1 : (⟨#[c]⟩ : Str).length = 1 := rfl
  have z1 : (Str.ofString "/").length = 1 := rfl
  have z2 : (Str.ofString "0").length = 1 := rfl
  have z3 : (Str.ofString "/1").length = 2 := rfl
  have z4 : (Str.ofString " ").length = 1 := rfl
  have z5 : (Str.ofString "-").length = 1 := rfl
  repeat walk_at "y"
  refine br2 (fun hw => ?_) fun hw => ?_
  · repeat (first | walk_at "y" | (refine ⟨small_len' (by omega), ?_⟩) | (refine add_str (small_len' (by (try simp only [app, s1]); omega)) ?_))
    obtain ⟨d, hm, hx⟩ := ixd_any (ds := [.str (cutS z none (some (at_ : Int)) ++ ⟨#[c]⟩ ++ cutS z (some (at_ : Int)) none), .str (cutS z none (some (at_ : Int)) ++ ⟨#[c]⟩ ++ cutS z (some ((at_ : Int) + 1)) none), .str (cutS z none (some (at_ : Int)) ++ cutS z (some ((at_ : Int) + 1)) none)]) w0 hw
    simp only [List.mem_cons, List.not_mem_nil, or_false] at hm
    rcases hm with rfl | rfl | rfl <;> (refine ⟨_, _, rfl, hx, ?_⟩; exact h _ (by simp only [app, s1]; omega))
  · repeat walk_at "y"
    refine br2 (fun hw3 => ?_) fun hw3 => ?_
    · repeat walk_at "y"
      refine ⟨t1.1, ?_⟩
      repeat walk_at "y"
      have tt := t1.2
      generalize Str.ofString (toString (a * 3)) = y1 at tt
      refine add_str (small_len' (show y1.length + 1 ≤ _ by omega)) ?_
      repeat walk_at "y"
      refine ⟨t2.1, ?_⟩
      have tt2 := t2.2
      generalize Str.ofString (toString (b * 3)) = y2 at tt2
      refine add_str (small_len' (by simp only [app, z1]; omega)) ?_
      exact h _ (by simp only [app, z1]; omega)
    · repeat walk_at "y"
      refine br2 (fun hw4 => ?_) fun hw4 => ?_
      · repeat walk_at "y"
        refine ⟨t3.1, ?_⟩
        repeat walk_at "y"
        have tt := t3.2
        generalize Str.ofString (toString a) = y1 at tt
        refine add_str (small_len' (show y1.length + 1 ≤ _ by omega)) ?_
        repeat walk_at "y"
        refine ⟨t4.1, ?_⟩
        have tt2 := t4.2
        generalize Str.ofString (toString b) = y2 at tt2
        refine add_str (small_len' (by simp only [app, z1]; omega)) ?_
        exact h _ (by simp only [app, z1]; omega)
      · repeat walk_at "y"
        refine br2 (fun hw5 => ?_) fun hw5 => ?_
        · repeat walk_at "y"
          have k0 := Int.emod_nonneg (n.fdiv 12) (show (20 : Int) ≠ 0 by decide)
          have k1 := Int.emod_lt_of_pos (n.fdiv 12) (show (0 : Int) < 20 by decide)
          have all : ∀ d ∈ twenty, ∃ y : Str, d = .str y ∧ y.length ≤ 55 := fun d hd => by
            have z := (List.all_eq_true.mp twenty_ok) d hd
            revert z
            cases d <;> intro z <;> first | exact ⟨_, rfl, of_decide_eq_true z⟩ | cases z
          obtain ⟨d, hm, hx⟩ := ixd_any (ds := twenty) k0 k1
          obtain ⟨y, rfl, ly⟩ := all d hm
          exact ⟨_, _, rfl, hx, h y ly⟩
        · repeat walk_at "y"
          refine br2 (fun hw6 => ?_) fun hw6 => ?_
          · repeat walk_at "y"
            repeat (first | walk_at "y" | (refine add_str (small_len' (by simp only [z1, z2, z3, z4, z5]; omega)) ?_))
            have k0 := Int.emod_nonneg (n.fdiv 12) (show (5 : Int) ≠ 0 by decide)
            have k1 := Int.emod_lt_of_pos (n.fdiv 12) (show (0 : Int) < 5 by decide)
            obtain ⟨d, hm, hx⟩ := ixd_any (ds := [.str (Str.ofString "0" ++ z), .str (z ++ Str.ofString "/1"), .str (Str.ofString " " ++ z), .str (z ++ Str.ofString " "), .str (Str.ofString "-" ++ z)]) k0 k1
            simp only [List.mem_cons, List.not_mem_nil, or_false] at hm
            rcases hm with rfl | rfl | rfl | rfl | rfl <;> (refine ⟨_, _, rfl, hx, ?_⟩; exact h _ (by simp only [app, z1, z2, z3, z4, z5]; omega))
          · repeat walk_at "y"
            exact h z (by omega)
end
end K02
end

section
set_option maxHeartbeats 4000000
open PySem PySem.Spec PyProof.Rows L2 Y
local macro_rules | `(tactic| walk_at "yE") => `(tactic| first
  | ((with_reducible show tE _ _ _ (tOp _ _ _) _ _); first
    | (with_reducible refine e_ix ?_)
    | (with_reducible refine e_ixS ?_)
    | (with_reducible refine e_notInS ?_)
    | (with_reducible refine e_add ?_)
    | (with_reducible refine e_catA ?_)
    | (with_reducible refine e_sub ?_)
    | (with_reducible refine e_mul ?_)
    | (with_reducible refine e_mod ?_)
    | (with_reducible refine e_fdiv ?_)
    | (with_reducible refine e_pow ?_)
    | (with_reducible refine e_shr ?_)
    | (with_reducible refine e_band ?_)
    | (with_reducible refine e_lt ?_)
    | (with_reducible refine e_le ?_)
    | (with_reducible refine e_gt ?_)
    | (with_reducible refine e_ge ?_)
    | (with_reducible refine e_eq ?_)
    | (with_reducible refine e_ne ?_)
    | (with_reducible refine e_isN ?_)
    | (with_reducible refine e_notN ?_)
    | (with_reducible refine e_isB ?_)
    | (with_reducible refine e_isntB ?_))
  | ((with_reducible show tE _ _ _ (tCB _ _) _ _); first
    | (with_reducible refine e_len ?_)
    | (with_reducible refine e_isX (by with_unfolding_all exact fun _ h => h) ?_)
    | (with_reducible refine e_isInt ?_)
    | (with_reducible refine e_isBool ?_)
    | (with_reducible refine e_isTup ?_)
    | (with_reducible refine e_isStr ?_)
    | (with_reducible refine e_isList ?_)
    | (with_reducible refine e_gcd ?_)
    | (with_reducible refine e_abs ?_)
    | (with_reducible refine e_max2 ?_)
    | (with_reducible refine e_intS ?_)
    | (with_reducible refine e_intB ?_)
    | (with_reducible refine e_strI ?_)
    | (with_reducible refine e_list ?_)
    | (with_reducible refine e_repr ?_)
    | (with_reducible refine e_tupL ?_)
    | (with_reducible refine e_all ?_))
  | (with_reducible refine e_val (by with_unfolding_all rfl) ?_)
  | (with_reducible refine e_own (by with_unfolding_all rfl) ?_)
  | (with_reducible refine e_int ?_)
  | (with_reducible refine e_bl ?_)
  | (with_reducible refine e_non ?_)
  | (with_reducible refine e_str ?_)
  | (with_reducible refine e_neg ?_)
  | (with_reducible refine e_and ?_)
  | (with_reducible refine e_or ?_)
  | (with_reducible refine e_not ?_)
  | (with_reducible refine e_if ?_)
  | (with_reducible refine e_chainI ?_)
  | (with_reducible refine e_tup ?_)
  | (with_reducible refine e_lst ?_)
  | (with_reducible refine e_dk0 ?_)
  | (with_reducible refine e_sl ?_)
  | (with_reducible refine e_orT ?_)
  | (with_reducible refine e_m0b ?_)
  | (with_reducible refine e_m1b ?_)
  | (with_reducible refine e_m1s ?_)
  | (with_reducible refine e_zfill ?_)
  | (with_reducible refine e_partition ?_)
  | (with_reducible refine e_split ?_)
  | (with_reducible refine e_joinRev ?_)
  | (with_reducible refine e_joined ?_)
  | (with_reducible refine e_fmt ?_)
  | (with_reducible refine e_revL ?_))
local macro_rules | `(tactic| walk_at "yS") => `(tactic| first
  | (with_reducible refine s_seq ?_)
  | (with_reducible refine s_if ?_)
  | (with_reducible refine s_retOwn (by with_unfolding_all rfl) ?_)
  | (with_reducible refine s_ret ?_)
  | (with_reducible refine s_retN ?_)
  | (with_reducible refine s_next ?_)
  | (with_reducible refine s_set ?_ (by with_unfolding_all exact Nat.le_of_ble_eq_true rfl))
  | (with_reducible refine s_asgG ?_)
  | (with_reducible refine s_parS ?_ (by with_unfolding_all exact Nat.le_of_ble_eq_true rfl) (by with_unfolding_all exact Nat.le_of_ble_eq_true rfl))
  | (with_reducible refine s_rz ?_)
  | (with_reducible refine s_appendS (by with_unfolding_all rfl) ?_)
  | (with_reducible refine s_expr ?_)
  | ((with_reducible refine s_tryKK ?_); intro W))
local macro_rules | `(tactic| walk_at "yT") => `(tactic| first
  | (with_reducible refine t_test ?_)
  | (with_reducible refine t_tru ?_)
  | (with_reducible refine t_not ?_)
  | (with_reducible refine t_and ?_)
  | (with_reducible refine t_or ?_))
local macro_rules | `(tactic| walk_at "yA") => `(tactic| first
  | (with_reducible refine vs_cons ?_)
  | (with_reducible refine vs_nil ?_)
  | (with_reducible refine a_cons ?_)
  | (with_reducible refine a_nil ?_)
  | (with_reducible refine o_none ?_)
  | (with_reducible refine o_some ?_))
local macro_rules | `(tactic| walk_at "yX") => `(tactic| first
  | ((with_reducible show ∃ _, CmpD _ _ _ ∧ _); first | refine ⟨_, cmpd_int, ?_⟩ | refine ⟨_, cmpd_str, ?_⟩ | refine ⟨_, cmpd_bl, ?_⟩)
  | ((with_reducible show ∃ _ _, _ ∧ ExcC _ _ ∧ _); refine ⟨_, _, rfl, by assumption, by assumption, ?_⟩)
  | (refine ⟨_, _, rfl, rfl, ?_⟩)
  | (refine ⟨_, _, rfl, ?_⟩)
  | (refine ⟨_, rfl, ?_⟩))
local macro_rules | `(tactic| walk_at "yN") => `(tactic| first
  | (with_reducible refine brT ?_)
  | (with_reducible refine brF ?_)
  | (with_reducible refine brT' ?_)
  | (with_reducible refine brF' ?_)
  | ((with_reducible show ((!_) = false → _) ∧ _); first | (refine brA' rfl ?_) | (refine brB' rfl ?_))
  | ((with_reducible show ((!_) = true → _) ∧ _); first | (refine brA rfl ?_) | (refine brB rfl ?_))
  | ((with_reducible show 0 < _ ∧ _); refine ⟨by first | decide | omega, ?_⟩)
  | ((with_reducible show _ ≤ sizeLine ∧ _); refine ⟨small_len (by with_unfolding_all exact Nat.le_of_ble_eq_true rfl), ?_⟩)
  | ((with_reducible show CPow _ _ ∧ _); refine ⟨⟨by decide, by decide, by decide⟩, ?_⟩)
  | ((with_reducible show CDivX _ _ ∧ _); refine ⟨⟨by decide, by decide⟩, ?_⟩)
  | ((with_reducible show 0 ≤ _ ∧ _); refine ⟨by first | decide | omega, ?_⟩)
  | ((with_reducible show _ = D.non ∧ _); refine ⟨rfl, ?_⟩))
local macro_rules | `(tactic| walk_at "yO") => `(tactic| first
  | ((with_reducible show vR _ _); first | (with_reducible refine vr_val ?_) | (with_reducible refine vr_own ?_))
  | ((with_reducible show asgR _ _); first | (with_reducible refine as_val ?_) | (with_reducible refine as_own ?_))
  | ((with_reducible show ∃ _, _); walk_at "yX")
  | ((with_reducible show _ ∧ _); walk_at "yN")
  | ((with_reducible show AddD _ _ _); first | (refine add_int ?_) | (refine add_lst (small_len' (by with_unfolding_all exact Nat.le_of_ble_eq_true rfl)) ?_))
  | ((with_reducible show MulD _ _ _); refine mul_int (by walk_at "mok") ?_)
  | (with_reducible refine ss_go (by with_unfolding_all repeat constructor) ?_)
  | (with_reducible refine g_nameS (by first | trivial | exact List.mem_cons_self | simp) (by with_unfolding_all repeat constructor) ?_)
  | (with_reducible refine g_tup (by with_unfolding_all rfl) ?_)
  | (with_reducible refine gs_cons ?_)
  | (with_reducible refine gs_nil ?_))
local macro_rules | `(tactic| walk_at "y") => `(tactic| first
  | ((with_reducible show tE _ _ _ _ _ _); walk_at "yE")
  | ((with_reducible show tS _ _ _ _ _ _); walk_at "yS")
  | ((with_reducible show tT _ _ _ _ _ _); walk_at "yT")
  | ((with_reducible show tVs _ _ _ _ _ _); walk_at "yA")
  | ((with_reducible show tA _ _ _ _ _ _); walk_at "yA")
  | ((with_reducible show tOo _ _ _ _ _ _); walk_at "yA")
  | walk_at "yO")
local macro_rules | `(tactic| walk_at "z") => `(tactic| (fail_if_success (with_reducible show tS _ _ _ (tSeq (tIfS _ _ _) _) _ _); walk_at "y"))
local macro_rules | `(tactic| walk_at "smb") => `(tactic| first
  | assumption
  | exact (show Sm 64 _ by unfold Sm; decide)
  | (apply Sm.mul <;> walk_at "smb")
  | (apply Sm.add2 <;> walk_at "smb")
  | (apply Sm.sub2 <;> walk_at "smb")
  | (apply Sm.neg <;> walk_at "smb"))
local macro_rules | `(tactic| walk_at "mok") => `(tactic| exact mulOk (by walk_at "smb") (by walk_at "smb") (by decide) (by decide) (by decide))

namespace K02
open PySem PySem.Spec PyProof.Rows L2 Y Wd TL Tx
section
variable {P : Program} {w : World} {K : PySem.W.Frag} {mg : Str → Option Value} {base : Heap} {f : Addr} {fd : FuncData}
theorem ok_law (B : Bl mg) (d__law_row : Dfn P w K mg base CX0 "_law_row" ["_law_script", "_law_many"] 1 fs_law_row) (d__law_drawn : Dfn P w K mg base CX0 "_law_drawn" ["_law_a", "_law_b"] 1 fs_law_drawn) (d__law_part : Dfn P w K mg base CX0 "_law_part" ["_law_top", "_law_bottom"] 2 fs_law_part) (d_part_text : Dfn P w K mg base CX0 "part_text" ["part"] 2 fs_part_text) (d__law_text : Dfn P w K mg base CX0 "_law_text" ["_law_part_here"] 1 fs_law_text) (d__law_read : Dfn P w K mg base CX0 "_law_read" ["_law_text_here"] 4 fs_law_read)
    (d__law_other : Dfn P w K mg base CX0 "_law_other" ["_law_text_here", "_law_part_here", "_law_number"] 1 Tx.fs_law_other) (d__law_due : Dfn P w K mg base CX0 "_law_due" ["_law_text_here"] 3 fs_law_due) (F : Fun K "law" "law" s_law f fd) : FnOk P w K mg base CX0 5 f fd ["_law_script"] (spD K Tx.fs_law) := by
  refine fn0 F sc_law (fun ds R Ex ⟨_, h, _⟩ => by rw [h]; rfl) fun cdv A outer s H E hr => ⟨_, (pss_cons (ps_set (i := 1) sc_law.nd rfl (by first | exact .inl rfl | exact .inr rfl) (pe_dK d__law_row (hr.mono (by decide)) (pa_cons (pv 0) (pa_cons pe_int pa_nil))))
      (pss_cons (ps_for PassesOwn.never rfl (pi_range1 (by rfl) B.bRange (pa_cons (pe_op op_sub (pe_callB (call_lenK (K := K)) (by rfl) B.bLen (by decide +kernel) (pa_cons (pv 1) pa_nil)) pe_int) pa_nil)) (pg_name (i := 2) sc_law.nd rfl (by first | exact .inl rfl | exact .inr rfl))
      (pss_cons (ps_set (i := 3) sc_law.nd rfl (by first | exact .inl rfl | exact .inr rfl) (pe_dK d__law_part (hr.mono (by decide)) (pa_cons (pe_dK d__law_drawn (hr.mono (by decide)) (pa_cons (pe_ix (ix_K (K := K)) (pv 1) (pv 2) (fun _ _ => rfl)) (pa_cons (pe_ix (ix_K (K := K)) (pv 1) (pe_op op_addU (pv 2) pe_int) (fun _ _ => rfl)) pa_nil))) (pa_cons (pe_op op_addU pe_int (pe_callB call_abs (by rfl) B.bAbs (by decide +kernel) (pa_cons (pe_dK d__law_drawn (hr.mono (by decide)) (pa_cons (pe_ix (ix_K (K := K)) (pv 1) (pe_op op_addU (pv 2) pe_int) (fun _ _ => rfl)) (pa_cons (pe_ix (ix_K (K := K)) (pv 1) (pe_op op_addU (pv 2) pe_int) (fun _ _ => rfl)) pa_nil))) pa_nil))) pa_nil))))
      (pss_cons (ps_if (pt_cmpR (op_eqK (K := K) hr) (pe_op op_mod (pe_ix (ix_K (K := K)) (pv 1) (pv 2) (fun _ _ => rfl)) pe_int) pe_int (nomark _)) (pss_one (ps_set (i := 3) sc_law.nd rfl (by first | exact .inl rfl | exact .inr rfl) (pe_tup (pa_cons (pe_ix (ix_K (K := K)) (pv 3) pe_int (fun _ _ => rfl)) (pa_cons pe_int pa_nil))))) pss_nil)
      (pss_cons (ps_set (i := 4) sc_law.nd rfl (by first | exact .inl rfl | exact .inr rfl) (pe_dK d_part_text (hr.mono (by decide)) (pa_cons (pv 3) pa_nil)))
      (pss_cons (ps_if (PW.pt (pw_or (pt_not (pt_truK (K := K) (pe_callB (call_isiK (K := K)) (by rfl) B.bIsi (by decide +kernel) (pa_cons (pv 4) (pa_cons (pe_bltn (v := .ty "str") rfl B.bStr (by decide +kernel) rfl) pa_nil))))) (pw_or (pt_cmpR (op_neK (K := K) hr) (pv 4) (pe_dK d__law_text (hr.mono (by decide)) (pa_cons (pv 3) pa_nil)) (nomark _)) (pw_or1 (pt_cmpR (op_neK (K := K) hr) (pe_dK d__law_read hr (pa_cons (pv 4) pa_nil)) (pv 3) (nomark _)))))) (pss_one (ps_ret pe_bl)) pss_nil)
      (pss_cons (ps_set (i := 5) sc_law.nd rfl (by first | exact .inl rfl | exact .inr rfl) (pe_dK d__law_other (hr.mono (by decide)) (pa_cons (pv 4) (pa_cons (pv 3) (pa_cons (pe_ix (ix_K (K := K)) (pv 1) (pe_op op_addU (pv 2) pe_int) (fun _ _ => rfl)) pa_nil)))))
      (pss_cons (ps_set (i := 6) sc_law.nd rfl (by first | exact .inl rfl | exact .inr rfl) (pe_dK d__law_read hr (pa_cons (pv 5) pa_nil)))
      (pss_one (ps_if (PW.pt (pw_or (pt_cmpR (op_neK (K := K) hr) (pv 6) (pe_dK d__law_due (hr.mono (by decide)) (pa_cons (pv 5) pa_nil)) (nomark _)) (pw_or1 (PW.pt (pw_and (pt_cmpR op_notN (pv 6) pe_non (nomark _)) (pw_and1 (pt_not (pt_truK (K := K) (pe_callB (call_isiK (K := K)) (by rfl) B.bIsi (by decide +kernel) (pa_cons (pv 6) (pa_cons (pe_bltn (v := .ty "tuple") rfl B.bTuple (by decide +kernel) rfl) pa_nil))))))))))) (pss_one (ps_ret pe_bl)) pss_nil)))))))))
      (pss_one (ps_ret pe_bl)))), fun ds R Ex ⟨ns, hd, hn, h⟩ => ?_⟩
  subst hd
  (try dsimp only [cxOf, Cx.nox, Cx.wish]); change tS K _ _ _ [.val (.fz (ns.map D.int)), .emp, .emp, .emp, .emp, .emp, .emp] _
  repeat walk_at "y"
  refine e_call (fun _ => .nil) ?_
  repeat walk_at "y"
  refine ⟨hn, by decide, fun rows hl hx => ?_⟩
  repeat ((fail_if_success (with_reducible show tS _ _ _ _ _ _)); walk_at "y")
  dsimp only
  have hl : rows.length = ns.length + 8 := hl
  refine s_freezeS (i := 1) rfl (by repeat constructor) ?_
  repeat walk_at "y"
  refine s_for (i_range1 ?_)
  repeat walk_at "y"
  refine ⟨by rw [List.length_map, hl]; omega, by rw [List.length_map, hl]; omega, ?_⟩
  refine ⟨fun i ρ => ∃ s2 s3 s4 s5 s6 : Slot, ρ = [.val (.fz (ns.map D.int)), .val (.lst (rows.map D.int)), s2, s3, s4, s5, s6], ⟨_, _, _, _, _, rfl⟩, ?_, ?_⟩
  · rintro i d ρ' hd ⟨s2, s3, s4, s5, s6, rfl⟩
    obtain ⟨hi, rfl⟩ := rangeD_get hd
    rw [List.length_map, hl] at hi
    rw [Int.zero_add]
    obtain ⟨c0, h0, a0⟩ := cell_at hx (i := (i : Int)) (by omega) (by omega)
    obtain ⟨c1, h1, a1⟩ := cell_at hx (i := (i : Int) + 1) (by omega) (by omega)
    obtain ⟨c2, h2, a2⟩ := cell_at hx (i := (i : Int) + 2) (by omega) (by omega)
    repeat walk_at "y"
    refine e_call (fun _ => .nil) ?_
    repeat walk_at "y"
    refine e_call (fun _ => .nil) ?_
    repeat walk_at "y"
    refine ⟨_, _, rfl, a0, ?_⟩
    repeat walk_at "y"
    refine ⟨_, _, rfl, a1, ?_⟩
    repeat walk_at "y"
    refine ⟨h0, h1, fun a ha => ?_⟩
    have sa : Sm 67 a := Nat.lt_of_lt_of_le ha (by decide)
    clear ha
    repeat walk_at "y"
    refine e_call (fun _ => .nil) ?_
    repeat walk_at "y"
    refine ⟨_, _, rfl, a1, ?_⟩
    repeat walk_at "y"
    refine ⟨_, _, rfl, a2, ?_⟩
    repeat walk_at "y"
    refine ⟨h1, h2, fun b hb => ?_⟩
    have sb : Sm 67 b := Nat.lt_of_lt_of_le hb (by decide)
    clear hb
    repeat walk_at "y"
    obtain ⟨u, eu⟩ : ∃ u : Int, u = 1 + ((b.natAbs : Nat) : Int) := ⟨_, rfl⟩
    have u0 : 0 < u := by omega
    have su : Sm 68 u := by
      unfold Sm at *
      omega
    rw [← eu]
    refine ⟨Sm.le su (by decide), ?_⟩
    obtain ⟨g, qa, qb, g0, ta, tb, qb0, da, db, gg, la, lb⟩ := prt_low (t := a) u0
    have ep : prt a u = pt qa qb := by
      unfold prt
      rw [da, db]
    rw [ep]
    have sqa : Sm 67 qa := by
      unfold Sm at *
      omega
    have sqb : Sm 68 qb := by
      unfold Sm at *
      omega
    repeat ((fail_if_success (with_reducible show tS _ _ _ (tSeq (tIfS _ _ _) _) _ _)); walk_at "y")
    dsimp only
    refine s_seqJ (fun ρ => ∃ x y : Int, ρ = [.val (.fz (ns.map D.int)), .val (.lst (rows.map D.int)), .val (.int (i : Int)), .val (pt x y), s4, s5, s6] ∧ Lowest x y ∧ Sm 67 x ∧ Sm 68 y) ?_ ?_
    · repeat walk_at "y"
      refine ⟨_, _, rfl, a0, ?_⟩
      repeat walk_at "y"
      refine br2 (fun c => ?_) fun c => ?_
      · repeat walk_at "y"
        refine ⟨⟨by decide, by show Nat.gcd qa.natAbs 1 = 1; exact Nat.gcd_one_right _⟩, sqa, by unfold Sm; decide⟩
      · repeat walk_at "y"
        exact ⟨⟨qb0, gg⟩, sqa, sqb⟩
    · rintro ρ' ⟨x, y, rfl, lo, sx, sy⟩
      repeat walk_at "y"
      have y0 := lo.1
      have big : Big x y := ⟨lo.1, Nat.lt_of_lt_of_le sx (by decide), Nat.lt_of_lt_of_le (show y.toNat < 2 ^ 68 by unfold Sm at sy; omega) (by decide)⟩
      have pl : (ptL x y).length ≤ 44 := pt_len (k := 21) (Nat.lt_of_lt_of_le sx (by decide)) (Nat.lt_of_lt_of_le (show y.toNat < 2 ^ 68 by unfold Sm at sy; omega) (by decide)) (by decide)
      refine e_call (fun _ => .nil) ?_
      repeat walk_at "y"
      refine ⟨big, fun t et => ?_⟩
      have tl_ : t.length ≤ 44 := by
        rw [len_tl, et]
        exact pl
      repeat walk_at "y"
      refine ⟨rfl, ?_⟩
      repeat walk_at "y"
      refine e_call (fun _ => .nil) ?_
      repeat walk_at "y"
      refine ⟨big, fun t' et' => ?_⟩
      have ett : t' = t := ext_tl (by rw [et, et'])
      rw [ett]
      repeat walk_at "y"
      refine br2n' (fun _ => ?_) (fun z => absurd rfl z)
      repeat walk_at "y"
      refine e_call (fun _ => .nil) ?_
      repeat walk_at "y"
      refine ⟨by omega, .inl ⟨x, y, lo, et, ?_⟩⟩
      have cp : ∀ x y : Int, CmpD (pt x y) (pt x y) true := fun x y => cmpd_same rfl (Nat.le_of_ble_eq_true rfl)
      repeat walk_at "y"
      refine ⟨_, cp x y, ?_⟩
      repeat walk_at "y"
      refine e_call (fun _ => .nil) ?_
      repeat walk_at "y"
      refine ⟨_, _, rfl, a2, ?_⟩
      repeat walk_at "y"
      refine ⟨t, x, y, c2, rfl, by omega, ⟨lo.1, Nat.lt_of_lt_of_le sx (by decide), Nat.lt_of_lt_of_le (show y.toNat < 2 ^ 68 by unfold Sm at sy; omega) (by decide)⟩, h2.1, fun o lo_ => ?_⟩
      repeat walk_at "y"
      refine e_call (fun _ => .nil) ?_
      repeat walk_at "y"
      by_cases ex : ∃ a b : Int, Lowest a b ∧ tl o = ptL a b
      · obtain ⟨a', b', lo', eo⟩ := ex
        refine ⟨by omega, .inl ⟨a', b', lo', eo, ?_⟩⟩
        repeat walk_at "y"
        refine e_call (fun _ => .nil) ?_
        repeat walk_at "y"
        refine ⟨by omega, .inl ⟨a', b', lo', eo, ?_⟩⟩
        repeat walk_at "y"
        refine ⟨_, cp a' b', ?_⟩
        repeat walk_at "y"
        refine ⟨rfl, true, rfl, fun z => Bool.noConfusion z, fun _ => ?_⟩
        repeat walk_at "y"
        exact ⟨_, _, _, _, _, rfl⟩
      · refine ⟨by omega, .inr ⟨ex, ?_⟩⟩
        repeat walk_at "y"
        refine e_call (fun _ => .nil) ?_
        repeat walk_at "y"
        refine ⟨by omega, .inr ⟨ex, ?_⟩⟩
        repeat walk_at "y"
        dsimp only
        refine ⟨true, cmpd_same rfl (Nat.le_of_ble_eq_true rfl), ?_⟩
        repeat walk_at "y"
        exact ⟨_, _, _, _, _, rfl⟩
  · rintro ρ' ⟨s2, s3, s4, s5, s6, rfl⟩
    repeat walk_at "y"
    exact h
end
end K02
end

section
set_option maxHeartbeats 4000000
namespace K02
open PySem PySem.Spec PyProof.Rows L2 Y Wd TL Tx
section
variable {K : PySem.W.Frag}
theorem kit_same {C : Addr} : PySem.W.kitOne K (.ref C) (.ref C) = some true := by
  unfold PySem.W.kitOne
  rw [if_pos (beq_self_eq_true _)]
theorem kit_no {C D : Addr} (h1 : (C == D) = false) (h2 : PySem.W.isClsIn K D = true) (h3 : PySem.W.typeIn K (.ref D) = some (.type "type")) (h4 : PySem.W.subIn K (.ref C) (.ref D) = some false) : PySem.W.kitOne K (.ref C) (.ref D) = some false := by
  have h5 : ¬ (Value.ref C == Value.ref D) = true := by
    intro z
    have z2 : C = D := Value.ref.inj (beq_iff_eq.mp z)
    rw [z2, beq_self_eq_true] at h1
    cases h1
  unfold PySem.W.kitOne
  rw [if_neg h5]
  unfold PySem.W.kitCls
  have h6 : ((PySem.W.clsIn K D).isSome && PySem.W.typeIn K (.ref D) == some (.type "type")) = true := by
    rw [h3]
    unfold PySem.W.isClsIn at h2
    rw [h2]
    rfl
  show (if ((PySem.W.clsIn K D).isSome && PySem.W.typeIn K (.ref D) == some (.type "type")) = true then PySem.W.subIn K (.ref C) (.ref D) else none) = _
  rw [if_pos h6, h4]
theorem kit_ve {C : Addr} (h : PySem.W.subIn K (.ref C) (.type "ValueError") = some true) : PySem.W.kitOne K (.ref C) (.type "ValueError") = some true := by
  unfold PySem.W.kitOne
  rw [if_neg (show ¬ (Value.ref C == Value.type "ValueError") = true from fun z => by cases beq_iff_eq.mp z)]
  show (if PySem.W.kitMeta "ValueError" = true then PySem.W.subIn K (.ref C) (.type "ValueError") else none) = _
  rw [if_pos (by decide +kernel), h]
theorem rps_ints {G : Hp} : ∀ ns : List Int, Rps K G (ns.map V.int) (ns.map D.int)
  | [] => .nil
  | n :: ns => .cons (.int n) (rps_ints ns)
theorem law_sp {H : Hp} {a : Addr} {ns : List Int} (hl : ns.length ≤ 63) (hS : SqL K H a (ns.map V.int)) : spD K fs_law [.ref a] H (fun v _ => v = .bl true) fun _ _ _ => False :=
  ⟨H, [.fz (ns.map D.int)], fun r => r = .val (.bl true), fun _ => False, Same.refl H, .cons (.fz hS (rps_ints ns)) .nil, ⟨ns, rfl, hl, rfl⟩, fun r hr v G' H' e k => by
    subst hr
    cases (show Rp K G' v (.bl true) from k)
    rfl, fun c hc => hc.elim⟩
end
theorem all_mk {l : PySem.W.OpenLaw} {w : World} {K : PySem.W.Frag} {h : Heap} {mg : Str → Option Value} {fa : Addr} (X : K.In h) (G : h.Ns mainGlobals mg) (hfa : mg "law" = some (.ref fa))
    {C_WideError : Addr} {C_NoPart : Addr} {C_NoSpan : Addr} {C_NoBox : Addr} {C_NoText : Addr} {C_NoItem : Addr} {C_NoName : Addr} {C_NoWish : Addr} {C_NoChange : Addr} {C_NoRow : Addr} {C_TooMany : Addr} {oc___init__ : Value} {kV___init__ : Value} {doc___init__ : Value} {pm___init__ : Value} {cd___init__ : Value} {ct___init__ : Value} {o1___init__ : Value} {od___init__ : Option Addr} {an___init__ : Option Addr} {o2___init__ : Option Addr} {sl___init__ : Array (Option Value)} {f___init__ : Addr} {T___init__ : Addr} {tn___init__ : Nat} {o3___init__ : Array (Option Value)} {it___init__ : Array Value} {nm_NoPart : Str} {q_NoPart : Str} {N_NoPart : Addr} {bs_NoPart : List Value} {bm_NoPart : List Value} {sn_NoPart : List Str} {sub_NoPart : List Value} {ab_NoPart : Bool} {col_NoPart : Option Bool} {dd_NoPart : Option Addr} {k0_NoPart : Option Value} {k1_NoPart : Option Value} {nv_NoPart : Str} {tk_NoPart : Tok} {k3_NoPart : Option Value} {k5_NoPart : Option Value} {t_RUN : Tok} {oc_is_number : Value} {kV_is_number : Value} {doc_is_number : Value} {pm_is_number : Value} {cd_is_number : Value} {ct_is_number : Value} {od_is_number : Option Addr} {an_is_number : Option Addr} {sl_is_number : Array (Option Value)} {f_is_number : Addr} {oc_number_of : Value} {kV_number_of : Value} {doc_number_of : Value} {pm_number_of : Value} {cd_number_of : Value} {ct_number_of : Value} {od_number_of : Option Addr} {an_number_of : Option Addr} {sl_number_of : Array (Option Value)} {f_number_of : Addr} {oc_figures_of : Value} {kV_figures_of : Value} {doc_figures_of : Value} {pm_figures_of : Value} {cd_figures_of : Value} {ct_figures_of : Value} {od_figures_of : Option Addr} {an_figures_of : Option Addr} {sl_figures_of : Array (Option Value)} {f_figures_of : Addr} {oc_is_whole : Value} {kV_is_whole : Value} {doc_is_whole : Value} {pm_is_whole : Value} {cd_is_whole : Value} {ct_is_whole : Value} {od_is_whole : Option Addr} {an_is_whole : Option Addr} {sl_is_whole : Array (Option Value)} {f_is_whole : Addr} {oc_is_part : Value} {kV_is_part : Value} {doc_is_part : Value} {pm_is_part : Value} {cd_is_part : Value} {ct_is_part : Value} {od_is_part : Option Addr} {an_is_part : Option Addr} {sl_is_part : Array (Option Value)} {f_is_part : Addr} {oc_part_text : Value} {kV_part_text : Value} {doc_part_text : Value} {pm_part_text : Value} {cd_part_text : Value} {ct_part_text : Value} {od_part_text : Option Addr} {an_part_text : Option Addr} {sl_part_text : Array (Option Value)} {f_part_text : Addr} {oc_read_part : Value} {kV_read_part : Value} {doc_read_part : Value} {pm_read_part : Value} {cd_read_part : Value} {ct_read_part : Value} {od_read_part : Option Addr} {an_read_part : Option Addr} {sl_read_part : Array (Option Value)} {f_read_part : Addr} {oc__law_row : Value} {kV__law_row : Value} {doc__law_row : Value} {pm__law_row : Value} {cd__law_row : Value} {ct__law_row : Value} {od__law_row : Option Addr} {an__law_row : Option Addr} {sl__law_row : Array (Option Value)} {f__law_row : Addr} {oc__law_gcd : Value} {kV__law_gcd : Value} {doc__law_gcd : Value} {pm__law_gcd : Value} {cd__law_gcd : Value} {ct__law_gcd : Value} {od__law_gcd : Option Addr} {an__law_gcd : Option Addr} {sl__law_gcd : Array (Option Value)} {f__law_gcd : Addr} {oc__law_part : Value} {kV__law_part : Value} {doc__law_part : Value} {pm__law_part : Value} {cd__law_part : Value} {ct__law_part : Value} {od__law_part : Option Addr} {an__law_part : Option Addr} {sl__law_part : Array (Option Value)} {f__law_part : Addr} {oc__law_drawn : Value} {kV__law_drawn : Value} {doc__law_drawn : Value} {pm__law_drawn : Value} {cd__law_drawn : Value} {ct__law_drawn : Value} {od__law_drawn : Option Addr} {an__law_drawn : Option Addr} {sl__law_drawn : Array (Option Value)} {f__law_drawn : Addr} {oc__law_of_class : Value} {kV__law_of_class : Value} {doc__law_of_class : Value} {pm__law_of_class : Value} {cd__law_of_class : Value} {ct__law_of_class : Value} {od__law_of_class : Option Addr} {an__law_of_class : Option Addr} {sl__law_of_class : Array (Option Value)} {f__law_of_class : Addr} {oc__law_text : Value} {kV__law_text : Value} {doc__law_text : Value} {pm__law_text : Value} {cd__law_text : Value} {ct__law_text : Value} {od__law_text : Option Addr} {an__law_text : Option Addr} {sl__law_text : Array (Option Value)} {f__law_text : Addr} {oc__law_figures : Value} {kV__law_figures : Value} {doc__law_figures : Value} {pm__law_figures : Value} {cd__law_figures : Value} {ct__law_figures : Value} {od__law_figures : Option Addr} {an__law_figures : Option Addr} {sl__law_figures : Array (Option Value)} {f__law_figures : Addr} {oc__law_due : Value} {kV__law_due : Value} {doc__law_due : Value} {pm__law_due : Value} {cd__law_due : Value} {ct__law_due : Value} {od__law_due : Option Addr} {an__law_due : Option Addr} {sl__law_due : Array (Option Value)} {f__law_due : Addr} {oc__law_other : Value} {kV__law_other : Value} {doc__law_other : Value} {pm__law_other : Value} {cd__law_other : Value} {ct__law_other : Value} {od__law_other : Option Addr} {an__law_other : Option Addr} {sl__law_other : Array (Option Value)} {f__law_other : Addr} {oc__law_read : Value} {kV__law_read : Value} {doc__law_read : Value} {pm__law_read : Value} {cd__law_read : Value} {ct__law_read : Value} {od__law_read : Option Addr} {an__law_read : Option Addr} {sl__law_read : Array (Option Value)} {f__law_read : Addr} {oc_law : Value} {kV_law : Value} {doc_law : Value} {pm_law : Value} {cd_law : Value} {ct_law : Value} {od_law : Option Addr} {an_law : Option Addr} {sl_law : Array (Option Value)} {f_law : Addr}
    (z_len : PySem.W.nsIn K mainGlobals "len" = some none)
    (z_isinstance : PySem.W.nsIn K mainGlobals "isinstance" = some none)
    (z_range : PySem.W.nsIn K mainGlobals "range" = some none)
    (z_int : PySem.W.nsIn K mainGlobals "int" = some none)
    (z_str : PySem.W.nsIn K mainGlobals "str" = some none)
    (z_list : PySem.W.nsIn K mainGlobals "list" = some none)
    (z_tuple : PySem.W.nsIn K mainGlobals "tuple" = some none)
    (z_bool : PySem.W.nsIn K mainGlobals "bool" = some none)
    (z_abs : PySem.W.nsIn K mainGlobals "abs" = some none)
    (z_max : PySem.W.nsIn K mainGlobals "max" = some none)
    (z_min : PySem.W.nsIn K mainGlobals "min" = some none)
    (z_all : PySem.W.nsIn K mainGlobals "all" = some none)
    (z_any : PySem.W.nsIn K mainGlobals "any" = some none)
    (z_enumerate : PySem.W.nsIn K mainGlobals "enumerate" = some none)
    (z_zip : PySem.W.nsIn K mainGlobals "zip" = some none)
    (z_repr : PySem.W.nsIn K mainGlobals "repr" = some none)
    (z_sum : PySem.W.nsIn K mainGlobals "sum" = some none)
    (z_sorted : PySem.W.nsIn K mainGlobals "sorted" = some none)
    (z_ValueError : PySem.W.nsIn K mainGlobals "ValueError" = some none)
    (z_reversed : PySem.W.nsIn K mainGlobals "reversed" = some none)
    (z_divmod : PySem.W.nsIn K mainGlobals "divmod" = some none)
    (zgcd : PySem.W.nsIn K mainGlobals "gcd" = some (some (.builtin "math.gcd")))
    (g_WideError : PySem.W.nsIn K mainGlobals "WideError" = some (some (.ref C_WideError)))
    (g_NoPart : PySem.W.nsIn K mainGlobals "NoPart" = some (some (.ref C_NoPart)))
    (g_NoSpan : PySem.W.nsIn K mainGlobals "NoSpan" = some (some (.ref C_NoSpan)))
    (g_NoBox : PySem.W.nsIn K mainGlobals "NoBox" = some (some (.ref C_NoBox)))
    (g_NoText : PySem.W.nsIn K mainGlobals "NoText" = some (some (.ref C_NoText)))
    (g_NoItem : PySem.W.nsIn K mainGlobals "NoItem" = some (some (.ref C_NoItem)))
    (g_NoName : PySem.W.nsIn K mainGlobals "NoName" = some (some (.ref C_NoName)))
    (g_NoWish : PySem.W.nsIn K mainGlobals "NoWish" = some (some (.ref C_NoWish)))
    (g_NoChange : PySem.W.nsIn K mainGlobals "NoChange" = some (some (.ref C_NoChange)))
    (g_NoRow : PySem.W.nsIn K mainGlobals "NoRow" = some (some (.ref C_NoRow)))
    (g_TooMany : PySem.W.nsIn K mainGlobals "TooMany" = some (some (.ref C_TooMany)))
    (vV : PySem.W.findCls K (.type "ValueError") (.type "type") "__init__" = some (.val (.builtin "ValueError.__init__")))
    (i___init__ : PySem.W.findIn K (.ref C_NoPart) "__init__" = some (some (.ref f___init__)))
    (l___init__ : K.lookup f___init__ = some ⟨oc___init__, od___init__, .func (PySem.W.fnOf "__init__" "WideError.__init__" (defArgs s___init__) (defBody s___init__) (defScope s___init__) (.ref T___init__) kV___init__ doc___init__ pm___init__ an___init__ cd___init__ ct___init__), sl___init__⟩)
    (c___init__ : PySem.W.codeIn K cd___init__ "WideError.__init__" = true)
    (k___init__ : PySem.W.keepIn K (.ref f___init__) = true)
    (ti___init__ : PySem.W.typeIn K (.ref f___init__) = some (.type "function"))
    (lt___init__ : K.lookup T___init__ = some ⟨o1___init__, o2___init__, .seq it___init__ tn___init__, o3___init__⟩)
    (iv___init__ : ∃ its : List Value, it___init__ = its.toArray ∧ Vals [.str ""] its)
    (xo_NoPart : K.lookup C_NoPart = some (excClassObj nm_NoPart q_NoPart C_NoPart N_NoPart bs_NoPart bm_NoPart true sn_NoPart sub_NoPart ab_NoPart col_NoPart dd_NoPart k0_NoPart k1_NoPart (some (.str nv_NoPart tk_NoPart)) k3_NoPart k5_NoPart "ValueError.__new__"))
    (xm_NoPart : PySem.HandSPX.refsVE bm_NoPart = true)
    (xs_NoPart : PySem.W.findIn K (.ref C_NoPart) "__setattr__" = some (some (.builtin "object.__setattr__")))
    (xk_NoPart : PySem.W.findIn K (.ref C_NoPart) "kind" = some none)
    (xr_NoPart : PySem.W.readsIn K C_NoPart (.type "type") = true)
    (xf_NoPart : PySem.W.findCls K (.ref C_NoPart) (.type "type") "__name__" = some (.get (.builtin "getset_descriptor.__get__") (.builtin "type.__name__") (.ref C_NoPart) (.type "type")))
    (kk_NoPart : PySem.W.keepIn K (.ref C_NoPart) = true)
    (tt_NoPart : PySem.W.typeIn K (.ref C_NoPart) = some (.type "type"))
    (e1_NoPart : PySem.W.findIn K (.ref C_NoPart) "__getattribute__" = some (some (.builtin "BaseException.__getattribute__")))
    (e2_NoPart : PySem.W.findIn K (.ref C_NoPart) "__getattr__" = some none)
    (e3_NoPart : PySem.W.subIn K (.ref C_NoPart) (.type "BaseException") = some true)
    (e4_NoPart : PySem.W.hasDictIn K C_NoPart = true)
    (e5_NoPart : PySem.W.findIn K (.ref C_NoPart) "__class__" = some (some (.builtin "object.__class__")))
    (e6_NoPart : PySem.W.specialIn K (.builtin "object.__class__") "__get__" = some (some (.builtin "getset_descriptor.__get__")))
    (e7_NoPart : PySem.W.takesIn K (.builtin "object.__class__") = some true)
    (e8_NoPart : PySem.W.mroIn K C_NoPart (.type "object") = some true)
    (w1 : PySem.W.subIn K (.ref C_WideError) (.type "BaseException") = some true)
    (w2 : PySem.W.hasDictIn K C_WideError = true)
    (w3 : PySem.W.typeIn K (.ref C_WideError) = some (.type "type"))
    (w4_NoPart : PySem.W.subIn K (.ref C_NoPart) (.ref C_WideError) = some true)
    (gc_RUN : PySem.W.nsIn K mainGlobals "RUN" = some (some (.int 60 t_RUN)))
    (kve : PySem.W.subIn K (.ref C_NoPart) (.type "ValueError") = some true)
    (kn1_NoSpan : (C_NoPart == C_NoSpan) = false)
    (kn2_NoSpan : PySem.W.isClsIn K C_NoSpan = true)
    (kn3_NoSpan : PySem.W.typeIn K (.ref C_NoSpan) = some (.type "type"))
    (kn4_NoSpan : PySem.W.subIn K (.ref C_NoPart) (.ref C_NoSpan) = some false)
    (kn1_NoBox : (C_NoPart == C_NoBox) = false)
    (kn2_NoBox : PySem.W.isClsIn K C_NoBox = true)
    (kn3_NoBox : PySem.W.typeIn K (.ref C_NoBox) = some (.type "type"))
    (kn4_NoBox : PySem.W.subIn K (.ref C_NoPart) (.ref C_NoBox) = some false)
    (kn1_NoText : (C_NoPart == C_NoText) = false)
    (kn2_NoText : PySem.W.isClsIn K C_NoText = true)
    (kn3_NoText : PySem.W.typeIn K (.ref C_NoText) = some (.type "type"))
    (kn4_NoText : PySem.W.subIn K (.ref C_NoPart) (.ref C_NoText) = some false)
    (kn1_NoItem : (C_NoPart == C_NoItem) = false)
    (kn2_NoItem : PySem.W.isClsIn K C_NoItem = true)
    (kn3_NoItem : PySem.W.typeIn K (.ref C_NoItem) = some (.type "type"))
    (kn4_NoItem : PySem.W.subIn K (.ref C_NoPart) (.ref C_NoItem) = some false)
    (kn1_NoName : (C_NoPart == C_NoName) = false)
    (kn2_NoName : PySem.W.isClsIn K C_NoName = true)
    (kn3_NoName : PySem.W.typeIn K (.ref C_NoName) = some (.type "type"))
    (kn4_NoName : PySem.W.subIn K (.ref C_NoPart) (.ref C_NoName) = some false)
    (kn1_NoWish : (C_NoPart == C_NoWish) = false)
    (kn2_NoWish : PySem.W.isClsIn K C_NoWish = true)
    (kn3_NoWish : PySem.W.typeIn K (.ref C_NoWish) = some (.type "type"))
    (kn4_NoWish : PySem.W.subIn K (.ref C_NoPart) (.ref C_NoWish) = some false)
    (kn1_NoChange : (C_NoPart == C_NoChange) = false)
    (kn2_NoChange : PySem.W.isClsIn K C_NoChange = true)
    (kn3_NoChange : PySem.W.typeIn K (.ref C_NoChange) = some (.type "type"))
    (kn4_NoChange : PySem.W.subIn K (.ref C_NoPart) (.ref C_NoChange) = some false)
    (kn1_NoRow : (C_NoPart == C_NoRow) = false)
    (kn2_NoRow : PySem.W.isClsIn K C_NoRow = true)
    (kn3_NoRow : PySem.W.typeIn K (.ref C_NoRow) = some (.type "type"))
    (kn4_NoRow : PySem.W.subIn K (.ref C_NoPart) (.ref C_NoRow) = some false)
    (kn1_TooMany : (C_NoPart == C_TooMany) = false)
    (kn2_TooMany : PySem.W.isClsIn K C_TooMany = true)
    (kn3_TooMany : PySem.W.typeIn K (.ref C_TooMany) = some (.type "type"))
    (kn4_TooMany : PySem.W.subIn K (.ref C_NoPart) (.ref C_TooMany) = some false)
    (a_is_number : PySem.W.nsIn K mainGlobals "is_number" = some (some (.ref f_is_number)))
    (l_is_number : K.lookup f_is_number = some ⟨oc_is_number, od_is_number, .func (PySem.W.fnOf "is_number" "is_number" (defArgs s_is_number) (defBody s_is_number) (defScope s_is_number) .none kV_is_number doc_is_number pm_is_number an_is_number cd_is_number ct_is_number), sl_is_number⟩)
    (c_is_number : PySem.W.codeIn K cd_is_number "is_number" = true)
    (k_is_number : PySem.W.keepIn K (.ref f_is_number) = true)
    (a_number_of : PySem.W.nsIn K mainGlobals "number_of" = some (some (.ref f_number_of)))
    (l_number_of : K.lookup f_number_of = some ⟨oc_number_of, od_number_of, .func (PySem.W.fnOf "number_of" "number_of" (defArgs s_number_of) (defBody s_number_of) (defScope s_number_of) .none kV_number_of doc_number_of pm_number_of an_number_of cd_number_of ct_number_of), sl_number_of⟩)
    (c_number_of : PySem.W.codeIn K cd_number_of "number_of" = true)
    (k_number_of : PySem.W.keepIn K (.ref f_number_of) = true)
    (a_figures_of : PySem.W.nsIn K mainGlobals "figures_of" = some (some (.ref f_figures_of)))
    (l_figures_of : K.lookup f_figures_of = some ⟨oc_figures_of, od_figures_of, .func (PySem.W.fnOf "figures_of" "figures_of" (defArgs s_figures_of) (defBody s_figures_of) (defScope s_figures_of) .none kV_figures_of doc_figures_of pm_figures_of an_figures_of cd_figures_of ct_figures_of), sl_figures_of⟩)
    (c_figures_of : PySem.W.codeIn K cd_figures_of "figures_of" = true)
    (k_figures_of : PySem.W.keepIn K (.ref f_figures_of) = true)
    (a_is_whole : PySem.W.nsIn K mainGlobals "is_whole" = some (some (.ref f_is_whole)))
    (l_is_whole : K.lookup f_is_whole = some ⟨oc_is_whole, od_is_whole, .func (PySem.W.fnOf "is_whole" "is_whole" (defArgs s_is_whole) (defBody s_is_whole) (defScope s_is_whole) .none kV_is_whole doc_is_whole pm_is_whole an_is_whole cd_is_whole ct_is_whole), sl_is_whole⟩)
    (c_is_whole : PySem.W.codeIn K cd_is_whole "is_whole" = true)
    (k_is_whole : PySem.W.keepIn K (.ref f_is_whole) = true)
    (a_is_part : PySem.W.nsIn K mainGlobals "is_part" = some (some (.ref f_is_part)))
    (l_is_part : K.lookup f_is_part = some ⟨oc_is_part, od_is_part, .func (PySem.W.fnOf "is_part" "is_part" (defArgs s_is_part) (defBody s_is_part) (defScope s_is_part) .none kV_is_part doc_is_part pm_is_part an_is_part cd_is_part ct_is_part), sl_is_part⟩)
    (c_is_part : PySem.W.codeIn K cd_is_part "is_part" = true)
    (k_is_part : PySem.W.keepIn K (.ref f_is_part) = true)
    (a_part_text : PySem.W.nsIn K mainGlobals "part_text" = some (some (.ref f_part_text)))
    (l_part_text : K.lookup f_part_text = some ⟨oc_part_text, od_part_text, .func (PySem.W.fnOf "part_text" "part_text" (defArgs s_part_text) (defBody s_part_text) (defScope s_part_text) .none kV_part_text doc_part_text pm_part_text an_part_text cd_part_text ct_part_text), sl_part_text⟩)
    (c_part_text : PySem.W.codeIn K cd_part_text "part_text" = true)
    (k_part_text : PySem.W.keepIn K (.ref f_part_text) = true)
    (a_read_part : PySem.W.nsIn K mainGlobals "read_part" = some (some (.ref f_read_part)))
    (l_read_part : K.lookup f_read_part = some ⟨oc_read_part, od_read_part, .func (PySem.W.fnOf "read_part" "read_part" (defArgs s_read_part) (defBody s_read_part) (defScope s_read_part) .none kV_read_part doc_read_part pm_read_part an_read_part cd_read_part ct_read_part), sl_read_part⟩)
    (c_read_part : PySem.W.codeIn K cd_read_part "read_part" = true)
    (k_read_part : PySem.W.keepIn K (.ref f_read_part) = true)
    (a__law_row : PySem.W.nsIn K mainGlobals "_law_row" = some (some (.ref f__law_row)))
    (l__law_row : K.lookup f__law_row = some ⟨oc__law_row, od__law_row, .func (PySem.W.fnOf "_law_row" "_law_row" (defArgs s__law_row) (defBody s__law_row) (defScope s__law_row) .none kV__law_row doc__law_row pm__law_row an__law_row cd__law_row ct__law_row), sl__law_row⟩)
    (c__law_row : PySem.W.codeIn K cd__law_row "_law_row" = true)
    (k__law_row : PySem.W.keepIn K (.ref f__law_row) = true)
    (a__law_gcd : PySem.W.nsIn K mainGlobals "_law_gcd" = some (some (.ref f__law_gcd)))
    (l__law_gcd : K.lookup f__law_gcd = some ⟨oc__law_gcd, od__law_gcd, .func (PySem.W.fnOf "_law_gcd" "_law_gcd" (defArgs s__law_gcd) (defBody s__law_gcd) (defScope s__law_gcd) .none kV__law_gcd doc__law_gcd pm__law_gcd an__law_gcd cd__law_gcd ct__law_gcd), sl__law_gcd⟩)
    (c__law_gcd : PySem.W.codeIn K cd__law_gcd "_law_gcd" = true)
    (k__law_gcd : PySem.W.keepIn K (.ref f__law_gcd) = true)
    (a__law_part : PySem.W.nsIn K mainGlobals "_law_part" = some (some (.ref f__law_part)))
    (l__law_part : K.lookup f__law_part = some ⟨oc__law_part, od__law_part, .func (PySem.W.fnOf "_law_part" "_law_part" (defArgs s__law_part) (defBody s__law_part) (defScope s__law_part) .none kV__law_part doc__law_part pm__law_part an__law_part cd__law_part ct__law_part), sl__law_part⟩)
    (c__law_part : PySem.W.codeIn K cd__law_part "_law_part" = true)
    (k__law_part : PySem.W.keepIn K (.ref f__law_part) = true)
    (a__law_drawn : PySem.W.nsIn K mainGlobals "_law_drawn" = some (some (.ref f__law_drawn)))
    (l__law_drawn : K.lookup f__law_drawn = some ⟨oc__law_drawn, od__law_drawn, .func (PySem.W.fnOf "_law_drawn" "_law_drawn" (defArgs s__law_drawn) (defBody s__law_drawn) (defScope s__law_drawn) .none kV__law_drawn doc__law_drawn pm__law_drawn an__law_drawn cd__law_drawn ct__law_drawn), sl__law_drawn⟩)
    (c__law_drawn : PySem.W.codeIn K cd__law_drawn "_law_drawn" = true)
    (k__law_drawn : PySem.W.keepIn K (.ref f__law_drawn) = true)
    (a__law_of_class : PySem.W.nsIn K mainGlobals "_law_of_class" = some (some (.ref f__law_of_class)))
    (l__law_of_class : K.lookup f__law_of_class = some ⟨oc__law_of_class, od__law_of_class, .func (PySem.W.fnOf "_law_of_class" "_law_of_class" (defArgs s__law_of_class) (defBody s__law_of_class) (defScope s__law_of_class) .none kV__law_of_class doc__law_of_class pm__law_of_class an__law_of_class cd__law_of_class ct__law_of_class), sl__law_of_class⟩)
    (c__law_of_class : PySem.W.codeIn K cd__law_of_class "_law_of_class" = true)
    (k__law_of_class : PySem.W.keepIn K (.ref f__law_of_class) = true)
    (a__law_text : PySem.W.nsIn K mainGlobals "_law_text" = some (some (.ref f__law_text)))
    (l__law_text : K.lookup f__law_text = some ⟨oc__law_text, od__law_text, .func (PySem.W.fnOf "_law_text" "_law_text" (defArgs s__law_text) (defBody s__law_text) (defScope s__law_text) .none kV__law_text doc__law_text pm__law_text an__law_text cd__law_text ct__law_text), sl__law_text⟩)
    (c__law_text : PySem.W.codeIn K cd__law_text "_law_text" = true)
    (k__law_text : PySem.W.keepIn K (.ref f__law_text) = true)
    (a__law_figures : PySem.W.nsIn K mainGlobals "_law_figures" = some (some (.ref f__law_figures)))
    (l__law_figures : K.lookup f__law_figures = some ⟨oc__law_figures, od__law_figures, .func (PySem.W.fnOf "_law_figures" "_law_figures" (defArgs s__law_figures) (defBody s__law_figures) (defScope s__law_figures) .none kV__law_figures doc__law_figures pm__law_figures an__law_figures cd__law_figures ct__law_figures), sl__law_figures⟩)
    (c__law_figures : PySem.W.codeIn K cd__law_figures "_law_figures" = true)
    (k__law_figures : PySem.W.keepIn K (.ref f__law_figures) = true)
    (a__law_due : PySem.W.nsIn K mainGlobals "_law_due" = some (some (.ref f__law_due)))
    (l__law_due : K.lookup f__law_due = some ⟨oc__law_due, od__law_due, .func (PySem.W.fnOf "_law_due" "_law_due" (defArgs s__law_due) (defBody s__law_due) (defScope s__law_due) .none kV__law_due doc__law_due pm__law_due an__law_due cd__law_due ct__law_due), sl__law_due⟩)
    (c__law_due : PySem.W.codeIn K cd__law_due "_law_due" = true)
    (k__law_due : PySem.W.keepIn K (.ref f__law_due) = true)
    (a__law_other : PySem.W.nsIn K mainGlobals "_law_other" = some (some (.ref f__law_other)))
    (l__law_other : K.lookup f__law_other = some ⟨oc__law_other, od__law_other, .func (PySem.W.fnOf "_law_other" "_law_other" (defArgs s__law_other) (defBody s__law_other) (defScope s__law_other) .none kV__law_other doc__law_other pm__law_other an__law_other cd__law_other ct__law_other), sl__law_other⟩)
    (c__law_other : PySem.W.codeIn K cd__law_other "_law_other" = true)
    (k__law_other : PySem.W.keepIn K (.ref f__law_other) = true)
    (a__law_read : PySem.W.nsIn K mainGlobals "_law_read" = some (some (.ref f__law_read)))
    (l__law_read : K.lookup f__law_read = some ⟨oc__law_read, od__law_read, .func (PySem.W.fnOf "_law_read" "_law_read" (defArgs s__law_read) (defBody s__law_read) (defScope s__law_read) .none kV__law_read doc__law_read pm__law_read an__law_read cd__law_read ct__law_read), sl__law_read⟩)
    (c__law_read : PySem.W.codeIn K cd__law_read "_law_read" = true)
    (k__law_read : PySem.W.keepIn K (.ref f__law_read) = true)
    (a_law : PySem.W.nsIn K mainGlobals "law" = some (some (.ref f_law)))
    (l_law : K.lookup f_law = some ⟨oc_law, od_law, .func (PySem.W.fnOf "law" "law" (defArgs s_law) (defBody s_law) (defScope s_law) .none kV_law doc_law pm_law an_law cd_law ct_law), sl_law⟩)
    (c_law : PySem.W.codeIn K cd_law "law" = true)
    (k_law : PySem.W.keepIn K (.ref f_law) = true)
    : ∃ fd : FuncData, (∀ (s : Shared) (v : Value), BindsTo s fd ⟨[v], []⟩ [("_law_script", v)]) ∧ ∀ base : Heap, K.In base → base.Ns mainGlobals mg → FnOk l.prog w K mg base CX0 5 fa fd ["_law_script"] (spD K fs_law) := by
  have efa : f_law = fa := by
    have z := (PySem.W.mg_of X G a_law).symm.trans hfa
    injection z with z
    injection z
  subst efa
  refine ⟨PySem.W.fnOf "law" "law" (defArgs s_law) (defBody s_law) (defScope s_law) .none kV_law doc_law pm_law an_law cd_law ct_law, fun s v => BindsTo.of_looks fun M => .of_pure rfl, fun base KB GB => ?_⟩
  generalize hP : l.prog = P
  clear hP
  have B : Bl mg := ⟨PySem.W.mg_none_of X G z_len, PySem.W.mg_none_of X G z_isinstance, PySem.W.mg_none_of X G z_range, PySem.W.mg_none_of X G z_int, PySem.W.mg_none_of X G z_str, PySem.W.mg_none_of X G z_list, PySem.W.mg_none_of X G z_tuple, PySem.W.mg_none_of X G z_bool, PySem.W.mg_none_of X G z_abs, PySem.W.mg_none_of X G z_max, PySem.W.mg_none_of X G z_min, PySem.W.mg_none_of X G z_all, PySem.W.mg_none_of X G z_any, PySem.W.mg_none_of X G z_enumerate, PySem.W.mg_none_of X G z_zip, PySem.W.mg_none_of X G z_repr, PySem.W.mg_none_of X G z_sum, PySem.W.mg_none_of X G z_sorted, PySem.W.mg_none_of X G z_ValueError⟩
  have b_reversed : mg "reversed" = none := PySem.W.mg_none_of X G z_reversed
  have b_divmod : mg "divmod" = none := PySem.W.mg_none_of X G z_divmod
  have i_gcd : mg "gcd" = some (.builtin "math.gcd") := PySem.W.mg_of X G zgcd
  have c_WideError : Cl mg "WideError" C_WideError := ⟨PySem.W.mg_of X G g_WideError⟩
  have c_NoPart : Cl mg "NoPart" C_NoPart := ⟨PySem.W.mg_of X G g_NoPart⟩
  have c_NoSpan : Cl mg "NoSpan" C_NoSpan := ⟨PySem.W.mg_of X G g_NoSpan⟩
  have c_NoBox : Cl mg "NoBox" C_NoBox := ⟨PySem.W.mg_of X G g_NoBox⟩
  have c_NoText : Cl mg "NoText" C_NoText := ⟨PySem.W.mg_of X G g_NoText⟩
  have c_NoItem : Cl mg "NoItem" C_NoItem := ⟨PySem.W.mg_of X G g_NoItem⟩
  have c_NoName : Cl mg "NoName" C_NoName := ⟨PySem.W.mg_of X G g_NoName⟩
  have c_NoWish : Cl mg "NoWish" C_NoWish := ⟨PySem.W.mg_of X G g_NoWish⟩
  have c_NoChange : Cl mg "NoChange" C_NoChange := ⟨PySem.W.mg_of X G g_NoChange⟩
  have c_NoRow : Cl mg "NoRow" C_NoRow := ⟨PySem.W.mg_of X G g_NoRow⟩
  have c_TooMany : Cl mg "TooMany" C_TooMany := ⟨PySem.W.mg_of X G g_TooMany⟩
  obtain ⟨its___init__, ite___init__, itv___init__⟩ := iv___init__
  have F___init__ : FunD K "__init__" "WideError.__init__" (defArgs s___init__) (defBody s___init__) (defScope s___init__) [.str ""] [] f___init__ _ := ⟨⟨oc___init__, od___init__, .ref T___init__, kV___init__, doc___init__, pm___init__, an___init__, cd___init__, ct___init__, sl___init__, rfl, l___init__, c___init__, .inr ⟨(fun h => by cases h), T___init__, _, its___init__, tn___init__, rfl, lt___init__, by rw [ite___init__], itv___init__⟩, .inl rfl⟩, k___init__⟩
  have b1___init__ := F___init__.binds1 (ps := ["self", "why"]) 2 1 (fun h => by cases h) rfl (fun _ _ _ _ _ _ _ us its hl hi => match us, hl, its, hi with | [_, _], _, [_], _ => ⟨_, rfl, rfl⟩)
  obtain ⟨ds1___init__, dv1___init__, db1___init__⟩ := b1___init__
  cases dv1___init__
  have io : InitOk P w K mg base f___init__ := ⟨ti___init__, _, db1___init__, ok_init B vV F___init__⟩
  have xc_NoPart : ExcC K C_NoPart := ⟨e1_NoPart, e2_NoPart, e3_NoPart, e4_NoPart, e5_NoPart, e6_NoPart, e7_NoPart, e8_NoPart⟩
  have r_NoPart : ClR P w K mg base C_NoPart := ⟨⟨⟨_, _, _, _, _, _, _, _, _, _, _, _, _, _, _, xo_NoPart, xm_NoPart⟩, xs_NoPart, e3_NoPart, tt_NoPart, kk_NoPart⟩, ⟨_, xc_NoPart, ⟨_, _, xo_NoPart, rfl⟩, tt_NoPart, xr_NoPart, xf_NoPart⟩, xk_NoPart, tt_NoPart, _, i___init__, io⟩
  have hx : PySem.W.exmOne K (.ref C_NoPart) (.ref C_WideError) = some true := PySem.W.exm_ref w1 w2 w3 w4_NoPart
  have n_RUN : mg "RUN" = some (.int 60 t_RUN) := PySem.W.mg_of X G gc_RUN
  have kx : KitX K C_NoPart "NoPart" C_NoPart C_NoSpan C_NoBox C_NoText C_NoItem C_NoName C_NoWish C_NoChange C_NoRow C_TooMany := ⟨xc_NoPart, kit_ve kve, kit_same, (kit_no kn1_NoSpan kn2_NoSpan kn3_NoSpan kn4_NoSpan), (kit_no kn1_NoBox kn2_NoBox kn3_NoBox kn4_NoBox), (kit_no kn1_NoText kn2_NoText kn3_NoText kn4_NoText), (kit_no kn1_NoItem kn2_NoItem kn3_NoItem kn4_NoItem), (kit_no kn1_NoName kn2_NoName kn3_NoName kn4_NoName), (kit_no kn1_NoWish kn2_NoWish kn3_NoWish kn4_NoWish), (kit_no kn1_NoChange kn2_NoChange kn3_NoChange kn4_NoChange), (kit_no kn1_NoRow kn2_NoRow kn3_NoRow kn4_NoRow), (kit_no kn1_TooMany kn2_TooMany kn3_TooMany kn4_TooMany)⟩
  have F_is_number : Fun K "is_number" "is_number" s_is_number f_is_number _ := fun_mk l_is_number c_is_number k_is_number
  have d_is_number : Dfn P w K mg base CX0 "is_number" ["text"] 1 fs_is_number := ⟨f_is_number, _, PySem.W.mg_of X G a_is_number, k_is_number, F_is_number.binds (fun _ _ _ _ _ _ us hl => match us, hl with | [_], _ => rfl), ok_is_number (B := B) (F := F_is_number)⟩
  have F_number_of : Fun K "number_of" "number_of" s_number_of f_number_of _ := fun_mk l_number_of c_number_of k_number_of
  have d_number_of : Dfn P w K mg base CX0 "number_of" ["text"] 1 fs_number_of := ⟨f_number_of, _, PySem.W.mg_of X G a_number_of, k_number_of, F_number_of.binds (fun _ _ _ _ _ _ us hl => match us, hl with | [_], _ => rfl), ok_number_of (B := B) (n_RUN := n_RUN) (F := F_number_of)⟩
  have F_figures_of : Fun K "figures_of" "figures_of" s_figures_of f_figures_of _ := fun_mk l_figures_of c_figures_of k_figures_of
  have d_figures_of : Dfn P w K mg base CX0 "figures_of" ["number"] 1 fs_figures_of := ⟨f_figures_of, _, PySem.W.mg_of X G a_figures_of, k_figures_of, F_figures_of.binds (fun _ _ _ _ _ _ us hl => match us, hl with | [_], _ => rfl), ok_figures_of (B := B) (b_reversed := b_reversed) (b_divmod := b_divmod) (n_RUN := n_RUN) (F := F_figures_of)⟩
  have F_is_whole : Fun K "is_whole" "is_whole" s_is_whole f_is_whole _ := fun_mk l_is_whole c_is_whole k_is_whole
  have d_is_whole : Dfn P w K mg base CX0 "is_whole" ["thing"] 1 fs_is_whole := ⟨f_is_whole, _, PySem.W.mg_of X G a_is_whole, k_is_whole, F_is_whole.binds (fun _ _ _ _ _ _ us hl => match us, hl with | [_], _ => rfl), ok_is_whole (B := B) (F := F_is_whole)⟩
  have F_is_part : Fun K "is_part" "is_part" s_is_part f_is_part _ := fun_mk l_is_part c_is_part k_is_part
  have d_is_part : Dfn P w K mg base CX0 "is_part" ["thing"] 2 fs_is_part := ⟨f_is_part, _, PySem.W.mg_of X G a_is_part, k_is_part, F_is_part.binds (fun _ _ _ _ _ _ us hl => match us, hl with | [_], _ => rfl), ok_is_part (B := B) (i_gcd := i_gcd) (d_is_whole := d_is_whole) (F := F_is_part)⟩
  have F_part_text : Fun K "part_text" "part_text" s_part_text f_part_text _ := fun_mk l_part_text c_part_text k_part_text
  have d_part_text : Dfn P w K mg base CX0 "part_text" ["part"] 2 fs_part_text := ⟨f_part_text, _, PySem.W.mg_of X G a_part_text, k_part_text, F_part_text.binds (fun _ _ _ _ _ _ us hl => match us, hl with | [_], _ => rfl), ok_part_text (B := B) (d_figures_of := d_figures_of) (F := F_part_text)⟩
  have F_read_part : Fun K "read_part" "read_part" s_read_part f_read_part _ := fun_mk l_read_part c_read_part k_read_part
  have d_read_part : Dfn P w K mg base (L2.CX P w) "read_part" ["text"] 3 (fs_read_part C_NoPart) := ⟨f_read_part, _, PySem.W.mg_of X G a_read_part, k_read_part, F_read_part.binds (fun _ _ _ _ _ _ us hl => match us, hl with | [_], _ => rfl), ok_read_part (C := C_NoPart) (B := B) (c_NoPart := c_NoPart) (r_NoPart := r_NoPart) (d_is_number := d_is_number) (d_number_of := d_number_of) (d_is_part := d_is_part) (d_part_text := d_part_text) (F := F_read_part)⟩
  have F__law_row : Fun K "_law_row" "_law_row" s__law_row f__law_row _ := fun_mk l__law_row c__law_row k__law_row
  have d__law_row : Dfn P w K mg base CX0 "_law_row" ["_law_script", "_law_many"] 1 fs_law_row := ⟨f__law_row, _, PySem.W.mg_of X G a__law_row, k__law_row, F__law_row.binds (fun _ _ _ _ _ _ us hl => match us, hl with | [_, _], _ => rfl), ok_law_row (B := B) (F := F__law_row)⟩
  have F__law_gcd : Fun K "_law_gcd" "_law_gcd" s__law_gcd f__law_gcd _ := fun_mk l__law_gcd c__law_gcd k__law_gcd
  have d__law_gcd : Dfn P w K mg base CX0 "_law_gcd" ["_law_one", "_law_other_here"] 1 fs_law_gcd := ⟨f__law_gcd, _, PySem.W.mg_of X G a__law_gcd, k__law_gcd, F__law_gcd.binds (fun _ _ _ _ _ _ us hl => match us, hl with | [_, _], _ => rfl), ok_law_gcd (B := B) (F := F__law_gcd)⟩
  have F__law_part : Fun K "_law_part" "_law_part" s__law_part f__law_part _ := fun_mk l__law_part c__law_part k__law_part
  have d__law_part : Dfn P w K mg base CX0 "_law_part" ["_law_top", "_law_bottom"] 2 fs_law_part := ⟨f__law_part, _, PySem.W.mg_of X G a__law_part, k__law_part, F__law_part.binds (fun _ _ _ _ _ _ us hl => match us, hl with | [_, _], _ => rfl), ok_law_part (B := B) (d__law_gcd := d__law_gcd) (F := F__law_part)⟩
  have F__law_drawn : Fun K "_law_drawn" "_law_drawn" s__law_drawn f__law_drawn _ := fun_mk l__law_drawn c__law_drawn k__law_drawn
  have d__law_drawn : Dfn P w K mg base CX0 "_law_drawn" ["_law_a", "_law_b"] 1 fs_law_drawn := ⟨f__law_drawn, _, PySem.W.mg_of X G a__law_drawn, k__law_drawn, F__law_drawn.binds (fun _ _ _ _ _ _ us hl => match us, hl with | [_, _], _ => rfl), ok_law_drawn (B := B) (F := F__law_drawn)⟩
  have F__law_of_class : Fun K "_law_of_class" "_law_of_class" s__law_of_class f__law_of_class _ := fun_mk l__law_of_class c__law_of_class k__law_of_class
  have d__law_of_class : Dfn P w K mg base CX0 "_law_of_class" ["_law_e", "_law_name"] 1 (fs_law_of_class C_NoPart "NoPart") := ⟨f__law_of_class, _, PySem.W.mg_of X G a__law_of_class, k__law_of_class, F__law_of_class.binds (fun _ _ _ _ _ _ us hl => match us, hl with | [_, _], _ => rfl), ok_law_of_class (C := C_NoPart) (B := B) (c_NoPart := c_NoPart) (c_NoSpan := c_NoSpan) (c_NoBox := c_NoBox) (c_NoText := c_NoText) (c_NoItem := c_NoItem) (c_NoName := c_NoName) (c_NoWish := c_NoWish) (c_NoChange := c_NoChange) (c_NoRow := c_NoRow) (c_TooMany := c_TooMany) (kx := kx) (F := F__law_of_class)⟩
  have F__law_text : Fun K "_law_text" "_law_text" s__law_text f__law_text _ := fun_mk l__law_text c__law_text k__law_text
  have d__law_text : Dfn P w K mg base CX0 "_law_text" ["_law_part_here"] 1 fs_law_text := ⟨f__law_text, _, PySem.W.mg_of X G a__law_text, k__law_text, F__law_text.binds (fun _ _ _ _ _ _ us hl => match us, hl with | [_], _ => rfl), ok_law_text (B := B) (F := F__law_text)⟩
  have F__law_figures : Fun K "_law_figures" "_law_figures" s__law_figures f__law_figures _ := fun_mk l__law_figures c__law_figures k__law_figures
  have d__law_figures : Dfn P w K mg base CX0 "_law_figures" ["_law_text_here"] 1 fs_law_figures := ⟨f__law_figures, _, PySem.W.mg_of X G a__law_figures, k__law_figures, F__law_figures.binds (fun _ _ _ _ _ _ us hl => match us, hl with | [_], _ => rfl), ok_law_figures (B := B) (F := F__law_figures)⟩
  have F__law_due : Fun K "_law_due" "_law_due" s__law_due f__law_due _ := fun_mk l__law_due c__law_due k__law_due
  have d__law_due : Dfn P w K mg base CX0 "_law_due" ["_law_text_here"] 3 fs_law_due := ⟨f__law_due, _, PySem.W.mg_of X G a__law_due, k__law_due, F__law_due.binds (fun _ _ _ _ _ _ us hl => match us, hl with | [_], _ => rfl), ok_law_due (B := B) (d__law_figures := d__law_figures) (d__law_part := d__law_part) (d__law_text := d__law_text) (F := F__law_due)⟩
  have F__law_other : Fun K "_law_other" "_law_other" s__law_other f__law_other _ := fun_mk l__law_other c__law_other k__law_other
  have d__law_other : Dfn P w K mg base CX0 "_law_other" ["_law_text_here", "_law_part_here", "_law_number"] 1 Tx.fs_law_other := ⟨f__law_other, _, PySem.W.mg_of X G a__law_other, k__law_other, F__law_other.binds (fun _ _ _ _ _ _ us hl => match us, hl with | [_, _, _], _ => rfl), ok_law_other (B := B) (F := F__law_other)⟩
  have F__law_read : Fun K "_law_read" "_law_read" s__law_read f__law_read _ := fun_mk l__law_read c__law_read k__law_read
  have d__law_read : Dfn P w K mg base CX0 "_law_read" ["_law_text_here"] 4 fs_law_read := ⟨f__law_read, _, PySem.W.mg_of X G a__law_read, k__law_read, F__law_read.binds (fun _ _ _ _ _ _ us hl => match us, hl with | [_], _ => rfl), ok_law_read (C := C_NoPart) (B := B) (c_WideError := c_WideError) (hx := hx) (d_read_part := d_read_part) (d__law_of_class := d__law_of_class) (F := F__law_read)⟩
  have F_law : Fun K "law" "law" s_law f_law _ := fun_mk l_law c_law k_law
  exact ok_law (B := B) (d__law_row := d__law_row) (d__law_drawn := d__law_drawn) (d__law_part := d__law_part) (d_part_text := d_part_text) (d__law_text := d__law_text) (d__law_read := d__law_read) (d__law_other := d__law_other) (d__law_due := d__law_due) (F := F_law)
end K02
end
open PySem PySem.W PyProof.Rows
set_option maxHeartbeats 0 in
theorem PySem.Challenge.cw_widthwise_k02_part_texts_holds : PySem.Challenge.rw_widthwise_k02_part_texts.Holds := by
  w_on; o_law; k_head; (case hw => w_witness2)
  k_fill
  refine L2.walk_of (l := PySem.Challenge.rw_widthwise_k02_part_texts) (n := 63) (k := 5) (x := "_law_script") (CX := fun _ => L2.CX0) (sp := fun w => Y.spD _ Tx.fs_law) rfl (by decide) rfl ⟨rfl, by decide, by decide⟩ (fun w h Y => PySem.W.kIn_of Y) ?F (fun _ _ a ns hl _ hS => K02.law_sp hl hS) (fun _ _ _ _ _ h => h)
  case F =>
    intro w mg fa h KX G hmg
    refine' K02.all_mk KX G hmg ?z_len ?z_isinstance ?z_range ?z_int ?z_str ?z_list ?z_tuple ?z_bool ?z_abs ?z_max ?z_min ?z_all ?z_any ?z_enumerate ?z_zip ?z_repr ?z_sum ?z_sorted ?z_ValueError ?z_reversed ?z_divmod ?zgcd ?g_WideError ?g_NoPart ?g_NoSpan ?g_NoBox ?g_NoText ?g_NoItem ?g_NoName ?g_NoWish ?g_NoChange ?g_NoRow ?g_TooMany ?vV ?i___init__ ?l___init__ ?c___init__ ?k___init__ ?ti___init__ ?lt___init__ ?iv___init__ ?xo_NoPart ?xm_NoPart ?xs_NoPart ?xk_NoPart ?xr_NoPart ?xf_NoPart ?kk_NoPart ?tt_NoPart ?e1_NoPart ?e2_NoPart ?e3_NoPart ?e4_NoPart ?e5_NoPart ?e6_NoPart ?e7_NoPart ?e8_NoPart ?w1 ?w2 ?w3 ?w4_NoPart ?gc_RUN ?kve ?kn1_NoSpan ?kn2_NoSpan ?kn3_NoSpan ?kn4_NoSpan ?kn1_NoBox ?kn2_NoBox ?kn3_NoBox ?kn4_NoBox ?kn1_NoText ?kn2_NoText ?kn3_NoText ?kn4_NoText ?kn1_NoItem ?kn2_NoItem ?kn3_NoItem ?kn4_NoItem ?kn1_NoName ?kn2_NoName ?kn3_NoName ?kn4_NoName ?kn1_NoWish ?kn2_NoWish ?kn3_NoWish ?kn4_NoWish ?kn1_NoChange ?kn2_NoChange ?kn3_NoChange ?kn4_NoChange ?kn1_NoRow ?kn2_NoRow ?kn3_NoRow ?kn4_NoRow ?kn1_TooMany ?kn2_TooMany ?kn3_TooMany ?kn4_TooMany ?a_is_number ?l_is_number ?c_is_number ?k_is_number ?a_number_of ?l_number_of ?c_number_of ?k_number_of ?a_figures_of ?l_figures_of ?c_figures_of ?k_figures_of ?a_is_whole ?l_is_whole ?c_is_whole ?k_is_whole ?a_is_part ?l_is_part ?c_is_part ?k_is_part ?a_part_text ?l_part_text ?c_part_text ?k_part_text ?a_read_part ?l_read_part ?c_read_part ?k_read_part ?a__law_row ?l__law_row ?c__law_row ?k__law_row ?a__law_gcd ?l__law_gcd ?c__law_gcd ?k__law_gcd ?a__law_part ?l__law_part ?c__law_part ?k__law_part ?a__law_drawn ?l__law_drawn ?c__law_drawn ?k__law_drawn ?a__law_of_class ?l__law_of_class ?c__law_of_class ?k__law_of_class ?a__law_text ?l__law_text ?c__law_text ?k__law_text ?a__law_figures ?l__law_figures ?c__law_figures ?k__law_figures ?a__law_due ?l__law_due ?c__law_due ?k__law_due ?a__law_other ?l__law_other ?c__law_other ?k__law_other ?a__law_read ?l__law_read ?c__law_read ?k__law_read ?a_law ?l_law ?c_law ?k_law
    (case z_len => k_is)
    (case z_isinstance => k_is)
    (case z_range => k_is)
    (case z_int => k_is)
    (case z_str => k_is)
    (case z_list => k_is)
    (case z_tuple => k_is)
    (case z_bool => k_is)
    (case z_abs => k_is)
    (case z_max => k_is)
    (case z_min => k_is)
    (case z_all => k_is)
    (case z_any => k_is)
    (case z_enumerate => k_is)
    (case z_zip => k_is)
    (case z_repr => k_is)
    (case z_sum => k_is)
    (case z_sorted => k_is)
    (case z_ValueError => k_is)
    (case z_reversed => k_is)
    (case z_divmod => k_is)
    (case zgcd => k_is)
    (case g_WideError => k_is)
    (case g_NoPart => k_is)
    (case g_NoSpan => k_is)
    (case g_NoBox => k_is)
    (case g_NoText => k_is)
    (case g_NoItem => k_is)
    (case g_NoName => k_is)
    (case g_NoWish => k_is)
    (case g_NoChange => k_is)
    (case g_NoRow => k_is)
    (case g_TooMany => k_is)
    (case vV => k_is)
    (case i___init__ => k_is)
    (case l___init__ => k_is)
    (case c___init__ => k_is)
    (case k___init__ => k_is)
    (case ti___init__ => k_is)
    (case lt___init__ => k_is)
    (case iv___init__ => exact ⟨_, rfl, .cons ⟨_, rfl⟩ .nil⟩)
    (case xo_NoPart => k_is)
    (case xm_NoPart => rfl)
    (case xs_NoPart => k_is)
    (case xk_NoPart => k_is)
    (case xr_NoPart => k_is)
    (case xf_NoPart => k_is)
    (case kk_NoPart => k_is)
    (case tt_NoPart => k_is)
    (case e1_NoPart => k_is)
    (case e2_NoPart => k_is)
    (case e3_NoPart => k_is)
    (case e4_NoPart => k_is)
    (case e5_NoPart => k_is)
    (case e6_NoPart => k_is)
    (case e7_NoPart => k_is)
    (case e8_NoPart => k_is)
    (case w1 => k_is)
    (case w2 => k_is)
    (case w3 => k_is)
    (case w4_NoPart => k_is)
    (case gc_RUN => k_is)
    (case kve => k_is)
    (case kn1_NoSpan => rfl)
    (case kn2_NoSpan => k_is)
    (case kn3_NoSpan => k_is)
    (case kn4_NoSpan => k_is)
    (case kn1_NoBox => rfl)
    (case kn2_NoBox => k_is)
    (case kn3_NoBox => k_is)
    (case kn4_NoBox => k_is)
    (case kn1_NoText => rfl)
    (case kn2_NoText => k_is)
    (case kn3_NoText => k_is)
    (case kn4_NoText => k_is)
    (case kn1_NoItem => rfl)
    (case kn2_NoItem => k_is)
    (case kn3_NoItem => k_is)
    (case kn4_NoItem => k_is)
    (case kn1_NoName => rfl)
    (case kn2_NoName => k_is)
    (case kn3_NoName => k_is)
    (case kn4_NoName => k_is)
    (case kn1_NoWish => rfl)
    (case kn2_NoWish => k_is)
    (case kn3_NoWish => k_is)
    (case kn4_NoWish => k_is)
    (case kn1_NoChange => rfl)
    (case kn2_NoChange => k_is)
    (case kn3_NoChange => k_is)
    (case kn4_NoChange => k_is)
    (case kn1_NoRow => rfl)
    (case kn2_NoRow => k_is)
    (case kn3_NoRow => k_is)
    (case kn4_NoRow => k_is)
    (case kn1_TooMany => rfl)
    (case kn2_TooMany => k_is)
    (case kn3_TooMany => k_is)
    (case kn4_TooMany => k_is)
    (case a_is_number => k_is)
    (case l_is_number => k_is)
    (case c_is_number => k_is)
    (case k_is_number => k_is)
    (case a_number_of => k_is)
    (case l_number_of => k_is)
    (case c_number_of => k_is)
    (case k_number_of => k_is)
    (case a_figures_of => k_is)
    (case l_figures_of => k_is)
    (case c_figures_of => k_is)
    (case k_figures_of => k_is)
    (case a_is_whole => k_is)
    (case l_is_whole => k_is)
    (case c_is_whole => k_is)
    (case k_is_whole => k_is)
    (case a_is_part => k_is)
    (case l_is_part => k_is)
    (case c_is_part => k_is)
    (case k_is_part => k_is)
    (case a_part_text => k_is)
    (case l_part_text => k_is)
    (case c_part_text => k_is)
    (case k_part_text => k_is)
    (case a_read_part => k_is)
    (case l_read_part => k_is)
    (case c_read_part => k_is)
    (case k_read_part => k_is)
    (case a__law_row => k_is)
    (case l__law_row => k_is)
    (case c__law_row => k_is)
    (case k__law_row => k_is)
    (case a__law_gcd => k_is)
    (case l__law_gcd => k_is)
    (case c__law_gcd => k_is)
    (case k__law_gcd => k_is)
    (case a__law_part => k_is)
    (case l__law_part => k_is)
    (case c__law_part => k_is)
    (case k__law_part => k_is)
    (case a__law_drawn => k_is)
    (case l__law_drawn => k_is)
    (case c__law_drawn => k_is)
    (case k__law_drawn => k_is)
    (case a__law_of_class => k_is)
    (case l__law_of_class => k_is)
    (case c__law_of_class => k_is)
    (case k__law_of_class => k_is)
    (case a__law_text => k_is)
    (case l__law_text => k_is)
    (case c__law_text => k_is)
    (case k__law_text => k_is)
    (case a__law_figures => k_is)
    (case l__law_figures => k_is)
    (case c__law_figures => k_is)
    (case k__law_figures => k_is)
    (case a__law_due => k_is)
    (case l__law_due => k_is)
    (case c__law_due => k_is)
    (case k__law_due => k_is)
    (case a__law_other => k_is)
    (case l__law_other => k_is)
    (case c__law_other => k_is)
    (case k__law_other => k_is)
    (case a__law_read => k_is)
    (case l__law_read => k_is)
    (case c__law_read => k_is)
    (case k__law_read => k_is)
    (case a_law => k_is)
    (case l_law => k_is)
    (case c_law => k_is)
    (case k_law => k_is)

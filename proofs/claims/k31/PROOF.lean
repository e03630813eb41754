import PyProof.Rows.All
import Wide.All
import OpenK.AllK
import Wide.FinOn
import HandS.ForMost
import HandS.ForExc
import HandS.IsInst
import HandS.Wide
import HandS.Gcd
import HandS.TupLe
import HandS.Zip
import HandS.Walk
import HandS.StrMore
import HandS.FStr
import HandS.ExcIs
import HandS.Defaults
import KE.DataEq
import KE.KTypeName
import KE.KExcIs
import HandS.ExcInit
import PyProof.ReprRoads
import HandS.Style
import HandS.TupAny
import HandS.SetFor
import HandS.Iter
import HandS.Flow
import HandS.Base
import HandS.Conv
import PySem.Challenge.RW_widthwise_k31_lines_broken
set_option Elab.async false
set_option linter.all false
set_option maxRecDepth 100000
section
namespace Y
open PySem PySem.Spec PyProof.Rows L2
/-! # A layer over HandS that speaks of data alone: values as trees, slots that hold data or a list of one's own -/

/-- data: what a value is, its addresses forgotten -/
inductive D where
  | non | bl (b : Bool) | int (i : Int) | str (x : Str)
  | tup (xs : List D) | lst (xs : List D) | fz (xs : List D)
  | exc (C : Addr) | dk0 | ty (n : String) | cls (C : Addr)
  | pin (a : Addr) (d : D)

mutual
/-- data that no list bears: it stays whatever list is changed -/
def D.imm : D → Bool
  | .lst _ => false
  | .fz _ => false
  | .dk0 => false
  | .pin _ _ => false
  | .tup xs => immAll xs
  | _ => true
def immAll : List D → Bool
  | [] => true
  | x :: xs => x.imm && immAll xs
end

/-- an exception that was caught, of the class at C -/
def ExcO (C : Addr) (dx : Option Addr) (a : Addr) : HO := .ext fun h => ∃ (oe : Obj) (vs : Array Value), h.get? a = some oe ∧ Zc (.ref C) dx oe ∧ oe.data = .fields vs
/-- an error's own dict, where it has one -/
def DxOk (dx : Option Addr) (H : Hp) : Prop := ∀ d, dx = some d → ∃ fs, H d = some (.xd fs)
theorem DxOk.none {H : Hp} : DxOk none H := fun _ e => nomatch e
theorem DxOk.mono {dx : Option Addr} {H H' : Hp} (s : Same H H') (h : DxOk dx H) : DxOk dx H' := fun d e => let ⟨fs, q⟩ := h d e; ⟨fs, s _ _ q⟩

mutual
inductive Rp (K : PySem.W.Frag) (G : Hp) : V → D → Prop
  | non : Rp K G .non .non
  | bl (b : Bool) : Rp K G (.bl b) (.bl b)
  | int (i : Int) : Rp K G (.int i) (.int i)
  | str (x : Str) : Rp K G (.str x) (.str x)
  | ty (n : String) : Rp K G (.ty n) (.ty n)
  | cls (C : Addr) : Rp K G (.ref C) (.cls C)
  | tup {a : Addr} {xs : List V} {ds : List D} : SqT K G a xs → Rps K G xs ds → Rp K G (.ref a) (.tup ds)
  | lst {a : Addr} {xs : List V} {ds : List D} : G a = some (.lst xs) → Rps K G xs ds → Rp K G (.ref a) (.lst ds)
  | fz {a : Addr} {xs : List V} {ds : List D} : SqL K G a xs → Rps K G xs ds → Rp K G (.ref a) (.fz ds)
  | exc {a C : Addr} {dx : Option Addr} : G a = some (ExcO C dx a) → DxOk dx G → Rp K G (.ref a) (.exc C)
  | dk0 {a : Addr} : G a = some (.dK []) → Rp K G (.ref a) .dk0
  | pin {a : Addr} {d : D} : Rp K G (.ref a) d → Rp K G (.ref a) (.pin a d)
inductive Rps (K : PySem.W.Frag) (G : Hp) : List V → List D → Prop
  | nil : Rps K G [] []
  | cons {v : V} {vs : List V} {d : D} {ds : List D} : Rp K G v d → Rps K G vs ds → Rps K G (v :: vs) (d :: ds)
end

theorem same_seqT {K : PySem.W.Frag} {H H' : Hp} {a : Addr} {xs : List V} (e : Same H H') (h : SqT K H a xs) : SqT K H' a xs := by
  rcases h with (h | ⟨o, h⟩) | h
  · exact .inl (.inl (e _ _ h))
  · exact .inl (.inr ⟨o, e _ _ h⟩)
  · exact .inr h

section
variable {K : PySem.W.Frag} {G H : Hp}
mutual
theorem Rp.mono (e : Same G H) : ∀ {v : V} {d : D}, Rp K G v d → Rp K H v d
  | _, _, .non => .non
  | _, _, .bl b => .bl b
  | _, _, .int i => .int i
  | _, _, .str x => .str x
  | _, _, .ty n => .ty n
  | _, _, .cls C => .cls C
  | _, _, .tup h r => .tup (same_seqT e h) (Rps.mono e r)
  | _, _, .lst h r => .lst (e _ _ h) (Rps.mono e r)
  | _, _, .fz h r => .fz (e.seq h) (Rps.mono e r)
  | _, _, .exc h hd => .exc (e _ _ h) (hd.mono e)
  | _, _, .dk0 h => .dk0 (e _ _ h)
  | _, _, .pin h => .pin (Rp.mono e h)
theorem Rps.mono (e : Same G H) : ∀ {vs : List V} {ds : List D}, Rps K G vs ds → Rps K H vs ds
  | _, _, .nil => .nil
  | _, _, .cons h r => .cons (Rp.mono e h) (Rps.mono e r)
end
theorem imm_seqT {a : Addr} {xs : List V} (nl : ∀ b o, H b = some o → (∀ xs, o ≠ .lst xs) → G b = some o) (h : SqT K H a xs) : SqT K G a xs := by
  rcases h with (h | ⟨o, h⟩) | h
  · exact .inl (.inl (nl _ _ h fun _ z => nomatch z))
  · exact .inl (.inr ⟨o, nl _ _ h fun _ z => nomatch z⟩)
  · exact .inr h
mutual
theorem Rp.imm (nl : ∀ b o, H b = some o → (∀ xs, o ≠ .lst xs) → G b = some o) : ∀ {v : V} {d : D}, Rp K H v d → d.imm = true → Rp K G v d
  | _, _, .non, _ => .non
  | _, _, .bl b, _ => .bl b
  | _, _, .int i, _ => .int i
  | _, _, .str x, _ => .str x
  | _, _, .ty n, _ => .ty n
  | _, _, .cls C, _ => .cls C
  | _, _, .tup h r, z => .tup (imm_seqT nl h) (Rps.imm nl r (by simpa [D.imm] using z))
  | _, _, .lst h r, z => by simp [D.imm] at z
  | _, _, .fz h r, z => by simp [D.imm] at z
  | _, _, .exc h hd, _ => .exc (nl _ _ h fun _ z => nomatch z) fun d e => let ⟨fs, q⟩ := hd d e; ⟨fs, nl _ _ q fun _ z => nomatch z⟩
  | _, _, .dk0 h, z => by simp [D.imm] at z
  | _, _, .pin h, z => by simp [D.imm] at z
theorem Rps.imm (nl : ∀ b o, H b = some o → (∀ xs, o ≠ .lst xs) → G b = some o) : ∀ {vs : List V} {ds : List D}, Rps K H vs ds → immAll ds = true → Rps K G vs ds
  | _, _, .nil, _ => .nil
  | _, _, .cons h r, z => by
    have z' := z
    rw [immAll, Bool.and_eq_true] at z'
    exact .cons (Rp.imm nl h z'.1) (Rps.imm nl r z'.2)
end
theorem Rps.length : ∀ {vs : List V} {ds : List D}, Rps K G vs ds → vs.length = ds.length
  | _, _, .nil => rfl
  | _, _, .cons _ r => by rw [List.length_cons, List.length_cons, Rps.length r]
theorem Rps.get : ∀ {vs : List V} {ds : List D} (i : Nat) {d : D}, Rps K G vs ds → ds[i]? = some d → ∃ v, vs[i]? = some v ∧ Rp K G v d
  | _, _, i, d, .nil, e => by simp at e
  | _, _, 0, d, .cons h _, e => by
    have e' := Option.some.inj e
    subst e'
    exact ⟨_, rfl, h⟩
  | _, _, i + 1, d, .cons _ r, e => by
    obtain ⟨v, e1, h1⟩ := Rps.get i r (by simpa using e)
    exact ⟨v, by simpa using e1, h1⟩
theorem Rps.getV : ∀ {vs : List V} {ds : List D} (i : Nat) {v : V}, Rps K G vs ds → vs[i]? = some v → ∃ d, ds[i]? = some d ∧ Rp K G v d
  | _, _, i, d, .nil, e => by simp at e
  | _, _, 0, d, .cons h _, e => by
    have e' := Option.some.inj e
    subst e'
    exact ⟨_, rfl, h⟩
  | _, _, i + 1, d, .cons _ r, e => by
    obtain ⟨v, e1, h1⟩ := Rps.getV i r (by simpa using e)
    exact ⟨v, by simpa using e1, h1⟩
theorem Rps.append : ∀ {vs ws : List V} {ds es : List D}, Rps K G vs ds → Rps K G ws es → Rps K G (vs ++ ws) (ds ++ es)
  | _, _, _, _, .nil, s => s
  | _, _, _, _, .cons h r, s => .cons h (Rps.append r s)
theorem Rps.take : ∀ {vs : List V} {ds : List D} (n : Nat), Rps K G vs ds → Rps K G (vs.take n) (ds.take n)
  | _, _, 0, _ => .nil
  | _, _, _ + 1, .nil => .nil
  | _, _, n + 1, .cons h r => .cons h (Rps.take n r)
theorem Rps.drop : ∀ {vs : List V} {ds : List D} (n : Nat), Rps K G vs ds → Rps K G (vs.drop n) (ds.drop n)
  | _, _, 0, r => r
  | _, _, _ + 1, .nil => .nil
  | _, _, n + 1, .cons _ r => Rps.drop n r
theorem Rps.set : ∀ {vs : List V} {ds : List D} (i : Nat) {v : V} {d : D}, Rps K G vs ds → Rp K G v d → Rps K G (vs.set i v) (ds.set i d)
  | _, _, _, _, _, .nil, _ => .nil
  | _, _, 0, _, _, .cons _ r, h => .cons h r
  | _, _, i + 1, _, _, .cons h' r, h => .cons h' (Rps.set i r h)
theorem Rps.one {v : V} {d : D} (h : Rp K G v d) : Rps K G [v] [d] := .cons h .nil
end

/-! ### how heaps go on: H all that is tracked, G the part that no list of one's own is in -/
structure Ev (G H G' H' : Hp) : Prop where
  hs : Same H H'
  gs : Same G G'
  sub : Same G' H'
  new : ∀ b xs, H b = some (.lst xs) → G b = none → G' b = none
theorem Ev.refl {G H : Hp} (s : Same G H) : Ev G H G H := ⟨Same.refl _, Same.refl _, s, fun _ _ _ h => h⟩
theorem Ev.trans {G H G1 H1 G2 H2 : Hp} (a : Ev G H G1 H1) (b : Ev G1 H1 G2 H2) : Ev G H G2 H2 :=
  ⟨a.hs.trans b.hs, a.gs.trans b.gs, b.sub, fun c xs h g => b.new c xs (a.hs _ _ h) (a.new c xs h g)⟩
/-- a new thing, shared -/
theorem Ev.laid {G H : Hp} {p : Addr} {o : HO} (s : Same G H) (n : H p = none) : Ev G H (upd G p o) (upd H p o) := by
  have ng : G p = none := s.free n
  refine ⟨fun b u e => by rw [upd_ne (ne_of_none e n)]; exact e, fun b u e => by rw [upd_ne (ne_of_none e ng)]; exact e, fun b u e => ?_, fun b xs e g => by rw [upd_ne (ne_of_none e n)]; exact g⟩
  by_cases hb : b = p
  · subst hb
    rw [upd_same] at e ⊢
    exact e
  · rw [upd_ne hb] at e ⊢
    exact s b u e
/-- a new thing of one's own -/
theorem Ev.own {G H : Hp} {p : Addr} {o : HO} (s : Same G H) (n : H p = none) : Ev G H G (upd H p o) :=
  ⟨fun b u e => by rw [upd_ne (ne_of_none e n)]; exact e, Same.refl _, fun b u e => by rw [upd_ne (ne_of_none (s b u e) n)]; exact s b u e, fun _ _ _ g => g⟩
/-- what was tracked, but no list that stood at (G0, H0), is shared from now on -/
def joinH (G H G' : Hp) : Hp := fun b => match H b with
  | some (.lst _) => G b
  | _ => G' b
theorem joinH_lst {G H G' : Hp} {b : Addr} {xs : List V} (e : H b = some (.lst xs)) : joinH G H G' b = G b := by
  unfold joinH
  rw [e]
theorem joinH_non {G H G' : Hp} {b : Addr} (e : ∀ xs, H b ≠ some (.lst xs)) : joinH G H G' b = G' b := by
  unfold joinH
  split
  · rename_i xs h
    exact absurd h (e xs)
  · rfl
theorem Ev.join {G H G' H' : Hp} (s : Same G H) (hg : Same H G') (gh : Same G' H') : Ev G H (joinH G H G') H' := by
  refine ⟨hg.trans gh, fun b o e => ?_, fun b o e => ?_, fun b xs e g => by rw [joinH_lst e]; exact g⟩
  · have h1 := s b o e
    by_cases c : ∃ xs, H b = some (.lst xs)
    · obtain ⟨xs, c⟩ := c
      rw [joinH_lst c]
      exact e
    · rw [joinH_non fun xs z => c ⟨xs, z⟩]
      exact hg _ _ h1
  · by_cases c : ∃ xs, H b = some (.lst xs)
    · obtain ⟨xs, c⟩ := c
      rw [joinH_lst c] at e
      exact gh _ _ (hg _ _ (s _ _ e))
    · rw [joinH_non fun xs z => c ⟨xs, z⟩] at e
      exact gh _ _ e
theorem join_imm {G H G' : Hp} (hg : Same H G') : ∀ b o, G' b = some o → (∀ xs, o ≠ .lst xs) → joinH G H G' b = some o := fun b o e n => by
  rw [joinH_non]
  · exact e
  · intro xs z
    have z2 := hg _ _ z
    rw [e] at z2
    exact n xs (Option.some.inj z2)

/-! ### slots -/
inductive Slot where
  | emp | val (d : D) | own (ds : List D)
structure Sig (K : PySem.W.Frag) (G0 H0 G : Hp) (ρ : List Slot) (σ : L2.St) (H : Hp) : Prop where
  ev : Ev G0 H0 G H
  len : σ.length = ρ.length
  val : ∀ (i : Nat) (d : D), ρ[i]? = some (.val d) → ∃ v, σ[i]? = some (some v) ∧ Rp K G v d
  own : ∀ (i : Nat) (ds : List D), ρ[i]? = some (.own ds) → ∃ l xs, σ[i]? = some (some (.ref l)) ∧ H0 l = none ∧ G l = none ∧ H l = some (.lst xs) ∧ Rps K G xs ds
  inj : ∀ (i j : Nat) (ds es : List D) (l : Addr), ρ[i]? = some (.own ds) → ρ[j]? = some (.own es) → σ[i]? = some (some (.ref l)) → σ[j]? = some (some (.ref l)) → i = j
section
variable {K : PySem.W.Frag} {G0 H0 G G' : Hp} {ρ : List Slot} {σ : L2.St} {H H' : Hp}
theorem Sig.step (S : Sig K G0 H0 G ρ σ H) (e : Ev G H G' H') : Sig K G0 H0 G' ρ σ H' :=
  ⟨S.ev.trans e, S.len, fun i d h => let ⟨v, h1, h2⟩ := S.val i d h; ⟨v, h1, h2.mono e.gs⟩,
    fun i ds h => let ⟨l, xs, h1, h2, h3, h4, h5⟩ := S.own i ds h; ⟨l, xs, h1, h2, e.new l xs h4 h3, e.hs _ _ h4, h5.mono e.gs⟩, S.inj⟩
theorem get_set_eq {α : Type} {l : List α} {i : Nat} {x : α} (h : i < l.length) : (l.set i x)[i]? = some x := List.getElem?_set_self h
theorem get_set_ne {α : Type} {l : List α} {i j : Nat} {x : α} (h : i ≠ j) : (l.set i x)[j]? = l[j]? := List.getElem?_set_ne h
/-- a slot gets shared data -/
theorem Sig.setVal (S : Sig K G0 H0 G ρ σ H) {i : Nat} {v : V} {d : D} (r : Rp K G v d) : Sig K G0 H0 G (ρ.set i (.val d)) (σ.set i (some v)) H := by
  refine ⟨S.ev, by rw [List.length_set, List.length_set]; exact S.len, fun j e h => ?_, fun j ds h => ?_, fun j k ds es l h1 h2 h3 h4 => ?_⟩
  · by_cases hj : i = j
    · subst hj
      by_cases hl : i < ρ.length
      · rw [get_set_eq hl] at h
        have z := Slot.val.inj (Option.some.inj h)
        subst z
        exact ⟨v, get_set_eq (S.len ▸ hl), r⟩
      · rw [List.getElem?_eq_none (by rw [List.length_set]; omega)] at h
        cases h
    · rw [get_set_ne hj] at h ⊢
      exact S.val j e h
  · by_cases hj : i = j
    · subst hj
      by_cases hl : i < ρ.length
      · rw [get_set_eq hl] at h
        cases h
      · rw [List.getElem?_eq_none (by rw [List.length_set]; omega)] at h
        cases h
    · rw [get_set_ne hj] at h ⊢
      exact S.own j ds h
  · have nj : ∀ m es', (ρ.set i (Slot.val d))[m]? = some (Slot.own es') → i ≠ m := fun m es' hm z => by
      subst z
      by_cases hl : i < ρ.length
      · rw [get_set_eq hl] at hm
        cases hm
      · rw [List.getElem?_eq_none (by rw [List.length_set]; omega)] at hm
        cases hm
    have n1 := nj j ds h1
    have n2 := nj k es h2
    rw [get_set_ne n1] at h1 h3
    rw [get_set_ne n2] at h2 h4
    exact S.inj j k ds es l h1 h2 h3 h4
/-- a slot gets a list that is new -/
theorem Sig.setOwn (S : Sig K G0 H0 G ρ σ H) {i : Nat} {l : Addr} {xs : List V} {ds : List D} (h0 : H0 l = none) (hg : G l = none) (hl : H l = some (.lst xs)) (r : Rps K G xs ds)
    (nw : ∀ j es, i ≠ j → ρ[j]? = some (.own es) → σ[j]? ≠ some (some (.ref l))) : Sig K G0 H0 G (ρ.set i (.own ds)) (σ.set i (some (.ref l))) H := by
  refine ⟨S.ev, by rw [List.length_set, List.length_set]; exact S.len, fun j e h => ?_, fun j es h => ?_, fun j k es fs m h1 h2 h3 h4 => ?_⟩
  · by_cases hj : i = j
    · subst hj
      by_cases hl : i < ρ.length
      · rw [get_set_eq hl] at h
        cases h
      · rw [List.getElem?_eq_none (by rw [List.length_set]; omega)] at h
        cases h
    · rw [get_set_ne hj] at h ⊢
      exact S.val j e h
  · by_cases hj : i = j
    · subst hj
      by_cases hlt : i < ρ.length
      · rw [get_set_eq hlt] at h
        have z := Slot.own.inj (Option.some.inj h)
        subst z
        exact ⟨l, xs, get_set_eq (S.len ▸ hlt), h0, hg, hl, r⟩
      · rw [List.getElem?_eq_none (by rw [List.length_set]; omega)] at h
        cases h
    · rw [get_set_ne hj] at h ⊢
      exact S.own j es h
  · by_cases hj : i = j
    · by_cases hk : i = k
      · rw [← hj, ← hk]
      · exfalso
        subst hj
        rw [get_set_ne hk] at h2 h4
        by_cases hlt : i < σ.length
        · rw [get_set_eq hlt] at h3
          have z := V.ref.inj (Option.some.inj (Option.some.inj h3))
          subst z
          exact nw k fs hk h2 h4
        · rw [List.getElem?_eq_none (by rw [List.length_set]; omega)] at h3
          cases h3
    · by_cases hk : i = k
      · exfalso
        subst hk
        rw [get_set_ne hj] at h1 h3
        by_cases hlt : i < σ.length
        · rw [get_set_eq hlt] at h4
          have z := V.ref.inj (Option.some.inj (Option.some.inj h4))
          subst z
          exact nw j es hj h1 h3
        · rw [List.getElem?_eq_none (by rw [List.length_set]; omega)] at h4
          cases h4
      · rw [get_set_ne hj] at h1 h3
        rw [get_set_ne hk] at h2 h4
        exact S.inj j k es fs m h1 h2 h3 h4
/-- a slot is emptied -/
theorem Sig.setEmp (S : Sig K G0 H0 G ρ σ H) {i : Nat} {v : Option V} : Sig K G0 H0 G (ρ.set i .emp) (σ.set i v) H := by
  have nj : ∀ m s, s ≠ Slot.emp → (ρ.set i .emp)[m]? = some s → i ≠ m := fun m s hs hm z => by
    subst z
    by_cases hl : i < ρ.length
    · rw [get_set_eq hl] at hm
      exact hs (Option.some.inj hm).symm
    · rw [List.getElem?_eq_none (by rw [List.length_set]; omega)] at hm
      cases hm
  refine ⟨S.ev, by rw [List.length_set, List.length_set]; exact S.len, fun j e h => ?_, fun j es h => ?_, fun j k es fs m h1 h2 h3 h4 => ?_⟩
  · have n := nj j (.val e) (fun z => nomatch z) h
    rw [get_set_ne n] at h ⊢
    exact S.val j e h
  · have n := nj j (.own es) (fun z => nomatch z) h
    rw [get_set_ne n] at h ⊢
    exact S.own j es h
  · have n1 := nj j (.own es) (fun z => nomatch z) h1
    have n2 := nj k (.own fs) (fun z => nomatch z) h2
    rw [get_set_ne n1] at h1 h3
    rw [get_set_ne n2] at h2 h4
    exact S.inj j k es fs m h1 h2 h3 h4
/-- a list of one's own is changed -/
theorem Sig.chg (S : Sig K G0 H0 G ρ σ H) {i : Nat} {l : Addr} {ds es : List D} {ys : List V} (hi : ρ[i]? = some (.own ds)) (hs : σ[i]? = some (some (.ref l))) (r : Rps K G ys es) :
    Sig K G0 H0 G (ρ.set i (.own es)) σ (upd H l (.lst ys)) := by
  obtain ⟨l', xs, h1, h2, h3, h4, h5⟩ := S.own i ds hi
  have e : l' = l := by
    rw [hs] at h1
    exact (V.ref.inj (Option.some.inj (Option.some.inj h1))).symm
  subst e
  have hlt : i < ρ.length := (List.getElem?_eq_some_iff.mp hi).1
  refine ⟨⟨fun b u q => ?_, S.ev.gs, fun b u q => ?_, S.ev.new⟩, by rw [List.length_set]; exact S.len, fun j e h => ?_, fun j fs h => ?_, fun j k fs gs m q1 q2 q3 q4 => ?_⟩
  · rw [upd_ne (ne_of_none q h2)]
    exact S.ev.hs b u q
  · rw [upd_ne (ne_of_none q h3)]
    exact S.ev.sub b u q
  · by_cases hj : i = j
    · subst hj
      rw [get_set_eq hlt] at h
      cases h
    · rw [get_set_ne hj] at h
      exact S.val j e h
  · by_cases hj : i = j
    · subst hj
      rw [get_set_eq hlt] at h
      have z := Slot.own.inj (Option.some.inj h)
      subst z
      exact ⟨l', ys, hs, h2, h3, upd_same, r⟩
    · rw [get_set_ne hj] at h
      obtain ⟨m, zs, k1, k2, k3, k4, k5⟩ := S.own j fs h
      refine ⟨m, zs, k1, k2, k3, ?_, k5⟩
      rw [upd_ne]
      · exact k4
      · intro z
        subst z
        exact hj (S.inj i j ds fs m hi h hs k1)
  · have old : ∀ m fs, (ρ.set i (Slot.own es))[m]? = some (Slot.own fs) → ∃ fs', ρ[m]? = some (Slot.own fs') := fun m fs q => by
      by_cases hm : i = m
      · subst hm
        exact ⟨ds, hi⟩
      · rw [get_set_ne hm] at q
        exact ⟨fs, q⟩
    obtain ⟨_, o1⟩ := old j fs q1
    obtain ⟨_, o2⟩ := old k gs q2
    exact S.inj j k _ _ m o1 o2 q3 q4
/-- a list of one's own is shared from now on -/
theorem Sig.freeze (S : Sig K G0 H0 G ρ σ H) {i : Nat} {ds : List D} (hi : ρ[i]? = some (.own ds)) : ∃ G', Same G G' ∧ Sig K G0 H0 G' (ρ.set i (.val (.lst ds))) σ H := by
  obtain ⟨l, xs, h1, h2, h3, h4, h5⟩ := S.own i ds hi
  have hlt : i < ρ.length := (List.getElem?_eq_some_iff.mp hi).1
  have e : Same G (upd G l (.lst xs)) := fun b u q => by
    rw [upd_ne (ne_of_none q h3)]
    exact q
  refine ⟨upd G l (.lst xs), e, ⟨S.ev.hs, S.ev.gs.trans e, fun b u q => ?_, fun b ys q g => ?_⟩, by rw [List.length_set]; exact S.len, fun j d h => ?_, fun j fs h => ?_, fun j k fs gs m q1 q2 q3 q4 => ?_⟩
  · by_cases hb : b = l
    · subst hb
      rw [upd_same] at q
      rw [h4]
      exact q
    · rw [upd_ne hb] at q
      exact S.ev.sub b u q
  · rw [upd_ne (ne_of_none q h2)]
    exact S.ev.new b ys q g
  · by_cases hj : i = j
    · subst hj
      rw [get_set_eq hlt] at h
      have z := Slot.val.inj (Option.some.inj h)
      subst z
      exact ⟨_, h1, .lst upd_same (h5.mono e)⟩
    · rw [get_set_ne hj] at h
      obtain ⟨v, k1, k2⟩ := S.val j d h
      exact ⟨v, k1, k2.mono e⟩
  · by_cases hj : i = j
    · subst hj
      rw [get_set_eq hlt] at h
      cases h
    · rw [get_set_ne hj] at h
      obtain ⟨m, zs, k1, k2, k3, k4, k5⟩ := S.own j fs h
      refine ⟨m, zs, k1, k2, ?_, k4, k5.mono e⟩
      rw [upd_ne]
      · exact k3
      · intro z
        subst z
        exact hj (S.inj i j ds fs m hi h h1 k1)
  · have old : ∀ m fs, (ρ.set i (Slot.val (.lst ds)))[m]? = some (Slot.own fs) → ∃ fs', ρ[m]? = some (Slot.own fs') := fun m fs q => by
      by_cases hm : i = m
      · subst hm
        exact ⟨ds, hi⟩
      · rw [get_set_ne hm] at q
        exact ⟨fs, q⟩
    obtain ⟨_, o1⟩ := old j fs q1
    obtain ⟨_, o2⟩ := old k gs q2
    exact S.inj j k _ _ m o1 o2 q3 q4
end

/-! ### results and judgements -/
inductive Res where
  | val (d : D) | own (ds : List D) | bor (ds : List D)
def Res.dat : Res → D
  | .val d => d
  | .own ds => .lst ds
  | .bor ds => .lst ds
def ROk (K : PySem.W.Frag) (H G' H' : Hp) (v : V) : Res → Prop
  | .val d => Rp K G' v d
  | .own ds => ∃ l xs, v = .ref l ∧ H l = none ∧ G' l = none ∧ H' l = some (.lst xs) ∧ Rps K G' xs ds
  | .bor ds => ∃ l xs, v = .ref l ∧ G' l = none ∧ H' l = some (.lst xs) ∧ Rps K G' xs ds
inductive ROks (K : PySem.W.Frag) (H G' H' : Hp) : List V → List Res → Prop
  | nil : ROks K H G' H' [] []
  | cons {v : V} {vs : List V} {r : Res} {rs : List Res} : ROk K H G' H' v r → ROks K H G' H' vs rs → ROks K H G' H' (v :: vs) (r :: rs)
section
variable {K : PySem.W.Frag} {H G1 H1 G2 H2 : Hp}
theorem ROk.step {v : V} : ∀ {r : Res}, ROk K H G1 H1 v r → Ev G1 H1 G2 H2 → ROk K H G2 H2 v r
  | .val d, h, e => Rp.mono e.gs h
  | .own ds, ⟨l, xs, h1, h2, h3, h4, h5⟩, e => ⟨l, xs, h1, h2, e.new l xs h4 h3, e.hs _ _ h4, h5.mono e.gs⟩
  | .bor ds, ⟨l, xs, h1, h3, h4, h5⟩, e => ⟨l, xs, h1, e.new l xs h4 h3, e.hs _ _ h4, h5.mono e.gs⟩
theorem ROk.rd {v : V} (s : Same G1 H1) : ∀ {r : Res}, ROk K H G1 H1 v r → Rp K H1 v r.dat
  | .val d, h => Rp.mono s h
  | .own ds, ⟨l, xs, h1, h2, h3, h4, h5⟩ => by
    subst h1
    exact .lst h4 (h5.mono s)
  | .bor ds, ⟨l, xs, h1, h3, h4, h5⟩ => by
    subst h1
    exact .lst h4 (h5.mono s)
theorem ROk.from {H0 : Hp} {v : V} (s : ∀ l, H l = none → H0 l = none) : ∀ {r : Res}, ROk K H G1 H1 v r → ROk K H0 G1 H1 v r
  | .val d, h => h
  | .own ds, ⟨l, xs, h1, h2, h3, h4, h5⟩ => ⟨l, xs, h1, s l h2, h3, h4, h5⟩
  | .bor ds, h => h
theorem ROks.step : ∀ {vs : List V} {rs : List Res}, ROks K H G1 H1 vs rs → Ev G1 H1 G2 H2 → ROks K H G2 H2 vs rs
  | _, _, .nil, _ => .nil
  | _, _, .cons h t, e => .cons (h.step e) (ROks.step t e)
theorem ROks.from {H0 : Hp} (s : ∀ l, H l = none → H0 l = none) : ∀ {vs : List V} {rs : List Res}, ROks K H G1 H1 vs rs → ROks K H0 G1 H1 vs rs
  | _, _, .nil => .nil
  | _, _, .cons h t => .cons (h.from s) (ROks.from s t)
theorem ROks.rd (s : Same G1 H1) : ∀ {vs : List V} {rs : List Res}, ROks K H G1 H1 vs rs → Rps K H1 vs (rs.map Res.dat)
  | _, _, .nil => .nil
  | _, _, .cons h t => .cons (h.rd s) (ROks.rd s t)
end
/-- what may be raised, and what is wanted of it -/
def Lk (K : PySem.W.Frag) (Ex : Value → List Slot → Prop) (E : L2.St → XK) (G0 H0 : Hp) : Prop := ∀ c ρ, Ex c ρ → ∀ (G : Hp) (σ : L2.St) (H : Hp) (dx : Option Addr), Sig K G0 H0 G ρ σ H → DxOk dx H → E σ c dx H
/-- an expression -/
def tE (K : PySem.W.Frag) (Ex : Value → List Slot → Prop) (E : L2.St → XK) (t : TE) (ρ : List Slot) (R : Res → Prop) : Prop :=
  ∀ (G0 H0 G : Hp) (σ : L2.St) (H : Hp) (Q : VK), Sig K G0 H0 G ρ σ H → Lk K Ex E G0 H0 →
    (∀ r, R r → ∀ (v : V) (G' H' : Hp), Ev G H G' H' → ROk K H G' H' v r → Q v H') → t σ H Q
/-- a test -/
def tT (K : PySem.W.Frag) (Ex : Value → List Slot → Prop) (E : L2.St → XK) (t : TT) (ρ : List Slot) (R : Bool → Prop) : Prop :=
  ∀ (G0 H0 G : Hp) (σ : L2.St) (H : Hp) (Q : Bool → Hp → Prop), Sig K G0 H0 G ρ σ H → Lk K Ex E G0 H0 →
    (∀ b, R b → ∀ (G' H' : Hp), Ev G H G' H' → Q b H') → t σ H Q
/-- arguments, each as it comes -/
def tA (K : PySem.W.Frag) (Ex : Value → List Slot → Prop) (E : L2.St → XK) (t : TA) (ρ : List Slot) (R : List Res → Prop) : Prop :=
  ∀ (G0 H0 G : Hp) (σ : L2.St) (H : Hp) (Q : List V → Hp → Prop), Sig K G0 H0 G ρ σ H → Lk K Ex E G0 H0 →
    (∀ rs, R rs → ∀ (vs : List V) (G' H' : Hp), Ev G H G' H' → ROks K H G' H' vs rs → Q vs H') → t σ H Q
/-- an expression whose value is shared from then on -/
def tV (K : PySem.W.Frag) (Ex : Value → List Slot → Prop) (E : L2.St → XK) (t : TE) (ρ : List Slot) (R : D → Prop) : Prop :=
  ∀ (G0 H0 G : Hp) (σ : L2.St) (H : Hp) (Q : VK), Sig K G0 H0 G ρ σ H → Lk K Ex E G0 H0 →
    (∀ d, R d → ∀ (v : V) (G' H' : Hp), Ev G H G' H' → Rp K G' v d → Q v H') → t σ H Q
def tVs (K : PySem.W.Frag) (Ex : Value → List Slot → Prop) (E : L2.St → XK) (t : TA) (ρ : List Slot) (R : List D → Prop) : Prop :=
  ∀ (G0 H0 G : Hp) (σ : L2.St) (H : Hp) (Q : List V → Hp → Prop), Sig K G0 H0 G ρ σ H → Lk K Ex E G0 H0 →
    (∀ ds, R ds → ∀ (vs : List V) (G' H' : Hp), Ev G H G' H' → Rps K G' vs ds → Q vs H') → t σ H Q
/-- what is wanted behind a statement, by data -/
structure DE where
  nx : List Slot → Prop
  rt : Res → Prop
  bk : List Slot → Prop := fun _ => False
  ct : List Slot → Prop := fun _ => False
structure EndsOk (K : PySem.W.Frag) (G0 H0 : Hp) (De : DE) (D : Ends) : Prop where
  nx : ∀ (ρ : List Slot) (G : Hp) (σ : L2.St) (H : Hp), De.nx ρ → Sig K G0 H0 G ρ σ H → D.nx σ H
  rt : ∀ (r : Res) (v : V) (G H : Hp), De.rt r → Ev G0 H0 G H → ROk K H0 G H v r → D.rt v H
  bk : ∀ (ρ : List Slot) (G : Hp) (σ : L2.St) (H : Hp), De.bk ρ → Sig K G0 H0 G ρ σ H → D.bk σ H
  ct : ∀ (ρ : List Slot) (G : Hp) (σ : L2.St) (H : Hp), De.ct ρ → Sig K G0 H0 G ρ σ H → D.ct σ H
def tS (K : PySem.W.Frag) (Ex : Value → List Slot → Prop) (E : L2.St → XK) (t : TS) (ρ : List Slot) (De : DE) : Prop :=
  ∀ (G0 H0 G : Hp) (σ : L2.St) (H : Hp) (D : Ends), Sig K G0 H0 G ρ σ H → Lk K Ex E G0 H0 → EndsOk K G0 H0 De D → t D σ H
end Y
end

section
namespace Y
open PySem PySem.Spec PyProof.Rows L2
/-- ρ' is ρ with s in slot i -/
inductive SS : List Slot → Nat → Slot → List Slot → Prop
  | zero {x s : Slot} {r : List Slot} : SS (x :: r) 0 s (s :: r)
  | succ {x s : Slot} {r r' : List Slot} {i : Nat} : SS r i s r' → SS (x :: r) (i + 1) s (x :: r')
theorem SS.eq : ∀ {ρ ρ' : List Slot} {i : Nat} {s : Slot}, SS ρ i s ρ' → ρ' = ρ.set i s
  | _, _, _, _, .zero => rfl
  | _, _, _, _, .succ h => by rw [SS.eq h]; rfl
/-- scalars: the same in every heap -/
def Sc (v : V) (d : D) : Prop := ∀ K G, Rp K G v d
theorem sc_int {i : Int} : Sc (.int i) (.int i) := fun _ _ => .int i
theorem sc_bl {b : Bool} : Sc (.bl b) (.bl b) := fun _ _ => .bl b
theorem sc_str {x : Str} : Sc (.str x) (.str x) := fun _ _ => .str x
theorem sc_non : Sc .non .non := fun _ _ => .non
theorem sc_ty {n : String} : Sc (.ty n) (.ty n) := fun _ _ => .ty n
section inv
variable {K : PySem.W.Frag} {G : Hp} {v : V}
theorem Rp.inv_int {i : Int} (h : Rp K G v (.int i)) : v = .int i := by cases h; rfl
theorem Rp.inv_bl {b : Bool} (h : Rp K G v (.bl b)) : v = .bl b := by cases h; rfl
theorem Rp.inv_str {x : Str} (h : Rp K G v (.str x)) : v = .str x := by cases h; rfl
theorem Rp.inv_non (h : Rp K G v .non) : v = .non := by cases h; rfl
theorem Rp.inv_ty {n : String} (h : Rp K G v (.ty n)) : v = .ty n := by cases h; rfl
theorem Rp.inv_cls {C : Addr} (h : Rp K G v (.cls C)) : v = .ref C := by cases h; rfl
theorem Rp.inv_tup {ds : List D} (h : Rp K G v (.tup ds)) : ∃ a xs, v = .ref a ∧ SqT K G a xs ∧ Rps K G xs ds := by cases h with | tup h r => exact ⟨_, _, rfl, h, r⟩
theorem Rp.inv_lst {ds : List D} (h : Rp K G v (.lst ds)) : ∃ a xs, v = .ref a ∧ G a = some (.lst xs) ∧ Rps K G xs ds := by cases h with | lst h r => exact ⟨_, _, rfl, h, r⟩
theorem Rp.inv_fz {ds : List D} (h : Rp K G v (.fz ds)) : ∃ a xs, v = .ref a ∧ SqL K G a xs ∧ Rps K G xs ds := by cases h with | fz h r => exact ⟨_, _, rfl, h, r⟩
theorem Rp.inv_exc {C : Addr} (h : Rp K G v (.exc C)) : ∃ a dx, v = .ref a ∧ G a = some (ExcO C dx a) ∧ DxOk dx G := by cases h with | exc h hd => exact ⟨_, _, rfl, h, hd⟩
end inv
/-- a value that is shared -/
def vR (R : D → Prop) : Res → Prop
  | .val d => R d
  | .own ds => R (.lst ds)
  | .bor _ => False
/-- a value that is put into a slot -/
def asgR (k : Slot → Prop) : Res → Prop
  | .val d => k (.val d)
  | .own ds => k (.own ds)
  | .bor _ => False

section
variable {K : PySem.W.Frag} {Ex : Value → List Slot → Prop} {E : L2.St → XK} {ρ : List Slot} {R : Res → Prop}
theorem tE.imp {t : TE} {R R' : Res → Prop} (h : tE K Ex E t ρ R) (q : ∀ r, R r → R' r) : tE K Ex E t ρ R' := fun G0 H0 G σ H Q S X k => h G0 H0 G σ H Q S X fun r hr => k r (q r hr)
theorem e_val {i : Nat} {d : D} (hi : ρ[i]? = some (.val d)) (h : R (.val d)) : tE K Ex E (tVar i) ρ R := fun G0 H0 G σ H Q S X k => by
  obtain ⟨v, h1, h2⟩ := S.val i d hi
  exact ⟨v, h1, k (.val d) h v G H (Ev.refl S.ev.sub) h2⟩
theorem e_own {i : Nat} {ds : List D} (hi : ρ[i]? = some (.own ds)) (h : R (.bor ds)) : tE K Ex E (tVar i) ρ R := fun G0 H0 G σ H Q S X k => by
  obtain ⟨l, xs, h1, h2, h3, h4, h5⟩ := S.own i ds hi
  exact ⟨_, h1, k (.bor ds) h _ G H (Ev.refl S.ev.sub) ⟨l, xs, rfl, h3, h4, h5⟩⟩
theorem e_c {v : V} {d : D} (s : Sc v d) (h : R (.val d)) : tE K Ex E (tC v) ρ R := fun G0 H0 G σ H Q S X k => k (.val d) h v G H (Ev.refl S.ev.sub) (s K G)
theorem e_int {i : Int} (h : R (.val (.int i))) : tE K Ex E (tC (.int i)) ρ R := e_c sc_int h
theorem e_bl {b : Bool} (h : R (.val (.bl b))) : tE K Ex E (tC (.bl b)) ρ R := e_c sc_bl h
theorem e_str {x : Str} (h : R (.val (.str x))) : tE K Ex E (tC (.str x)) ρ R := e_c sc_str h
theorem e_non (h : R (.val .non)) : tE K Ex E (tC .non) ρ R := e_c sc_non h
theorem e_ty {n : String} (h : R (.val (.ty n))) : tE K Ex E (tC (.ty n)) ρ R := e_c sc_ty h
theorem e_cls {C : Addr} (h : R (.val (.cls C))) : tE K Ex E (tC (.ref C)) ρ R := e_c (fun _ _ => .cls C) h
/-- operators of scalars -/
def OpS (K : PySem.W.Frag) (r : R2) (f : D → D → (D → Prop) → Prop) : Prop :=
  ∀ (H : Hp) (x y : V) (d e : D) (Q : VK) (k : D → Prop), Rp K H x d → Rp K H y e → f d e k → (∀ d' v, k d' → Sc v d' → Q v H) → r x y H Q
theorem e_op {r : R2} {f : D → D → (D → Prop) → Prop} {ta tb : TE} (o : OpS K r f) (h : tE K Ex E ta ρ fun a => tE K Ex E tb ρ fun b => f a.dat b.dat fun d => R (.val d)) : tE K Ex E (tOp r ta tb) ρ R :=
  fun G0 H0 G σ H Q S X k => h G0 H0 G σ H _ S X fun a ha v G1 H1 e1 r1 => ha G0 H0 G1 σ H1 _ (S.step e1) X fun b hb u G2 H2 e2 r2 =>
    o H2 v u a.dat b.dat Q _ ((r1.step e2).rd e2.sub) (r2.rd e2.sub) hb fun d' w hk hs => k (.val d') hk w G2 H2 (e1.trans e2) (hs K G2)
def UnS (K : PySem.W.Frag) (r : V → Hp → VK → Prop) (f : D → (D → Prop) → Prop) : Prop :=
  ∀ (H : Hp) (x : V) (d : D) (Q : VK) (k : D → Prop), Rp K H x d → f d k → (∀ d' v, k d' → Sc v d' → Q v H) → r x H Q
theorem e_un {r : V → Hp → VK → Prop} {f : D → (D → Prop) → Prop} {ta : TE} (o : UnS K r f) (h : tE K Ex E ta ρ fun a => f a.dat fun d => R (.val d)) : tE K Ex E (tUn r ta) ρ R :=
  fun G0 H0 G σ H Q S X k => h G0 H0 G σ H _ S X fun a ha v G1 H1 e1 r1 =>
    o H1 v a.dat Q _ (r1.rd e1.sub) ha fun d' w hk hs => k (.val d') hk w G1 H1 e1 (hs K G1)
theorem e_and {ta tb : TE} (h : tE K Ex E ta ρ fun a => ∃ c, a.dat = .bl c ∧ (c = true → tE K Ex E tb ρ R) ∧ (c = false → R (.val (.bl false)))) : tE K Ex E (tAndV ta tb) ρ R :=
  fun G0 H0 G σ H Q S X k => h G0 H0 G σ H _ S X fun a ⟨c, hd, h1, h2⟩ v G1 H1 e1 r1 => by
    have r := r1.rd e1.sub
    rw [hd] at r
    refine ⟨c, r.inv_bl, ?_⟩
    cases c with
    | true => exact iteT ((h1 rfl) G0 H0 G1 σ H1 Q (S.step e1) X fun b hb u G2 H2 e2 r2 => k b hb u G2 H2 (e1.trans e2) (r2.from fun l n => e1.hs.free n))
    | false => exact iteF (k _ (h2 rfl) _ G1 H1 e1 (.bl false))
theorem e_or {ta tb : TE} (h : tE K Ex E ta ρ fun a => ∃ c, a.dat = .bl c ∧ (c = false → tE K Ex E tb ρ R) ∧ (c = true → R (.val (.bl true)))) : tE K Ex E (tOrV ta tb) ρ R :=
  fun G0 H0 G σ H Q S X k => h G0 H0 G σ H _ S X fun a ⟨c, hd, h1, h2⟩ v G1 H1 e1 r1 => by
    have r := r1.rd e1.sub
    rw [hd] at r
    refine ⟨c, r.inv_bl, ?_⟩
    cases c with
    | false => exact iteF ((h1 rfl) G0 H0 G1 σ H1 Q (S.step e1) X fun b hb u G2 H2 e2 r2 => k b hb u G2 H2 (e1.trans e2) (r2.from fun l n => e1.hs.free n))
    | true => exact iteT (k _ (h2 rfl) _ G1 H1 e1 (.bl true))
theorem e_not {ta : TE} (h : tE K Ex E ta ρ fun a => ∃ c, a.dat = .bl c ∧ R (.val (.bl (!c)))) : tE K Ex E (tNotV ta) ρ R :=
  fun G0 H0 G σ H Q S X k => h G0 H0 G σ H _ S X fun a ⟨c, hd, h1⟩ v G1 H1 e1 r1 => by
    have r := r1.rd e1.sub
    rw [hd] at r
    exact ⟨c, r.inv_bl, k _ h1 _ G1 H1 e1 (.bl _)⟩
theorem e_if {tc : TT} {ta tb : TE} (h : tT K Ex E tc ρ fun c => (c = true → tE K Ex E ta ρ R) ∧ (c = false → tE K Ex E tb ρ R)) : tE K Ex E (tIf tc ta tb) ρ R :=
  fun G0 H0 G σ H Q S X k => h G0 H0 G σ H _ S X fun c hc G1 H1 e1 => by
    have fin : ∀ {t : TE}, tE K Ex E t ρ R → t σ H1 Q := fun q => q G0 H0 G1 σ H1 Q (S.step e1) X fun b hb u G2 H2 e2 r2 => k b hb u G2 H2 (e1.trans e2) (r2.from fun l n => e1.hs.free n)
    cases c with
    | true => exact iteT (fin (hc.1 rfl))
    | false => exact iteF (fin (hc.2 rfl))
/-- a op b op' c -/
theorem e_chain {r r' : R2} {f f' : D → D → (D → Prop) → Prop} {ta tb tc : TE} (o : OpS K r f) (o' : OpS K r' f')
    (h : tE K Ex E ta ρ fun a => tE K Ex E tb ρ fun b => f a.dat b.dat fun d => ∃ c, d = .bl c ∧ (c = true → tE K Ex E tc ρ fun z => f' b.dat z.dat fun d' => R (.val d')) ∧ (c = false → R (.val (.bl false)))) : tE K Ex E (tChain r r' ta tb tc) ρ R :=
  fun G0 H0 G σ H Q S X k => h G0 H0 G σ H _ S X fun a ha v G1 H1 e1 r1 => ha G0 H0 G1 σ H1 _ (S.step e1) X fun b hb u G2 H2 e2 r2 =>
    o H2 v u a.dat b.dat _ _ ((r1.step e2).rd e2.sub) (r2.rd e2.sub) hb fun d' w ⟨c, hd, h1, h2⟩ hs => by
      subst hd
      refine ⟨c, (hs K G2).inv_bl, ?_⟩
      cases c with
      | false => exact iteF (k _ (h2 rfl) _ G2 H2 (e1.trans e2) (.bl false))
      | true => exact iteT ((h1 rfl) G0 H0 G2 σ H2 _ ((S.step e1).step e2) X fun z hz w' G3 H3 e3 r3 =>
          o' H3 u w' b.dat z.dat Q _ ((r2.step e3).rd e3.sub) (r3.rd e3.sub) hz fun d'' w'' hk hs' => k (.val d'') hk w'' G3 H3 ((e1.trans e2).trans e3) (hs' K G3))
/-! tests -/
theorem t_test {t : TE} {R : Bool → Prop} (h : tE K Ex E t ρ fun a => ∃ c, a.dat = .bl c ∧ R c) : tT K Ex E (tTest t) ρ R :=
  fun G0 H0 G σ H Q S X k => h G0 H0 G σ H _ S X fun a ⟨c, hd, h1⟩ v G1 H1 e1 r1 => by
    have r := r1.rd e1.sub
    rw [hd] at r
    exact ⟨c, r.inv_bl, k c h1 G1 H1 e1⟩
theorem t_b {t : TE} {R : Bool → Prop} (h : tE K Ex E t ρ fun a => ∃ c, a.dat = .bl c ∧ R c) : tT K Ex E (tB t) ρ R := t_test h
theorem t_not {t : TT} {R : Bool → Prop} (h : tT K Ex E t ρ fun c => R (!c)) : tT K Ex E (tNot t) ρ R := fun G0 H0 G σ H Q S X k => h G0 H0 G σ H _ S X fun c hc G1 H1 e1 => k _ hc G1 H1 e1
theorem t_and {t u : TT} {R : Bool → Prop} (h : tT K Ex E t ρ fun c => (c = true → tT K Ex E u ρ R) ∧ (c = false → R false)) : tT K Ex E (tAnd t u) ρ R :=
  fun G0 H0 G σ H Q S X k => h G0 H0 G σ H _ S X fun c hc G1 H1 e1 => by
    cases c with
    | true => exact iteT ((hc.1 rfl) G0 H0 G1 σ H1 Q (S.step e1) X fun b hb G2 H2 e2 => k b hb G2 H2 (e1.trans e2))
    | false => exact iteF (k _ (hc.2 rfl) G1 H1 e1)
theorem t_or {t u : TT} {R : Bool → Prop} (h : tT K Ex E t ρ fun c => (c = false → tT K Ex E u ρ R) ∧ (c = true → R true)) : tT K Ex E (tOr t u) ρ R :=
  fun G0 H0 G σ H Q S X k => h G0 H0 G σ H _ S X fun c hc G1 H1 e1 => by
    cases c with
    | false => exact iteF ((hc.1 rfl) G0 H0 G1 σ H1 Q (S.step e1) X fun b hb G2 H2 e2 => k b hb G2 H2 (e1.trans e2))
    | true => exact iteT (k _ (hc.2 rfl) G1 H1 e1)
/-- the truth of data -/
def TrD : D → Bool → Prop
  | .non, k => k = false
  | .bl b, k => k = b
  | .int i, k => k = (i != 0)
  | .str y, k => y.length ≤ sizeLine ∧ k = ((y.length : Int) != 0)
  | .lst ds, k => k = !ds.isEmpty
  | .fz ds, k => k = !ds.isEmpty
  | .tup ds, k => k = !ds.isEmpty
  | _, _ => False
theorem isE {K : PySem.W.Frag} {G : Hp} {xs : List V} {ds : List D} (r : Rps K G xs ds) : xs.isEmpty = ds.isEmpty := by cases r <;> rfl
theorem trD_ok {H : Hp} {v : V} {d : D} {k : Bool} (r : Rp K H v d) (h : TrD d k) : TruV K v H k := by
  cases r with
  | non => exact h
  | bl b => exact h
  | int i => exact h
  | str x => exact h
  | ty n => exact h.elim
  | cls C => exact h.elim
  | tup s q => exact .inr (.inl ⟨_, s, by rw [isE q]; exact h⟩)
  | lst s q => exact .inl ⟨_, .inl (.inl s), by rw [isE q]; exact h⟩
  | fz s q => exact .inl ⟨_, s, by rw [isE q]; exact h⟩
  | exc s => exact h.elim
  | dk0 s => exact h.elim
  | pin s => exact h.elim
def tTru (K : PySem.W.Frag) (ta : TE) : TT := fun σ H Q => ta σ H fun x H' => ∃ k, TruV K x H' k ∧ Q k H'
theorem t_tru {ta : TE} {R : Bool → Prop} (h : tE K Ex E ta ρ fun a => ∃ c, TrD a.dat c ∧ R c) : tT K Ex E (tTru K ta) ρ R :=
  fun G0 H0 G σ H Q S X k => h G0 H0 G σ H _ S X fun a ⟨c, hd, h1⟩ v G1 H1 e1 r1 => ⟨c, trD_ok (r1.rd e1.sub) hd, k c h1 G1 H1 e1⟩
/-! arguments -/
theorem v_of {t : TE} {R : D → Prop} (h : tE K Ex E t ρ (vR R)) : tV K Ex E t ρ R :=
  fun G0 H0 G σ H Q S X k => h G0 H0 G σ H _ S X fun r hr v G1 H1 e1 r1 => by
    cases r with
    | val d => exact k d hr v G1 H1 e1 r1
    | own ds =>
      obtain ⟨l, xs, rfl, h2, h3, h4, h5⟩ := r1
      have gs : Same G1 (upd G1 l (.lst xs)) := fun b u q => by
        rw [upd_ne (ne_of_none q h3)]
        exact q
      refine k _ hr _ (upd G1 l (.lst xs)) H1 ⟨e1.hs, e1.gs.trans gs, fun b u q => ?_, fun b ys q g => ?_⟩ (.lst upd_same (h5.mono gs))
      · by_cases hb : b = l
        · subst hb
          rw [upd_same] at q
          rw [h4]
          exact q
        · rw [upd_ne hb] at q
          exact e1.sub b u q
      · rw [upd_ne (ne_of_none q h2)]
        exact e1.new b ys q g
    | bor ds => exact hr.elim
theorem vs_nil {R : List D → Prop} (h : R []) : tVs K Ex E tNil ρ R := fun G0 H0 G σ H Q S X k => k [] h [] G H (Ev.refl S.ev.sub) .nil
theorem vs_cons {t : TE} {tr : TA} {R : List D → Prop} (h : tE K Ex E t ρ (vR fun d => tVs K Ex E tr ρ fun ds => R (d :: ds))) : tVs K Ex E (tCons t tr) ρ R :=
  fun G0 H0 G σ H Q S X k => (v_of h) G0 H0 G σ H _ S X fun d hd v G1 H1 e1 r1 => hd G0 H0 G1 σ H1 _ (S.step e1) X fun ds hds vs G2 H2 e2 r2 => k (d :: ds) hds (v :: vs) G2 H2 (e1.trans e2) (.cons (r1.mono e2.gs) r2)
theorem a_nil {R : List Res → Prop} (h : R []) : tA K Ex E tNil ρ R := fun G0 H0 G σ H Q S X k => k [] h [] G H (Ev.refl S.ev.sub) .nil
theorem a_cons {t : TE} {tr : TA} {R : List Res → Prop} (h : tE K Ex E t ρ fun r => tA K Ex E tr ρ fun rs => R (r :: rs)) : tA K Ex E (tCons t tr) ρ R :=
  fun G0 H0 G σ H Q S X k => h G0 H0 G σ H _ S X fun r hr v G1 H1 e1 r1 => hr G0 H0 G1 σ H1 _ (S.step e1) X fun rs hrs vs G2 H2 e2 r2 => k (r :: rs) hrs (v :: vs) G2 H2 (e1.trans e2) (.cons (r1.step e2) (r2.from fun l n => e1.hs.free n))
theorem e_tup {t : TA} (h : tVs K Ex E t ρ fun ds => ds.length ≤ sizeLine ∧ R (.val (.tup ds))) : tE K Ex E (tTup t) ρ R :=
  fun G0 H0 G σ H Q S X k => h G0 H0 G σ H _ S X fun ds ⟨hl, hr⟩ vs G1 H1 e1 r1 => ⟨by rw [r1.length]; exact hl, fun p np =>
    k _ hr _ (upd G1 p (.tup vs)) _ (e1.trans (Ev.laid e1.sub np)) (.tup (.inl (.inl upd_same)) (r1.mono (Ev.laid (o := .tup vs) e1.sub np).gs))⟩
theorem e_lst {t : TA} (h : tVs K Ex E t ρ fun ds => ds.length ≤ sizeLine ∧ R (.own ds)) : tE K Ex E (tLst t) ρ R :=
  fun G0 H0 G σ H Q S X k => h G0 H0 G σ H _ S X fun ds ⟨hl, hr⟩ vs G1 H1 e1 r1 => ⟨by rw [r1.length]; exact hl, fun p np =>
    k _ hr _ G1 _ (e1.trans (Ev.own e1.sub np)) ⟨p, vs, rfl, e1.hs.free np, e1.sub.free np, upd_same, r1⟩⟩
/-! built-ins of scalars' results -/
def CbS (K : PySem.W.Frag) (r : List V → Hp → VK → Prop) (f : List D → (D → Prop) → Prop) : Prop :=
  ∀ (H : Hp) (vs : List V) (ds : List D) (Q : VK) (k : D → Prop), Rps K H vs ds → f ds k → (∀ d' v, k d' → Sc v d' → Q v H) → r vs H Q
theorem e_cb {r : List V → Hp → VK → Prop} {f : List D → (D → Prop) → Prop} {t : TA} (o : CbS K r f) (h : tA K Ex E t ρ fun rs => f (rs.map Res.dat) fun d => R (.val d)) : tE K Ex E (tCB r t) ρ R :=
  fun G0 H0 G σ H Q S X k => h G0 H0 G σ H _ S X fun rs hrs vs G1 H1 e1 r1 => o H1 vs _ Q _ (r1.rd e1.sub) hrs fun d' w hk hs => k (.val d') hk w G1 H1 e1 (hs K G1)
/-! items -/
def IxD (a : D) (i : Int) (d : D) : Prop := match a with
  | .tup ds => atI ds i = some d
  | .lst ds => atI ds i = some d
  | .fz ds => atI ds i = some d
  | .str z => z.length ≤ sizeLine ∧ ∃ c, atI z.cps.toList i = some c ∧ d = .str ⟨#[c]⟩
  | _ => False
theorem Rps.at {G : Hp} {xs : List V} {ds : List D} {i : Int} {d : D} (r : Rps K G xs ds) (h : atI ds i = some d) : ∃ v, atI xs i = some v ∧ Rp K G v d := by
  unfold atI at h ⊢
  rw [r.length]
  cases e : ixN ds.length i with
  | none => rw [e] at h; cases h
  | some j =>
    rw [e] at h
    exact r.get j h
theorem e_ix {ta tb : TE} (h : tE K Ex E ta ρ fun a => tE K Ex E tb ρ fun b => ∃ i d, b.dat = .int i ∧ IxD a.dat i d ∧ R (.val d)) : tE K Ex E (tOp (rIx K) ta tb) ρ R :=
  fun G0 H0 G σ H Q S X k => h G0 H0 G σ H _ S X fun a ha v G1 H1 e1 r1 => ha G0 H0 G1 σ H1 _ (S.step e1) X fun b hb u G2 H2 e2 r2 => by
    obtain ⟨i, d, hi, hx, hr⟩ := hb
    have hu := r2.rd e2.sub
    rw [hi] at hu
    have hu := hu.inv_int
    subst hu
    have r1 := r1.step e2
    have fin : ∀ w, Rp K G2 w d → Q w H2 := fun w q => k (.val d) hr w G2 H2 (e1.trans e2) q
    have lst : ∀ (l : Addr) (xs : List V) (ds : List D), SqL K H2 l xs → Rps K G2 xs ds → atI ds i = some d → rIx K (.ref l) (.int i) H2 Q := fun l xs ds s q z => by
      obtain ⟨w, hw, rw'⟩ := q.at z
      exact .inl ⟨l, xs, i, w, rfl, rfl, s, hw, fin w rw'⟩
    cases a with
    | val a =>
      cases (show Rp K G2 v a from r1) with
      | tup s q =>
        obtain ⟨w, hw, rw'⟩ := q.at (show atI _ i = some d from hx)
        exact .inr (.inl ⟨_, _, i, w, rfl, rfl, same_seqT e2.sub s, hw, fin w rw'⟩)
      | lst s q => exact lst _ _ _ (.inl (.inl (e2.sub _ _ s))) q hx
      | fz s q => exact lst _ _ _ (e2.sub.seq s) q hx
      | str z =>
        obtain ⟨hz, c, hc, hd⟩ := hx
        subst hd
        exact .inr (.inr ⟨z, i, c, rfl, rfl, hz, hc, fin _ (.str _)⟩)
      | non => exact hx.elim
      | bl _ => exact hx.elim
      | int _ => exact hx.elim
      | ty _ => exact hx.elim
      | cls _ => exact hx.elim
      | exc _ => exact hx.elim
      | dk0 _ => exact hx.elim
      | pin _ => exact hx.elim
    | own ds =>
      obtain ⟨l, xs, rfl, h2, h3, h4, h5⟩ := r1
      exact lst l xs ds (.inl (.inl h4)) h5 hx
    | bor ds =>
      obtain ⟨l, xs, rfl, h3, h4, h5⟩ := r1
      exact lst l xs ds (.inl (.inl h4)) h5 hx
/-! slices -/
def tOo (K : PySem.W.Frag) (Ex : Value → List Slot → Prop) (E : L2.St → XK) (t : TO) (ρ : List Slot) (R : Option Int → Prop) : Prop :=
  ∀ (G0 H0 G : Hp) (σ : L2.St) (H : Hp) (Q : Option Int → Hp → Prop), Sig K G0 H0 G ρ σ H → Lk K Ex E G0 H0 →
    (∀ o, R o → ∀ (G' H' : Hp), Ev G H G' H' → Q o H') → t σ H Q
theorem o_none {R : Option Int → Prop} (h : R none) : tOo K Ex E tNoPart ρ R := fun G0 H0 G σ H Q S X k => k none h G H (Ev.refl S.ev.sub)
theorem o_some {t : TE} {R : Option Int → Prop} (h : tE K Ex E t ρ fun a => ∃ i, a.dat = .int i ∧ R (some i)) : tOo K Ex E (tPart t) ρ R :=
  fun G0 H0 G σ H Q S X k => h G0 H0 G σ H _ S X fun a ⟨i, hd, h1⟩ v G1 H1 e1 r1 => by
    have r := r1.rd e1.sub
    rw [hd] at r
    exact ⟨i, r.inv_int, k (some i) h1 G1 H1 e1⟩
def cutD (ds : List D) (lo hi : Option Int) : List D := (ds.drop (HT.sIx ds.length 0 lo)).take (HT.sIx ds.length ds.length hi - HT.sIx ds.length 0 lo)
theorem Rps.cut {G : Hp} {xs : List V} {ds : List D} (r : Rps K G xs ds) (lo hi : Option Int) : Rps K G (cutV xs lo hi) (cutD ds lo hi) := by
  unfold cutV cutD
  rw [r.length]
  exact (r.drop _).take _
/-- what a slice gives -/
def SlD (a : D) (lo hi : Option Int) (R : Res → Prop) : Prop := match a with
  | .lst ds => R (.own (cutD ds lo hi))
  | .fz ds => R (.own (cutD ds lo hi))
  | .str z => z.length ≤ sizeLine ∧ R (.val (.str (cutS z lo hi)))
  | _ => False
def rSlU (K : PySem.W.Frag) : V → Option Int → Option Int → Hp → VK → Prop := fun x lo hi H Q => rSlL K x lo hi H Q ∨ rSlS x lo hi H Q
theorem e_sl {ta : TE} {tl th : TO} (h : tE K Ex E ta ρ fun a => tOo K Ex E tl ρ fun lo => tOo K Ex E th ρ fun hi => SlD a.dat lo hi R) : tE K Ex E (tSl (rSlU K) ta tl th) ρ R :=
  fun G0 H0 G σ H Q S X k => h G0 H0 G σ H _ S X fun a ha v G1 H1 e1 r1 => ha G0 H0 G1 σ H1 _ (S.step e1) X fun lo hlo G2 H2 e2 => hlo G0 H0 G2 σ H2 _ ((S.step e1).step e2) X fun hi hhi G3 H3 e3 => by
    have e := (e1.trans e2).trans e3
    have r1 := (r1.step e2).step e3
    have lst : ∀ (l : Addr) (xs : List V) (ds : List D), SqL K H3 l xs → Rps K G3 xs ds → R (.own (cutD ds lo hi)) → rSlU K (.ref l) lo hi H3 Q := fun l xs ds s q z =>
      .inl ⟨l, xs, rfl, s, fun p np => k _ z _ G3 _ (e.trans (Ev.own e3.sub np)) ⟨p, _, rfl, e.hs.free np, e3.sub.free np, upd_same, q.cut lo hi⟩⟩
    cases a with
    | val a =>
      cases (show Rp K G3 v a from r1) with
      | tup s q => exact hhi.elim
      | lst s q => exact lst _ _ _ (.inl (.inl (e3.sub _ _ s))) q hhi
      | fz s q => exact lst _ _ _ (e3.sub.seq s) q hhi
      | str z => exact .inr ⟨z, rfl, hhi.1, k _ hhi.2 _ G3 H3 e (.str _)⟩
      | non => exact hhi.elim
      | bl _ => exact hhi.elim
      | int _ => exact hhi.elim
      | ty _ => exact hhi.elim
      | cls _ => exact hhi.elim
      | exc _ => exact hhi.elim
      | dk0 _ => exact hhi.elim
      | pin _ => exact hhi.elim
    | own ds =>
      obtain ⟨l, xs, rfl, h2, h3, h4, h5⟩ := r1
      exact lst l xs ds (.inl (.inl h4)) h5 hhi
    | bor ds =>
      obtain ⟨l, xs, rfl, h3, h4, h5⟩ := r1
      exact lst l xs ds (.inl (.inl h4)) h5 hhi
/-! + of ints, texts, lists -/
def rAddU : R2 := fun x y H Q => rI0 (fun i j => .int (i + j)) x y H Q ∨ (∃ i j, x = .str i ∧ y = .str j ∧ i.length + j.length ≤ sizeLine ∧ Q (.str (i ++ j)) H) ∨ rCat x y H Q
def AddD (a b : D) (R : Res → Prop) : Prop :=
  (∃ i j, a = .int i ∧ b = .int j ∧ R (.val (.int (i + j)))) ∨ (∃ x y, a = .str x ∧ b = .str y ∧ x.length + y.length ≤ sizeLine ∧ R (.val (.str (x ++ y)))) ∨
    ∃ ds es, a = .lst ds ∧ b = .lst es ∧ ds.length + es.length ≤ sizeLine ∧ R (.own (ds ++ es))
/-- a list, wherever it comes from -/
theorem ROk.list {H G' H' : Hp} {v : V} {ds : List D} (s : Same G' H') : ∀ {r : Res}, ROk K H G' H' v r → r.dat = .lst ds → ∃ l xs, v = .ref l ∧ H' l = some (.lst xs) ∧ Rps K G' xs ds
  | .val d, h, e => by
    have e' : d = .lst ds := e
    subst e'
    obtain ⟨l, xs, h1, h2, h3⟩ := Rp.inv_lst h
    exact ⟨l, xs, h1, s _ _ h2, h3⟩
  | .own es, ⟨l, xs, h1, _, _, h4, h5⟩, e => by
    have e' := D.lst.inj e
    subst e'
    exact ⟨l, xs, h1, h4, h5⟩
  | .bor es, ⟨l, xs, h1, _, h4, h5⟩, e => by
    have e' := D.lst.inj e
    subst e'
    exact ⟨l, xs, h1, h4, h5⟩
theorem e_add {ta tb : TE} (h : tE K Ex E ta ρ fun a => tE K Ex E tb ρ fun b => AddD a.dat b.dat R) : tE K Ex E (tOp rAddU ta tb) ρ R :=
  fun G0 H0 G σ H Q S X k => h G0 H0 G σ H _ S X fun a ha v G1 H1 e1 r1 => ha G0 H0 G1 σ H1 _ (S.step e1) X fun b hb u G2 H2 e2 r2 => by
    have e := e1.trans e2
    have r1 := r1.step e2
    rcases hb with ⟨i, j, ha, hb, hr⟩ | ⟨x, y, ha, hb, hl, hr⟩ | ⟨ds, es, ha, hb, hl, hr⟩
    · have q1 := r1.rd e2.sub
      have q2 := r2.rd e2.sub
      rw [ha] at q1
      rw [hb] at q2
      exact .inl ⟨i, j, q1.inv_int, q2.inv_int, k _ hr _ G2 H2 e (.int _)⟩
    · have q1 := r1.rd e2.sub
      have q2 := r2.rd e2.sub
      rw [ha] at q1
      rw [hb] at q2
      exact .inr (.inl ⟨x, y, q1.inv_str, q2.inv_str, hl, k _ hr _ G2 H2 e (.str _)⟩)
    · obtain ⟨l, xs, rfl, h1, q1⟩ := r1.list e2.sub ha
      obtain ⟨m, ys, rfl, h2, q2⟩ := r2.list e2.sub hb
      exact .inr (.inr ⟨l, m, xs, ys, rfl, rfl, h1, h2, by rw [q1.length, q2.length]; exact hl, fun p np => k _ hr _ G2 _ (e.trans (Ev.own e2.sub np)) ⟨p, _, rfl, e.hs.free np, e2.sub.free np, upd_same, q1.append q2⟩⟩)
theorem Rps.rep {G : Hp} {xs : List V} {ds : List D} (r : Rps K G xs ds) : ∀ n : Nat, Rps K G (List.replicate n xs).flatten (List.replicate n ds).flatten
  | 0 => .nil
  | n + 1 => by
    rw [List.replicate_succ, List.replicate_succ, List.flatten_cons, List.flatten_cons]
    exact r.append (Rps.rep r n)
/-- * of ints, list * int -/
def rMulU : R2 := fun x y H Q => rI CMulW (fun i j => .int (i * j)) x y H Q ∨ rRep x y H Q
def MulD (a b : D) (R : Res → Prop) : Prop :=
  (∃ i j, a = .int i ∧ b = .int j ∧ CMulW i j ∧ R (.val (.int (i * j)))) ∨
    ∃ ds k, a = .lst ds ∧ b = .int k ∧ -(2 ^ 63) ≤ k ∧ k < 2 ^ 63 ∧ ds.length * k.toNat ≤ sizeLine ∧ R (.own (List.replicate k.toNat ds).flatten)
theorem e_mul {ta tb : TE} (h : tE K Ex E ta ρ fun a => tE K Ex E tb ρ fun b => MulD a.dat b.dat R) : tE K Ex E (tOp rMulU ta tb) ρ R :=
  fun G0 H0 G σ H Q S X k => h G0 H0 G σ H _ S X fun a ha v G1 H1 e1 r1 => ha G0 H0 G1 σ H1 _ (S.step e1) X fun b hb u G2 H2 e2 r2 => by
    have e := e1.trans e2
    have r1 := r1.step e2
    have q2 := r2.rd e2.sub
    rcases hb with ⟨i, j, ha, hb, hc, hr⟩ | ⟨ds, n, ha, hb, h1, h2, hl, hr⟩
    · have q1 := r1.rd e2.sub
      rw [ha] at q1
      rw [hb] at q2
      exact .inl ⟨i, j, q1.inv_int, q2.inv_int, hc, k _ hr _ G2 H2 e (.int _)⟩
    · rw [hb] at q2
      obtain ⟨l, xs, rfl, g1, q1⟩ := r1.list e2.sub ha
      exact .inr ⟨l, n, xs, rfl, q2.inv_int, g1, h1, h2, by rw [q1.length]; exact hl, fun p np => k _ hr _ G2 _ (e.trans (Ev.own e2.sub np)) ⟨p, _, rfl, e.hs.free np, e2.sub.free np, upd_same, q1.rep _⟩⟩
/-- list(x), x a list or a tuple -/
def rListU (K : PySem.W.Frag) : List V → Hp → VK → Prop := fun xs H Q => ∃ p ys, xs = [.ref p] ∧ (SqL K H p ys ∨ SqT K H p ys) ∧ ∀ l, H l = none → Q (.ref l) (upd H l (.lst ys))
def seqD : D → Option (List D)
  | .lst ds => some ds
  | .fz ds => some ds
  | .tup ds => some ds
  | _ => none
/-- a list or tuple, wherever it comes from -/
theorem ROk.seq {H G' H' : Hp} {v : V} {ds : List D} (s : Same G' H') : ∀ {r : Res}, ROk K H G' H' v r → seqD r.dat = some ds → ∃ l xs, v = .ref l ∧ (SqL K H' l xs ∨ SqT K H' l xs) ∧ Rps K G' xs ds
  | .val d, h, e => by
    cases (show Rp K G' v d from h) with
    | tup q r => cases (Option.some.inj e); exact ⟨_, _, rfl, .inr (same_seqT s q), r⟩
    | lst q r => cases (Option.some.inj e); exact ⟨_, _, rfl, .inl (.inl (.inl (s _ _ q))), r⟩
    | fz q r => cases (Option.some.inj e); exact ⟨_, _, rfl, .inl (s.seq q), r⟩
    | _ => cases e
  | .own es, ⟨l, xs, h1, _, _, h4, h5⟩, e => by
    have e' := Option.some.inj e
    subst e'
    exact ⟨l, xs, h1, .inl (.inl (.inl h4)), h5⟩
  | .bor es, ⟨l, xs, h1, _, h4, h5⟩, e => by
    have e' := Option.some.inj e
    subst e'
    exact ⟨l, xs, h1, .inl (.inl (.inl h4)), h5⟩
theorem e_list {t : TE} (h : tE K Ex E t ρ fun a => ∃ ds, seqD a.dat = some ds ∧ R (.own ds)) : tE K Ex E (tCB (rListU K) (tCons t tNil)) ρ R :=
  fun G0 H0 G σ H Q S X k => h G0 H0 G σ H _ S X fun a ⟨ds, hd, hr⟩ v G1 H1 e1 r1 => by
    obtain ⟨l, xs, rfl, h1, q1⟩ := r1.seq e1.sub hd
    exact ⟨l, xs, rfl, h1, fun p np => k _ hr _ G1 _ (e1.trans (Ev.own e1.sub np)) ⟨p, xs, rfl, e1.hs.free np, e1.sub.free np, upd_same, q1⟩⟩
end
end Y
end

section
namespace Y
open PySem PySem.Spec PyProof.Rows L2
section
variable {K : PySem.W.Frag} {Ex : Value → List Slot → Prop} {E : L2.St → XK} {ρ : List Slot} {De : DE}
theorem tS.imp {t : TS} {De' : DE} (h : tS K Ex E t ρ De) (q1 : ∀ ρ, De.nx ρ → De'.nx ρ) (q2 : ∀ r, De.rt r → De'.rt r) (q3 : ∀ ρ, De.bk ρ → De'.bk ρ) (q4 : ∀ ρ, De.ct ρ → De'.ct ρ) : tS K Ex E t ρ De' :=
  fun G0 H0 G σ H D S X k => h G0 H0 G σ H D S X ⟨fun a b c d e => k.nx a b c d (q1 a e), fun a b c d e => k.rt a b c d (q2 a e), fun a b c d e => k.bk a b c d (q3 a e), fun a b c d e => k.ct a b c d (q4 a e)⟩
theorem s_seq {t u : TS} (h : tS K Ex E t ρ { De with nx := fun ρ' => tS K Ex E u ρ' De }) : tS K Ex E (tSeq t u) ρ De :=
  fun G0 H0 G σ H D S X k => h G0 H0 G σ H { D with nx := u D } S X ⟨fun ρ' G' σ' H' q S' => q G0 H0 G' σ' H' D S' X k, k.rt, k.bk, k.ct⟩
theorem s_next (h : De.nx ρ) : tS K Ex E tNext ρ De := fun G0 H0 G σ H D S X k => k.nx ρ G σ H h S
theorem s_break (h : De.bk ρ) : tS K Ex E tBreak ρ De := fun G0 H0 G σ H D S X k => k.bk ρ G σ H h S
theorem s_cont (h : De.ct ρ) : tS K Ex E tCont ρ De := fun G0 H0 G σ H D S X k => k.ct ρ G σ H h S
theorem s_ret {te : TE} (h : tE K Ex E te ρ De.rt) : tS K Ex E (tRet te) ρ De :=
  fun G0 H0 G σ H D S X k => h G0 H0 G σ H _ S X fun r hr v G' H' e q => k.rt r v G' H' hr (S.ev.trans e) (q.from fun l n => S.ev.hs.free n)
/-- return of a list of one's own -/
theorem s_retOwn {i : Nat} {ds : List D} (hi : ρ[i]? = some (.own ds)) (h : De.rt (.own ds)) : tS K Ex E (tRet (tVar i)) ρ De :=
  fun G0 H0 G σ H D S X k => by
    obtain ⟨l, xs, h1, h2, h3, h4, h5⟩ := S.own i ds hi
    exact ⟨_, h1, k.rt (.own ds) _ G H h S.ev ⟨l, xs, rfl, h2, h3, h4, h5⟩⟩
theorem s_retN (h : De.rt (.val .non)) : tS K Ex E tRetN ρ De := fun G0 H0 G σ H D S X k => k.rt (.val .non) .non G H h S.ev .non
theorem s_if {c : TT} {t u : TS} (h : tT K Ex E c ρ fun b => (b = true → tS K Ex E t ρ De) ∧ (b = false → tS K Ex E u ρ De)) : tS K Ex E (tIfS c t u) ρ De :=
  fun G0 H0 G σ H D S X k => h G0 H0 G σ H _ S X fun b hb G1 H1 e1 => by
    cases b with
    | true => exact iteT (hb.1 rfl G0 H0 G1 σ H1 D (S.step e1) X k)
    | false => exact iteF (hb.2 rfl G0 H0 G1 σ H1 D (S.step e1) X k)
theorem s_set {te : TE} {i : Nat} (h : tE K Ex E te ρ (asgR fun s => ∀ ρ', SS ρ i s ρ' → De.nx ρ')) (hi : i < ρ.length) : tS K Ex E (tAsg te (gName i)) ρ De :=
  fun G0 H0 G σ H D S X k => h G0 H0 G σ H _ S X fun r hr v G1 H1 e1 q => by
    have ss : ∀ s, SS ρ i s (ρ.set i s) := fun s => by
      have key : ∀ (l : List Slot) (j : Nat), j < l.length → SS l j s (l.set j s) := by
        intro l
        induction l with
        | nil => intro j hj; simp at hj
        | cons x r ih =>
          intro j hj
          cases j with
          | zero => exact .zero
          | succ j => exact .succ (ih j (by simpa using hj))
      exact key ρ i hi
    cases r with
    | val d => exact k.nx _ G1 _ H1 (hr _ (ss _)) ((S.step e1).setVal q)
    | own ds =>
      obtain ⟨l, xs, rfl, h2, h3, h4, h5⟩ := q
      refine k.nx _ G1 _ H1 (hr _ (ss _)) ((S.step e1).setOwn (S.ev.hs.free h2) h3 h4 h5 fun j es hj he z => ?_)
      obtain ⟨m, ys, k1, k2, k3, k4, k5⟩ := S.own j es he
      rw [z] at k1
      have e := V.ref.inj (Option.some.inj (Option.some.inj k1))
      subst e
      rw [h2] at k4
      cases k4
    | bor ds => exact hr.elim
/-- .. by a list with one slot set -/
theorem s_setV {te : TE} {i : Nat} (hi : i < ρ.length) (h : tE K Ex E te ρ (asgR fun s => De.nx (ρ.set i s))) : tS K Ex E (tAsg te (gName i)) ρ De :=
  s_set (h.imp fun r q => by
    cases r with
    | val d => exact fun ρ' z => by rw [z.eq]; exact q
    | own ds => exact fun ρ' z => by rw [z.eq]; exact q
    | bor ds => exact q.elim) hi
/-! targets -/
def tG (K : PySem.W.Frag) (W : Nat → Prop) (g : TG) (d : D) (ρ : List Slot) (k : List Slot → Prop) : Prop :=
  ∀ (G0 H0 G : Hp) (σ : L2.St) (H : Hp) (v : V) (Q : L2.St → Hp → Prop), Sig K G0 H0 G ρ σ H → Rp K G v d →
    (∀ ρ' σ', k ρ' → Sig K G0 H0 G ρ' σ' H → (∀ j, ¬ W j → σ'[j]? = σ[j]?) ∧ σ'.length = σ.length → Q σ' H) → g v σ H Q
def tGs (K : PySem.W.Frag) (W : Nat → Prop) (g : TGs) (ds : List D) (ρ : List Slot) (k : List Slot → Prop) : Prop :=
  ∀ (G0 H0 G : Hp) (σ : L2.St) (H : Hp) (vs : List V) (Q : L2.St → Hp → Prop), Sig K G0 H0 G ρ σ H → Rps K G vs ds →
    (∀ ρ' σ', k ρ' → Sig K G0 H0 G ρ' σ' H → (∀ j, ¬ W j → σ'[j]? = σ[j]?) ∧ σ'.length = σ.length → Q σ' H) → g vs σ H Q
theorem g_name {W : Nat → Prop} {i : Nat} {d : D} {k : List Slot → Prop} (hw : W i) (h : k (ρ.set i (.val d))) : tG K W (gName i) d ρ k :=
  fun G0 H0 G σ H v Q S r q => q _ _ h (S.setVal r) ⟨fun j hj => get_set_ne fun z => hj (z ▸ hw), List.length_set⟩
theorem gs_nil {W : Nat → Prop} {k : List Slot → Prop} (h : k ρ) : tGs K W gNil [] ρ k := fun G0 H0 G σ H vs Q S r q => by
  cases r
  exact ⟨rfl, q ρ σ h S ⟨fun _ _ => rfl, rfl⟩⟩
theorem gs_cons {W : Nat → Prop} {g : TG} {gs : TGs} {d : D} {ds : List D} {k : List Slot → Prop} (h : tG K W g d ρ fun ρ' => tGs K W gs ds ρ' k) : tGs K W (gCons g gs) (d :: ds) ρ k := fun G0 H0 G σ H vs Q S r q => by
  cases r with
  | cons r1 r2 =>
    exact ⟨_, _, rfl, h G0 H0 G σ H _ _ S r1 fun ρ' σ' hk S' hj => hk G0 H0 G σ' H _ _ S' r2 fun ρ2 σ2 hk2 S2 hj2 => q ρ2 σ2 hk2 S2 ⟨fun j z => (hj2.1 j z).trans (hj.1 j z), hj2.2.trans hj.2⟩⟩
theorem g_tup {W : Nat → Prop} {n : Nat} {gs : TGs} {ds : List D} {k : List Slot → Prop} (hn : ds.length = n) (h : tGs K W gs ds ρ k) : tG K W (gTup K n gs) (.tup ds) ρ k := fun G0 H0 G σ H v Q S r q => by
  obtain ⟨a, xs, rfl, s, rs⟩ := r.inv_tup
  exact ⟨a, xs, rfl, same_seqT S.ev.sub s, by rw [rs.length]; exact hn, h G0 H0 G σ H xs Q S rs q⟩
theorem s_asgG {te : TE} {g : TG} (h : tE K Ex E te ρ (vR fun d => tG K (fun _ => True) g d ρ De.nx)) : tS K Ex E (tAsg te g) ρ De :=
  fun G0 H0 G σ H D S X k => (v_of h) G0 H0 G σ H _ S X fun d hd v G1 H1 e1 r1 => hd G0 H0 G1 σ H1 v _ (S.step e1) r1 fun ρ' σ' hk S' _ => k.nx ρ' G1 σ' H1 hk S'
theorem s_par {i j : Nat} {ta : TA} (h : tVs K Ex E ta ρ fun ds => ∃ d e, ds = [d, e] ∧ De.nx ((ρ.set i (.val d)).set j (.val e))) : tS K Ex E (tPar i j ta) ρ De :=
  fun G0 H0 G σ H D S X k => h G0 H0 G σ H _ S X fun ds ⟨d, e, hds, hn⟩ vs G1 H1 e1 r1 => by
    subst hds
    cases r1 with
    | cons r1 r2 =>
      cases r2 with
      | cons r2 r3 =>
        cases r3
        exact ⟨_, _, rfl, k.nx _ G1 _ H1 hn (((S.step e1).setVal r1).setVal r2)⟩
/-- x += e of ints -/
theorem s_augI {i : Nat} {te : TE} {f : Int → Int → Int} {a : Int} (hi : ρ[i]? = some (.val (.int a))) (h : tE K Ex E te ρ fun r => ∃ b, r.dat = .int b ∧ De.nx (ρ.set i (.val (.int (f a b))))) : tS K Ex E (tAug i te (ipI f)) ρ De :=
  fun G0 H0 G σ H D S X k => by
    obtain ⟨v, h1, h2⟩ := S.val i _ hi
    have hv := h2.inv_int
    subst hv
    refine ⟨_, h1, h G0 H0 G σ H _ S X fun r ⟨b, hb, hn⟩ u G1 H1 e1 r1 => ?_⟩
    have q := r1.rd e1.sub
    rw [hb] at q
    exact ⟨a, b, rfl, q.inv_int, k.nx _ G1 _ H1 hn ((S.step e1).setVal (.int _))⟩
theorem s_expr {te : TE} (h : tE K Ex E te ρ fun _ => De.nx ρ) : tS K Ex E (tDrop te) ρ De :=
  fun G0 H0 G σ H D S X k => h G0 H0 G σ H _ S X fun r hr v G1 H1 e1 r1 => k.nx ρ G1 σ H1 hr (S.step e1)
/-- xs.append(e), xs of one's own in slot i -/
theorem s_append {i : Nat} {te : TE} {ds : List D} (hi : ρ[i]? = some (.own ds)) (h : tE K Ex E te ρ (vR fun d => ds.length < sizeLine ∧ De.nx (ρ.set i (.own (ds ++ [d]))))) : tS K Ex E (tDrop (tBM K "list" rAppend (tVar i) (tCons te tNil))) ρ De :=
  fun G0 H0 G σ H D S X k => by
    obtain ⟨l, xs, h1, h2, h3, h4, h5⟩ := S.own i ds hi
    refine ⟨_, h1, .inl ⟨rfl, xs, .inl (.inl h4)⟩, (v_of h) G0 H0 G σ H _ S X fun d ⟨hl, hn⟩ v G1 H1 e1 r1 => ?_⟩
    exact ⟨l, xs, v, rfl, rfl, e1.hs _ _ h4, by rw [h5.length]; exact hl, k.nx _ G1 _ _ hn ((S.step e1).chg hi h1 ((h5.mono e1.gs).append (Rps.one r1)))⟩
/-- xs[j] = e, xs of one's own in slot i -/
theorem s_setItem {i : Nat} {te ti : TE} {ds : List D} (hi : ρ[i]? = some (.own ds)) (h : tE K Ex E te ρ (vR fun d => tE K Ex E ti ρ fun r => ∃ m j, r.dat = .int m ∧ ixN ds.length m = some j ∧ De.nx (ρ.set i (.own (ds.set j d))))) :
    tS K Ex E (tAsg te (gSub (tVar i) ti rSetL)) ρ De :=
  fun G0 H0 G σ H D S X k => (v_of h) G0 H0 G σ H _ S X fun d hd v G1 H1 e1 r1 => by
    obtain ⟨l, xs, h1, h2, h3, h4, h5⟩ := (S.step e1).own i ds hi
    refine ⟨_, h1, hd G0 H0 G1 σ H1 _ (S.step e1) X fun r ⟨m, j, hm, hj, hn⟩ u G2 H2 e2 r2 => ?_⟩
    have q := r2.rd e2.sub
    rw [hm] at q
    exact ⟨l, xs, m, j, rfl, q.inv_int, e2.hs _ _ h4, by rw [h5.length]; exact hj, k.nx _ G2 _ _ hn (((S.step e1).step e2).chg hi h1 ((h5.mono e2.gs).set j (r1.mono e2.gs)))⟩
/-- xs.clear() -/
theorem s_clear {i : Nat} {ds : List D} (hi : ρ[i]? = some (.own ds)) (h : De.nx (ρ.set i (.own []))) : tS K Ex E (tDrop (tBM0 K "list" rClear (tVar i))) ρ De :=
  fun G0 H0 G σ H D S X k => by
    obtain ⟨l, xs, h1, h2, h3, h4, h5⟩ := S.own i ds hi
    exact ⟨_, h1, .inl ⟨rfl, xs, .inl (.inl h4)⟩, l, xs, rfl, rfl, h4, k.nx _ G _ _ h (S.chg hi h1 .nil)⟩
/-- a list of one's own is only read from here on -/
theorem s_freeze {t : TS} {i : Nat} {ds : List D} (hi : ρ[i]? = some (.own ds)) (h : tS K Ex E t (ρ.set i (.val (.lst ds))) De) : tS K Ex E t ρ De :=
  fun G0 H0 G σ H D S X k => by
    obtain ⟨G', _, S'⟩ := S.freeze hi
    exact h G0 H0 G' σ H D S' X k
/-- a slot that isn't asked any more -/
theorem Sig.drop {G0 H0 G : Hp} {σ : L2.St} {H : Hp} (S : Sig K G0 H0 G ρ σ H) (i : Nat) : Sig K G0 H0 G (ρ.set i .emp) σ H := by
  by_cases hl : i < σ.length
  · have q := S.setEmp (i := i) (v := σ[i])
    rw [List.set_getElem_self] at q
    exact q
  · rw [List.set_eq_of_length_le (by have := S.len; omega)]
    exact S
theorem s_drop {t : TS} (i : Nat) (h : tS K Ex E t (ρ.set i .emp) De) : tS K Ex E t ρ De := fun G0 H0 G σ H D S X k => h G0 H0 G σ H D (S.drop i) X k
/-! ### calls of one's own defs -/
abbrev FSpec := List D → (Res → Prop) → (Value → Prop) → Prop
def spD (K : PySem.W.Frag) (f : FSpec) : Sp := fun vs H Q E => ∃ (G : Hp) (ds : List D) (R : Res → Prop) (Ex : Value → Prop), Same G H ∧ Rps K G vs ds ∧ f ds R Ex ∧
  (∀ r, R r → ∀ (v : V) (G' H' : Hp), Ev G H G' H' → ROk K H G' H' v r → Q v H') ∧ ∀ c, Ex c → ∀ H' dx, Same H H' → DxOk dx H' → E c dx H'
def immR : Res → Prop
  | .val d => d.imm = true
  | .own ds => immAll ds = true
  | .bor _ => False
/-- the same slots in a heap that has more -/
theorem Sig.same {G0 H0 G : Hp} {σ : L2.St} {H H' : Hp} (S : Sig K G0 H0 G ρ σ H) (s : Same H H') : Sig K G0 H0 G ρ σ H' := S.step ⟨s, Same.refl _, S.ev.sub.trans s, fun _ _ _ g => g⟩
/-- raise C('..') -/
def tRz (E : XK) (C : Addr) : TS := fun _ _ H => ∀ (dx : Option Addr) (H' : Hp), Same H H' → DxOk dx H' → E (.ref C) dx H'
theorem s_rz {C : Addr} {E : XK} (h : Ex (.ref C) ρ) : tS K Ex (fun _ => E) (tRz E C) ρ De := fun G0 H0 G σ H D S X k dx H' s hd => X _ ρ h G σ H' dx (S.same s) hd

theorem e_callX {E : XK} {f : FSpec} {t : TA} {R : Res → Prop} {dvs : List V} {dds : List D} (hd : ∀ G, Rps K G dvs dds) (h : tVs K Ex (fun _ => E) t ρ fun ds => f (ds ++ dds) R fun c => Ex c ρ) : tE K Ex (fun _ => E) (tCall (spD K f) dvs E t) ρ R :=
  fun G0 H0 G σ H Q S X k => h G0 H0 G σ H _ S X fun ds hf vs G1 H1 e1 r1 =>
    ⟨G1, ds ++ dds, R, _, e1.sub, r1.append (hd G1), hf, fun r hr v G2 H2 e2 r2 => k r hr v G2 H2 (e1.trans e2) (r2.from fun l n => e1.hs.free n), fun c hc H' dx s hd => X c ρ hc G1 σ H' dx ((S.step e1).same s) hd⟩
/-- .. in a try's body -/
theorem e_callS {f : FSpec} {t : TA} {R : Res → Prop} (h : tVs K Ex E t ρ fun ds => f ds R fun c => Ex c ρ) : tE K Ex E (tCallS (spD K f) E t) ρ R :=
  fun G0 H0 G σ H Q S X k => h G0 H0 G σ H _ S X fun ds hf vs G1 H1 e1 r1 =>
    ⟨G1, ds, R, _, e1.sub, r1, hf, fun r hr v G2 H2 e2 r2 => k r hr v G2 H2 (e1.trans e2) (r2.from fun l n => e1.hs.free n), fun c hc H' dx s hd => X c ρ hc G1 σ H' dx ((S.step e1).same s) hd⟩
theorem e_call {f : FSpec} {t : TA} {R : Res → Prop} {dvs : List V} {dds : List D} (hd : ∀ G, Rps K G dvs dds) (h : tVs K Ex E t ρ fun ds => f (ds ++ dds) R fun _ => False) : tE K Ex E (tCall (spD K f) dvs E0 t) ρ R :=
  fun G0 H0 G σ H Q S X k => h G0 H0 G σ H _ S X fun ds hf vs G1 H1 e1 r1 =>
    ⟨G1, ds ++ dds, R, fun _ => False, e1.sub, r1.append (hd G1), hf, fun r hr v G2 H2 e2 r2 => k r hr v G2 H2 (e1.trans e2) (r2.from fun l n => e1.hs.free n), fun c hc _ _ _ _ => hc.elim⟩
theorem ROk.imm {H G1 H1 G2 : Hp} {v : V} (hg : Same H1 G2) {H2 : Hp} : ∀ {r : Res}, immR r → ROk K H1 G2 H2 v r → ROk K H1 (joinH G1 H1 G2) H2 v r
  | .val d, i, h => Rp.imm (join_imm hg) h i
  | .own ds, i, ⟨l, xs, h1, h2, h3, h4, h5⟩ => ⟨l, xs, h1, h2, by rw [joinH_non fun xs z => by rw [h2] at z; cases z]; exact h3, h4, Rps.imm (join_imm hg) h5 i⟩
  | .bor ds, i, h => i.elim
theorem e_callB {f : FSpec} {t : TA} {R : Res → Prop} {dvs : List V} {dds : List D} (hd : ∀ G, Rps K G dvs dds) (h : tA K Ex E t ρ fun rs => f (rs.map Res.dat ++ dds) (fun r => immR r ∧ R r) fun _ => False) : tE K Ex E (tCall (spD K f) dvs E0 t) ρ R :=
  fun G0 H0 G σ H Q S X k => h G0 H0 G σ H _ S X fun rs hf vs G1 H1 e1 r1 =>
    ⟨H1, rs.map Res.dat ++ dds, _, fun _ => False, Same.refl _, (r1.rd e1.sub).append (hd H1), hf, fun r hr v G2 H2 e2 r2 =>
      k r hr.2 v (joinH G1 H1 G2) H2 (e1.trans (Ev.join e1.sub e2.gs e2.sub)) ((r2.imm (H := H) e2.gs hr.1).from fun l n => e1.hs.free n), fun c hc _ _ _ _ => hc.elim⟩
theorem e_callBX {E : XK} {f : FSpec} {t : TA} {R : Res → Prop} {dvs : List V} {dds : List D} (hd : ∀ G, Rps K G dvs dds) (h : tA K Ex (fun _ => E) t ρ fun rs => f (rs.map Res.dat ++ dds) (fun r => immR r ∧ R r) fun c => Ex c ρ) : tE K Ex (fun _ => E) (tCall (spD K f) dvs E t) ρ R :=
  fun G0 H0 G σ H Q S X k => h G0 H0 G σ H _ S X fun rs hf vs G1 H1 e1 r1 =>
    ⟨H1, rs.map Res.dat ++ dds, _, fun c => Ex c ρ, Same.refl _, (r1.rd e1.sub).append (hd H1), hf, fun r hr v G2 H2 e2 r2 =>
      k r hr.2 v (joinH G1 H1 G2) H2 (e1.trans (Ev.join e1.sub e2.gs e2.sub)) ((r2.imm (H := H) e2.gs hr.1).from fun l n => e1.hs.free n), fun c hc H' dx s hd => X c ρ hc G1 σ H' dx ((S.step e1).same s) hd⟩
/-! ### a def's promise by its body's reading -/
def slots0 (N : List Str) (ds : List D) : List Slot := ds.map Slot.val ++ List.replicate (N.length - ds.length) .emp
theorem sig0 {G H : Hp} {vs : List V} {ds : List D} {N : List Str} (s : Same G H) (r : Rps K G vs ds) : Sig K G H G (slots0 N ds) (start N vs) H := by
  have hl := r.length
  have get : ∀ (i : Nat) (sl : Slot), (slots0 N ds)[i]? = some sl → (∃ d, ds[i]? = some d ∧ sl = .val d) ∨ (ds.length ≤ i ∧ sl = .emp) := fun i sl h => by
    unfold slots0 at h
    by_cases hi : i < ds.length
    · rw [List.getElem?_append_left (by rw [List.length_map]; exact hi), List.getElem?_map] at h
      cases e : ds[i]? with
      | none => rw [e] at h; cases h
      | some d =>
        rw [e] at h
        exact .inl ⟨d, rfl, (Option.some.inj h).symm⟩
    · rw [List.getElem?_append_right (by rw [List.length_map]; omega)] at h
      have h2 := (List.mem_of_getElem? h)
      exact .inr ⟨by omega, (List.mem_replicate.mp h2).2⟩
  refine ⟨Ev.refl s, ?_, fun i d h => ?_, fun i ds' h => ?_, fun i j ds' es l h => ?_⟩
  · unfold slots0 L2.start
    simp [hl]
  · rcases get i _ h with ⟨d', h1, h2⟩ | ⟨_, h2⟩
    · have e := Slot.val.inj h2
      subst e
      obtain ⟨v, h3, h4⟩ := r.get i h1
      refine ⟨v, ?_, h4⟩
      unfold L2.start
      rw [List.getElem?_append_left (by rw [List.length_map]; exact (List.getElem?_eq_some_iff.mp h3).1), List.getElem?_map, h3]
      rfl
    · cases h2
  · rcases get i _ h with ⟨d', h1, h2⟩ | ⟨_, h2⟩ <;> cases h2
  · rcases get i _ h with ⟨d', h1, h2⟩ | ⟨_, h2⟩ <;> cases h2
abbrev endDE (R : Res → Prop) : DE := { nx := fun _ => R (.val .non), rt := R }
theorem run_body {Ex : Value → Prop} {E : XK} {G H : Hp} {vs : List V} {ds : List D} {N : List Str} {t : TS} {R : Res → Prop} {Q : VK} (s : Same G H) (r : Rps K G vs ds) (h : tS K (fun c _ => Ex c) (fun _ => E) t (slots0 N ds) (endDE R))
    (hq : ∀ r, R r → ∀ (v : V) (G' H' : Hp), Ev G H G' H' → ROk K H G' H' v r → Q v H') (hx : ∀ c, Ex c → ∀ H' dx, Same H H' → DxOk dx H' → E c dx H') : t { nx := fun _ H' => Q .non H', rt := Q } (start N vs) H :=
  h G H G _ H _ (sig0 s r) (fun c ρ hc G' σ' H' dx S' hd => hx c hc H' dx S'.ev.hs hd) ⟨fun ρ' G' σ' H' q S' => hq _ q .non G' H' S'.ev .non, fun r v G' H' q e k => hq r q v G' H' e k, fun _ _ _ _ q _ => q.elim, fun _ _ _ _ q _ => q.elim⟩
end
section
variable {P : Program} {w : World} {K : PySem.W.Frag} {mg : Str → Option Value} {base : Heap}
theorem fn0 {x qual : Str} {st : Stmt} {f : Addr} {fd : FuncData} {N ps : List Str} {k : Nat} {fs : FSpec} (F : Fun K x qual st f fd) (S : FnScope N ps (defScope st)) (len : ∀ ds R Ex, fs ds R Ex → ds.length = ps.length)
    (hb : ∀ (cdv : Value) (A : Around) (outer : List Env) (s : Shared) (H : Hp) (E : XK), Room k (A.deeper (envOfC qual (defScope st) s.heap.objs.size f cdv)) →
      ∃ t, PSs (cxOf CX0 P w K mg base N qual (defScope st) f cdv A outer s H E).nox (defBody st) t ∧ ∀ ds R Ex, fs ds R Ex → tS K (fun c _ => Ex c) (fun _ => E) t (slots0 N ds) (endDE R)) : FnOk P w K mg base CX0 (k + 1) f fd ps (spD K fs) := by
  refine F.ok S (fun vs H Q E ⟨G, ds, R, Ex, s, r, h, _⟩ => by rw [r.length]; exact len ds R Ex h) fun cdv A outer s H vs Q E hr ⟨G, ds, R, Ex, sm, r, h, hq, hx⟩ => ?_
  obtain ⟨t, h1, h2⟩ := hb cdv A outer s H E hr
  exact ⟨t, h1, run_body sm r (h2 ds R Ex h) hq hx⟩
theorem fnX {x qual : Str} {st : Stmt} {f : Addr} {fd : FuncData} {N ps : List Str} {k : Nat} {fs : FSpec} (F : Fun K x qual st f fd) (S : FnScope N ps (defScope st)) (len : ∀ ds R Ex, fs ds R Ex → ds.length = ps.length)
    (hb : ∀ (cdv : Value) (A : Around) (outer : List Env) (s : Shared) (H : Hp) (E : XK), Room k (A.deeper (envOfC qual (defScope st) s.heap.objs.size f cdv)) →
      ∃ t, PSs (cxOf (L2.CX P w) P w K mg base N qual (defScope st) f cdv A outer s H E) (defBody st) t ∧ ∀ ds R Ex, fs ds R Ex → tS K (fun c _ => Ex c) (fun _ => E) t (slots0 N ds) (endDE R)) : FnOk P w K mg base (L2.CX P w) (k + 1) f fd ps (spD K fs) := by
  refine F.okX S (fun vs H Q E ⟨G, ds, R, Ex, s, r, h, _⟩ => by rw [r.length]; exact len ds R Ex h) fun cdv A outer s H vs Q E hr ⟨G, ds, R, Ex, sm, r, h, hq, hx⟩ => ?_
  obtain ⟨t, h1, h2⟩ := hb cdv A outer s H E hr
  exact ⟨t, h1, run_body sm r (h2 ds R Ex h) hq hx⟩
theorem fnD {x qual : Str} {params : Arguments} {body : List Stmt} {scope : Scope} {dvs : List V} {kws : List (Str × V)} {f : Addr} {fd : FuncData} {CXx : CXT} {N ps : List Str} {k : Nat} {fs : FSpec} (F : FunD K x qual params body scope dvs kws f fd) (S : FnScope N ps scope) (len : ∀ ds R Ex, fs ds R Ex → ds.length = ps.length)
    (hb : ∀ (cdv : Value) (A : Around) (outer : List Env) (s : Shared) (H : Hp) (E : XK), Room k (A.deeper (envOfC qual scope s.heap.objs.size f cdv)) →
      ∃ t, PSs (cxOf CXx P w K mg base N qual scope f cdv A outer s H E) body t ∧ ∀ ds R Ex, fs ds R Ex → tS K (fun c _ => Ex c) (fun _ => E) t (slots0 N ds) (endDE R)) : FnOk P w K mg base CXx (k + 1) f fd ps (spD K fs) := by
  refine F.ok S (fun vs H Q E ⟨G, ds, R, Ex, s, r, h, _⟩ => by rw [r.length]; exact len ds R Ex h) fun cdv A outer s H vs Q E hr ⟨G, ds, R, Ex, sm, r, h, hq, hx⟩ => ?_
  obtain ⟨t, h1, h2⟩ := hb cdv A outer s H E hr
  exact ⟨t, h1, run_body sm r (h2 ds R Ex h) hq hx⟩
end
end Y
end

section
namespace Y
open PySem PySem.Spec PyProof.Rows L2
section
variable {K : PySem.W.Frag} {Ex : Value → List Slot → Prop} {E : L2.St → XK} {ρ : List Slot} {De : DE} {G0 H0 G : Hp} {σ : L2.St} {H : Hp}
open Classical in
/-- the heap without the lists of one's own -/
noncomputable def unown (ρ : List Slot) (σ : L2.St) (H : Hp) : Hp := fun b => if (∃ (i : Nat) (ds : List D), ρ[i]? = some (.own ds) ∧ σ[i]? = some (some (.ref b))) then none else H b
theorem Sig.root (S : Sig K G0 H0 G ρ σ H) : ∃ H1, Sig K G H1 G ρ σ H ∧ Same H0 H1 := by
  refine ⟨unown ρ σ H, ⟨⟨fun b o e => ?_, Same.refl _, S.ev.sub, fun b xs e g => g⟩, S.len, S.val, fun i ds h => ?_, S.inj⟩, fun b o e => ?_⟩
  · unfold unown at e
    split at e
    · cases e
    · exact e
  · obtain ⟨l, xs, h1, h2, h3, h4, h5⟩ := S.own i ds h
    exact ⟨l, xs, h1, if_pos ⟨i, ds, h, h1⟩, h3, h4, h5⟩
  · unfold unown
    rw [if_neg]
    · exact S.ev.hs _ _ e
    · rintro ⟨i, ds, h, h1⟩
      obtain ⟨l, xs, k1, k2, _⟩ := S.own i ds h
      rw [h1] at k1
      have z := V.ref.inj (Option.some.inj (Option.some.inj k1))
      subst z
      rw [e] at k2
      cases k2
theorem Ev.up {H1 G' H' : Hp} (e : Ev G0 H0 G H) (h : Same H0 H1) (e' : Ev G H1 G' H') : Ev G0 H0 G' H' :=
  ⟨h.trans e'.hs, e.gs.trans e'.gs, e'.sub, fun b xs hb g => e'.new b xs (h _ _ hb) (e.new b xs hb g)⟩
theorem Sig.up {H1 G' H' : Hp} {ρ' : List Slot} {σ' : L2.St} (e : Ev G0 H0 G H) (h : Same H0 H1) (S : Sig K G H1 G' ρ' σ' H') : Sig K G0 H0 G' ρ' σ' H' :=
  ⟨e.up h S.ev, S.len, S.val, fun i ds q => let ⟨l, xs, h1, h2, h3⟩ := S.own i ds q; ⟨l, xs, h1, h.free h2, h3⟩, S.inj⟩
/-! ### what is walked -/
def YD (K : PySem.W.Frag) (G' : Hp) (ds : List D) : Nat → Hp → V → Hp → Prop := fun i H x H' => ∀ G2, Same G' G2 → Same G2 H → ∃ d G3, ds[i]? = some d ∧ Ev G2 H G3 H' ∧ Rp K G3 x d
def tIt (K : PySem.W.Frag) (Ex : Value → List Slot → Prop) (E : L2.St → XK) (wi : TI) (ρ : List Slot) (R : List D → Prop) : Prop :=
  ∀ (G0 H0 G : Hp) (σ : L2.St) (H : Hp) (Q : It → Hp → Prop), Sig K G0 H0 G ρ σ H → Lk K Ex E G0 H0 →
    (∀ ds, R ds → ∀ (J : It) (G' H' : Hp), Ev G H G' H' → Walk J ds.length (fun H => Same G' H) (YD K G' ds) → Q J H') → wi σ H Q
def listD : D → Option (List D)
  | .lst ds => some ds
  | .fz ds => some ds
  | _ => none
theorem walkL {a : Addr} {xs : List V} {ds : List D} {G' : Hp} (s : ∀ H, Same G' H → SqL K H a xs) (r : Rps K G' xs ds) : Walk (Itl K a) ds.length (fun H => Same G' H) (YD K G' ds) := by
  have w := (walk_list (K := K) (a := a) (xs := xs)).mono (G' := fun H => Same G' H) (Y' := YD K G' ds) (fun H h => s H h) fun i H x H' hi g y G2 g2 h2 => by
    obtain ⟨rfl, e⟩ := y
    obtain ⟨d, hd, rd⟩ := r.getV i e
    exact ⟨d, G2, hd, Ev.refl h2, rd.mono g2⟩
  rw [r.length] at w
  exact w
theorem walkT {a : Addr} {xs : List V} {ds : List D} {G' : Hp} (s : ∀ H, Same G' H → SqT K H a xs) (r : Rps K G' xs ds) : Walk (Itt K a) ds.length (fun H => Same G' H) (YD K G' ds) := by
  have w := (walk_tup (K := K) (a := a) (xs := xs)).mono (G' := fun H => Same G' H) (Y' := YD K G' ds) (fun H h => s H h) fun i H x H' hi g y G2 g2 h2 => by
    obtain ⟨rfl, e⟩ := y
    obtain ⟨d, hd, rd⟩ := r.getV i e
    exact ⟨d, G2, hd, Ev.refl h2, rd.mono g2⟩
  rw [r.length] at w
  exact w
theorem Rp.listSq {v : V} {d : D} {ds : List D} (h : Rp K G v d) (e : listD d = some ds) : ∃ a xs, v = .ref a ∧ SqL K G a xs ∧ Rps K G xs ds := by
  cases h with
  | lst q r => cases e; exact ⟨_, _, rfl, .inl (.inl q), r⟩
  | fz q r => cases e; exact ⟨_, _, rfl, q, r⟩
  | _ => cases e
theorem i_list {tl : TE} {R : List D → Prop} (h : tE K Ex E tl ρ (vR fun d => ∃ ds, listD d = some ds ∧ R ds)) : tIt K Ex E (iList K tl) ρ R :=
  fun G0 H0 G σ H Q S X k => (v_of h) G0 H0 G σ H _ S X fun d ⟨ds, hd, hr⟩ v G1 H1 e1 r1 => by
    obtain ⟨a, xs, rfl, s, r⟩ := r1.listSq hd
    exact ⟨a, rfl, ⟨xs, e1.sub.seq s⟩, k ds hr (Itl K a) G1 H1 e1 (walkL (fun H h => h.seq s) r)⟩
theorem i_tup {tl : TE} {R : List D → Prop} (h : tE K Ex E tl ρ (vR fun d => ∃ ds, d = .tup ds ∧ R ds)) : tIt K Ex E (iTup K tl) ρ R :=
  fun G0 H0 G σ H Q S X k => (v_of h) G0 H0 G σ H _ S X fun d ⟨ds, hd, hr⟩ v G1 H1 e1 r1 => by
    subst hd
    obtain ⟨a, xs, rfl, s, r⟩ := r1.inv_tup
    exact ⟨a, rfl, ⟨xs, same_seqT e1.sub s⟩, k ds hr (Itt K a) G1 H1 e1 (walkT (fun H h => same_seqT h s) r)⟩
def rangeD (lo : Int) (n : Nat) : List D := (List.range n).map fun (i : Nat) => D.int (lo + ((i : Nat) : Int))
theorem rangeD_len {lo : Int} {n : Nat} : (rangeD lo n).length = n := by unfold rangeD; rw [List.length_map, List.length_range]
theorem rangeD_get {lo : Int} {n i : Nat} {d : D} (h : (rangeD lo n)[i]? = some d) : i < n ∧ d = .int (lo + (i : Int)) := by
  have hi : i < n := by
    have := (List.getElem?_eq_some_iff.mp h).1
    rw [rangeD_len] at this
    exact this
  unfold rangeD at h
  rw [List.getElem?_map, List.getElem?_range hi] at h
  exact ⟨hi, (Option.some.inj h).symm⟩
theorem walkR {lo : Int} {n : Nat} {G' : Hp} : Walk (Itr lo n) (rangeD lo n).length (fun H => Same G' H) (YD K G' (rangeD lo n)) := by
  have w := (walk_range (lo := lo) (n := n)).mono (G' := fun H => Same G' H) (Y' := YD K G' (rangeD lo n)) (fun _ _ => trivial) fun i H x H' hi g y G2 g2 h2 => by
    obtain ⟨rfl, e⟩ := y
    refine ⟨.int (lo + (i : Int)), G2, ?_, Ev.refl h2, by rw [e]; exact .int _⟩
    unfold rangeD
    rw [List.getElem?_map, List.getElem?_range hi]
    rfl
  have e : (rangeD lo n).length = n := rangeD_len
  rw [e]
  exact w
theorem i_range1 {t : TE} {R : List D → Prop} (h : tE K Ex E t ρ fun a => ∃ j, a.dat = .int j ∧ -(2 ^ 62) ≤ j ∧ j < 2 ^ 62 ∧ R (rangeD 0 j.toNat)) : tIt K Ex E (iRng1 (tCons t tNil)) ρ R :=
  fun G0 H0 G σ H Q S X k => h G0 H0 G σ H _ S X fun a ⟨j, hd, h1, h2, hr⟩ v G1 H1 e1 r1 => by
    have q := r1.rd e1.sub
    rw [hd] at q
    exact ⟨j, by rw [q.inv_int], h1, h2, k _ hr _ G1 H1 e1 walkR⟩
theorem i_range2 {t u : TE} {R : List D → Prop} (h : tE K Ex E t ρ fun a => tE K Ex E u ρ fun b => ∃ i j, a.dat = .int i ∧ b.dat = .int j ∧ (-(2 ^ 62) ≤ i ∧ i < 2 ^ 62 ∧ -(2 ^ 62) ≤ j ∧ j < 2 ^ 62) ∧ R (rangeD i (j - i).toNat)) : tIt K Ex E (iRng2 (tCons t (tCons u tNil))) ρ R :=
  fun G0 H0 G σ H Q S X k => h G0 H0 G σ H _ S X fun a ha v G1 H1 e1 r1 => ha G0 H0 G1 σ H1 _ (S.step e1) X fun b ⟨i, j, h1, h2, h3, hr⟩ u G2 H2 e2 r2 => by
    have q := (r1.step e2).rd e2.sub
    rw [h1] at q
    have q2 := r2.rd e2.sub
    rw [h2] at q2
    exact ⟨i, j, by rw [q.inv_int, q2.inv_int], h3, k _ hr _ G2 H2 (e1.trans e2) walkR⟩
/-! pairs that are laid on the way -/
theorem walkP {J : It} {n : Nat} {xs ys : Nat → Option V} {ds es : List D} {P : Hp → Prop} {G' : Hp} {out : List D} (w : Walk J n P (YPair xs ys)) (hP : ∀ H, Same G' H → P H)
    (h : ∀ i x y, i < n → xs i = some x → ys i = some y → ∃ d e, out[i]? = some (.tup [d, e]) ∧ Rp K G' x d ∧ Rp K G' y e) (hn : out.length = n) : Walk J out.length (fun H => Same G' H) (YD K G' out) := by
  rw [hn]
  refine w.mono hP fun i H v H' hi g y G2 g2 h2 => ?_
  obtain ⟨T, x, z, rfl, nT, rfl, h3, h4⟩ := y
  obtain ⟨d, e, ho, rx, ry⟩ := h i x z hi h3 h4
  have el := Ev.laid (o := .tup [x, z]) h2 nT
  exact ⟨_, _, ho, el, .tup (.inl (.inl upd_same)) (.cons ((rx.mono g2).mono el.gs) (.cons ((ry.mono g2).mono el.gs) .nil))⟩
def enumD (ds : List D) : List D := ds.zipIdx.map fun p => .tup [.int (p.2 : Int), p.1]
theorem enumD_len {ds : List D} : (enumD ds).length = ds.length := by unfold enumD; rw [List.length_map, List.length_zipIdx]
theorem enumD_get {ds : List D} {i : Nat} : (enumD ds)[i]? = ds[i]?.map fun d => .tup [.int (i : Int), d] := by
  unfold enumD
  rw [List.getElem?_map, List.getElem?_zipIdx]
  cases ds[i]? with
  | none => rfl
  | some d => simp
theorem i_enum {t : TE} {R : List D → Prop} (h : tE K Ex E t ρ (vR fun d => ∃ ds, listD d = some ds ∧ R (enumD ds))) : tIt K Ex E (iEnum K (tCons t tNil)) ρ R :=
  fun G0 H0 G σ H Q S X k => (v_of h) G0 H0 G σ H _ S X fun d ⟨ds, hd, hr⟩ v G1 H1 e1 r1 => by
    obtain ⟨a, xs, rfl, s, r⟩ := r1.listSq hd
    refine ⟨a, xs, rfl, e1.sub.seq s, k _ hr (Ite K a) G1 H1 e1 ?_⟩
    refine walkP (ds := ds) (es := ds) (walk_enum (K := K) (a := a) (xs := xs)) (fun H h => h.seq s) (fun i x y hi hx hy => ?_) (by rw [enumD_len, r.length])
    obtain ⟨d, h1, h2⟩ := r.getV i hy
    have e := Option.some.inj hx
    subst e
    exact ⟨.int i, d, by rw [enumD_get, h1]; rfl, .int _, h2⟩
def zipD (ds es : List D) : List D := (ds.zip es).map fun p => .tup [p.1, p.2]
theorem i_zip {t u : TE} {R : List D → Prop} (h : tE K Ex E t ρ (vR fun d => tE K Ex E u ρ (vR fun e => ∃ ds es, listD d = some ds ∧ listD e = some es ∧ R (zipD ds es)))) : tIt K Ex E (iZip K (tCons t (tCons u tNil))) ρ R :=
  fun G0 H0 G σ H Q S X k => (v_of h) G0 H0 G σ H _ S X fun d hd v G1 H1 e1 r1 => (v_of hd) G0 H0 G1 σ H1 _ (S.step e1) X fun e ⟨ds, es, h1, h2, hr⟩ u G2 H2 e2 r2 => by
    obtain ⟨a, xs, rfl, s, r⟩ := (r1.mono e2.gs).listSq h1
    obtain ⟨b, ys, rfl, s', r'⟩ := r2.listSq h2
    refine ⟨a, b, xs, ys, rfl, e2.sub.seq s, e2.sub.seq s', k _ hr (Itz K a b) G2 H2 (e1.trans e2) ?_⟩
    refine walkP (ds := ds) (es := es) (walk_zip (K := K) (a := a) (b := b) (xs := xs) (ys := ys) rfl) (fun H h => ⟨h.seq s, h.seq s'⟩) (fun i x y hi hx hy => ?_) ?_
    · obtain ⟨d, h1, h2⟩ := r.getV i hx
      obtain ⟨e, h3, h4⟩ := r'.getV i hy
      refine ⟨d, e, ?_, h2, h4⟩
      unfold zipD
      rw [List.getElem?_map, (List.getElem?_zip_eq_some (z := (d, e))).mpr ⟨h1, h3⟩]
      rfl
    · unfold zipD
      rw [List.length_map, List.length_zip, r.length, r'.length]
/-! ### loops -/
theorem s_for {wi : TI} {g : TG} {tb : TS} (h : tIt K Ex E wi ρ fun ds => ∃ I : Nat → List Slot → Prop, I 0 ρ ∧
      (∀ i d ρ', ds[i]? = some d → I i ρ' → tG K (fun _ => True) g d ρ' fun ρ2 => tS K Ex E tb ρ2 { nx := I (i + 1), rt := De.rt, bk := De.nx, ct := I (i + 1) }) ∧ ∀ ρ', I ds.length ρ' → De.nx ρ') :
    tS K Ex E (tFor wi g tb) ρ De :=
  fun G0 H0 G σ H D S X k => h G0 H0 G σ H _ S X fun ds ⟨I, h0, hs, hd⟩ J G1 H1 e1 w => by
    obtain ⟨Hr, Sr, hr⟩ := (S.step e1).root
    have ev := (S.step e1).ev
    refine for_it w (fun i σ H => ∃ ρ' G', I i ρ' ∧ Sig K G1 Hr G' ρ' σ H) ⟨ρ, G1, h0, Sr⟩ (fun i σ H _ ⟨ρ', G', _, S'⟩ => S'.ev.gs.trans S'.ev.sub) (fun i x σ H H' hi ⟨ρ', G', hI, S'⟩ hy => ?_) (fun σ H ⟨ρ', G', hI, S'⟩ => k.nx ρ' G' σ H (hd ρ' hI) (S'.up ev hr))
    obtain ⟨d, G3, hd', e3, r3⟩ := hy G' S'.ev.gs S'.ev.sub
    refine hs i d ρ' hd' hI G1 Hr G3 σ H' x _ (S'.step e3) r3 fun ρ2 σ2 q S2 _ => ?_
    exact q G1 Hr G3 σ2 H' _ S2 (fun c ρ hc G σ H dx S hd => X c ρ hc G σ H dx (S.up ev hr) hd) ⟨fun ρ G σ H q S => ⟨ρ, G, q, S⟩, fun r v G H q e kk => k.rt r v G H q (ev.up hr e) (kk.from fun l n => hr.free n),
      fun ρ G σ H q S => k.nx ρ G σ H q (S.up ev hr), fun ρ G σ H q S => ⟨ρ, G, q, S⟩⟩
theorem s_while {c : TT} {tb : TS} (I : List Slot → Prop) (μ : List Slot → Nat) (h0 : I ρ)
    (hs : ∀ ρ', I ρ' → tT K Ex E c ρ' fun b => (b = true → tS K Ex E tb ρ' { nx := fun ρ2 => I ρ2 ∧ μ ρ2 < μ ρ', rt := De.rt, bk := De.nx, ct := fun ρ2 => I ρ2 ∧ μ ρ2 < μ ρ' }) ∧ (b = false → De.nx ρ')) :
    tS K Ex E (tWhile c tb) ρ De :=
  fun G0 H0 G σ H D S X k => by
    refine ⟨fun m σ H => ∃ ρ' G', I ρ' ∧ μ ρ' = m ∧ Sig K G0 H0 G' ρ' σ H, ⟨_, ρ, G, h0, rfl, S⟩, fun m σ H ⟨ρ', G', hI, hm, S'⟩ => ?_⟩
    refine hs ρ' hI G0 H0 G' σ H _ S' X fun b hb G1 H1 e1 => ?_
    cases b with
    | false => exact iteF (k.nx ρ' G1 σ H1 (hb.2 rfl) (S'.step e1))
    | true =>
      refine iteT ⟨fun σ' H' => ∃ ρ2 G2, (I ρ2 ∧ μ ρ2 < μ ρ') ∧ Sig K G0 H0 G2 ρ2 σ' H', fun σ' H' ⟨ρ2, G2, ⟨hI2, hlt⟩, S2⟩ => ⟨μ ρ2, by omega, ρ2, G2, hI2, rfl, S2⟩, ?_⟩
      exact hb.1 rfl G0 H0 G1 σ H1 _ (S'.step e1) X ⟨fun ρ G σ H q S => ⟨ρ, G, q, S⟩, k.rt, k.nx, fun ρ G σ H q S => ⟨ρ, G, q, S⟩⟩
/-! ### comprehensions -/
def wipeS (ρ : List Slot) : List Nat → List Slot
  | [] => ρ
  | v :: vs => (wipeS ρ vs).set v .emp
theorem Sig.wipe (S : Sig K G0 H0 G ρ σ H) : ∀ vs : List Nat, Sig K G0 H0 G (wipeS ρ vs) (L2.wipe σ vs) H
  | [] => S
  | v :: vs => (Sig.wipe S vs).setEmp
theorem wipe_len (σ : L2.St) : ∀ vs : List Nat, (L2.wipe σ vs).length = σ.length
  | [] => rfl
  | v :: vs => by
    show ((L2.wipe σ vs).set v none).length = _
    rw [List.length_set, wipe_len σ vs]
theorem wipe_get (σ : L2.St) (j : Nat) : ∀ vs : List Nat, (L2.wipe σ vs)[j]? = if j ∈ vs ∧ j < σ.length then some none else σ[j]?
  | [] => by
    rw [if_neg (fun z => by cases z.1)]
    rfl
  | v :: vs => by
    show ((L2.wipe σ vs).set v none)[j]? = _
    by_cases hv : v = j
    · subst hv
      by_cases hl : v < σ.length
      · rw [List.getElem?_set_self (by rw [wipe_len]; exact hl), if_pos ⟨List.mem_cons_self, hl⟩]
      · rw [List.getElem?_eq_none (by rw [List.length_set, wipe_len]; omega), if_neg (fun z => hl z.2), List.getElem?_eq_none (by omega)]
    · rw [List.getElem?_set_ne hv, wipe_get σ j vs]
      have e : (j ∈ v :: vs) ↔ j ∈ vs := by
        rw [List.mem_cons]
        exact ⟨fun z => z.resolve_left fun e => hv e.symm, .inr⟩
      simp only [e]
theorem wipe_same {σ σ2 : L2.St} {vs : List Nat} (h : ∀ j, ¬ j ∈ vs → σ2[j]? = (L2.wipe σ vs)[j]?) (hl : σ2.length = (L2.wipe σ vs).length) : L2.wipe σ2 vs = L2.wipe σ vs := by
  rw [wipe_len] at hl
  apply List.ext_getElem?
  intro j
  rw [wipe_get, wipe_get]
  by_cases hj : j ∈ vs
  · rw [hl]
    by_cases hlt : j < σ.length
    · rw [if_pos ⟨hj, hlt⟩, if_pos ⟨hj, hlt⟩]
    · rw [if_neg fun z => hlt z.2, if_neg fun z => hlt z.2, List.getElem?_eq_none (by omega), List.getElem?_eq_none (by omega)]
  · rw [if_neg fun z => hj z.1, if_neg fun z => hj z.1]
    have z := h j hj
    rw [wipe_get, if_neg fun z => hj z.1] at z
    exact z
/-- one more slot, of one's own -/
theorem Sig.push (S : Sig K G0 H0 G ρ σ H) {l : Addr} {xs : List V} {ds : List D} (h0 : H0 l = none) (hg : G l = none) (hl : H l = some (.lst xs)) (r : Rps K G xs ds)
    (nw : ∀ (j : Nat) (es : List D), ρ[j]? = some (Slot.own es) → σ[j]? ≠ some (some (V.ref l))) : Sig K G0 H0 G (ρ ++ [Slot.own ds]) (σ ++ [some (V.ref l)]) H := by
  have hlen := S.len
  have gr : ∀ i s, (ρ ++ [Slot.own ds])[i]? = some s → ρ[i]? = some s ∨ (i = ρ.length ∧ s = .own ds) := fun i s h => by
    by_cases hi : i < ρ.length
    · rw [List.getElem?_append_left hi] at h
      exact .inl h
    · rw [List.getElem?_append_right (by omega)] at h
      by_cases he : i = ρ.length
      · subst he
        rw [Nat.sub_self] at h
        exact .inr ⟨rfl, (Option.some.inj h).symm⟩
      · rw [List.getElem?_eq_none (by simp; omega)] at h
        cases h
  have gl : ∀ i, i < ρ.length → (σ ++ [some (V.ref l)])[i]? = σ[i]? := fun i hi => List.getElem?_append_left (by omega)
  have ge : (σ ++ [some (V.ref l)])[ρ.length]? = some (some (.ref l)) := by
    rw [List.getElem?_append_right (by omega), hlen, Nat.sub_self]
    rfl
  refine ⟨S.ev, by simp [hlen], fun i d h => ?_, fun i es h => ?_, fun i j es fs m h1 h2 h3 h4 => ?_⟩
  · rcases gr i _ h with h | ⟨_, h⟩
    · obtain ⟨v, h1, h2⟩ := S.val i d h
      exact ⟨v, by rw [gl i (List.getElem?_eq_some_iff.mp h).1]; exact h1, h2⟩
    · cases h
  · rcases gr i _ h with h | ⟨hi, h⟩
    · obtain ⟨m, ys, h1, h2⟩ := S.own i es h
      exact ⟨m, ys, by rw [gl i (List.getElem?_eq_some_iff.mp h).1]; exact h1, h2⟩
    · have e := Slot.own.inj h
      subst e hi
      exact ⟨l, xs, ge, h0, hg, hl, r⟩
  · rcases gr i _ h1 with q1 | ⟨i1, q1⟩
    · rw [gl i (List.getElem?_eq_some_iff.mp q1).1] at h3
      rcases gr j _ h2 with q2 | ⟨i2, q2⟩
      · rw [gl j (List.getElem?_eq_some_iff.mp q2).1] at h4
        exact S.inj i j es fs m q1 q2 h3 h4
      · subst i2
        rw [ge] at h4
        have z := V.ref.inj (Option.some.inj (Option.some.inj h4))
        subst z
        exact absurd h3 (nw i es q1)
    · subst i1
      rw [ge] at h3
      have z := V.ref.inj (Option.some.inj (Option.some.inj h3))
      subst z
      rcases gr j _ h2 with q2 | ⟨i2, q2⟩
      · rw [gl j (List.getElem?_eq_some_iff.mp q2).1] at h4
        exact absurd h4 (nw j fs q2)
      · rw [i2]
theorem Sig.pre {s : Slot} {x : Option V} (S : Sig K G0 H0 G (ρ ++ [s]) (σ ++ [x]) H) : Sig K G0 H0 G ρ σ H := by
  have hlen : σ.length = ρ.length := by
    have := S.len
    simpa using this
  have up : ∀ i (s' : Slot), ρ[i]? = some s' → (ρ ++ [s])[i]? = some s' := fun i s' h => by
    rw [List.getElem?_append_left (List.getElem?_eq_some_iff.mp h).1]
    exact h
  have dn : ∀ i (s' : Slot) (o : Option (Option V)), ρ[i]? = some s' → (σ ++ [x])[i]? = o → σ[i]? = o := fun i s' o h q => by
    rw [List.getElem?_append_left (by have := (List.getElem?_eq_some_iff.mp h).1; omega)] at q
    exact q
  refine ⟨S.ev, hlen, fun i d h => ?_, fun i ds h => ?_, fun i j ds es l h1 h2 h3 h4 => ?_⟩
  · obtain ⟨v, h1, h2⟩ := S.val i d (up i _ h)
    exact ⟨v, dn i _ _ h h1, h2⟩
  · obtain ⟨l, xs, h1, h2⟩ := S.own i ds (up i _ h)
    exact ⟨l, xs, dn i _ _ h h1, h2⟩
  · refine S.inj i j ds es l (up i _ h1) (up j _ h2) ?_ ?_
    · rw [List.getElem?_append_left (by have := (List.getElem?_eq_some_iff.mp h1).1; omega)]
      exact h3
    · rw [List.getElem?_append_left (by have := (List.getElem?_eq_some_iff.mp h2).1; omega)]
      exact h4
/-- what a comprehension walks: a list of one's own, too -/
def tIc (K : PySem.W.Frag) (Ex : Value → List Slot → Prop) (E : L2.St → XK) (wi : TI) (ρ : List Slot) (R : List D → Prop) : Prop :=
  ∀ (G0 H0 G : Hp) (σ : L2.St) (H : Hp) (Q : It → Hp → Prop), Sig K G0 H0 G ρ σ H → Lk K Ex E G0 H0 →
    (∀ ds, R ds → ∀ (J : It) (G' H' : Hp), Ev G H G' H' → Walk J ds.length (fun H => Same H' H) (YD K G' ds) → Q J H') → wi σ H Q
theorem tIt.ic {wi : TI} {R : List D → Prop} (h : tIt K Ex E wi ρ R) : tIc K Ex E wi ρ R := fun G0 H0 G σ H Q S X k =>
  h G0 H0 G σ H Q S X fun ds hr J G' H' e w => k ds hr J G' H' e (w.mono (fun H h => e.sub.trans h) fun _ _ _ _ _ _ y => y)
theorem walkC {a : Addr} {xs : List V} {ds : List D} {G' H' : Hp} (s : SqL K H' a xs) (r : Rps K G' xs ds) : Walk (Itl K a) ds.length (fun H => Same H' H) (YD K G' ds) := by
  have w := (walk_list (K := K) (a := a) (xs := xs)).mono (G' := fun H => Same H' H) (Y' := YD K G' ds) (fun H h => h.seq s) fun i H x H' hi g y G2 g2 h2 => by
    obtain ⟨rfl, e⟩ := y
    obtain ⟨d, hd, rd⟩ := r.getV i e
    exact ⟨d, G2, hd, Ev.refl h2, rd.mono g2⟩
  rw [r.length] at w
  exact w
theorem ROk.listSq {H G' H' : Hp} {v : V} {ds : List D} (s : Same G' H') : ∀ {r : Res}, ROk K H G' H' v r → listD r.dat = some ds → ∃ l xs, v = .ref l ∧ SqL K H' l xs ∧ Rps K G' xs ds
  | .val d, h, e => by
    obtain ⟨a, xs, h1, h2, h3⟩ := Rp.listSq (show Rp K G' v d from h) e
    exact ⟨a, xs, h1, s.seq h2, h3⟩
  | .own es, ⟨l, xs, h1, _, _, h4, h5⟩, e => by
    have e' := Option.some.inj e
    subst e'
    exact ⟨l, xs, h1, .inl (.inl h4), h5⟩
  | .bor es, ⟨l, xs, h1, _, h4, h5⟩, e => by
    have e' := Option.some.inj e
    subst e'
    exact ⟨l, xs, h1, .inl (.inl h4), h5⟩
theorem ic_list {tl : TE} {R : List D → Prop} (h : tE K Ex E tl ρ fun r => ∃ ds, listD r.dat = some ds ∧ R ds) : tIc K Ex E (iList K tl) ρ R :=
  fun G0 H0 G σ H Q S X k => h G0 H0 G σ H _ S X fun r ⟨ds, hd, hr⟩ v G1 H1 e1 r1 => by
    obtain ⟨a, xs, rfl, s, q⟩ := r1.listSq e1.sub hd
    exact ⟨a, rfl, ⟨xs, s⟩, k ds hr (Itl K a) G1 H1 e1 (walkC s q)⟩
theorem e_lc {wi : TI} {g : TG} {tt : TT} {te : TE} {vs : List Nat} {R : Res → Prop} (h : tIc K Ex E wi ρ fun ds => ds.length ≤ sizeLine ∧ ∃ J : Nat → List D → Prop, J 0 [] ∧
      (∀ i d outs, ds[i]? = some d → J i outs → tG K (· ∈ vs) g d (wipeS ρ vs) fun ρ2 => tT K (fun _ _ => False) E tt ρ2 fun b => (b = true → tE K (fun _ _ => False) E te ρ2 (vR fun y => J (i + 1) (outs ++ [y]))) ∧ (b = false → J (i + 1) outs)) ∧
      ∀ outs, J ds.length outs → outs.length ≤ ds.length → R (.own outs)) : tE K Ex E (tLc wi g tt te vs) ρ R :=
  fun G0 H0 G σ H Q S X k => h G0 H0 G σ H _ S X fun ds ⟨hsz, J, h0, hs, hd⟩ It G1 H1 e1 w => fun Dl nD => by
    obtain ⟨Hr, Sr, hr⟩ := (S.step e1).root
    have ev := (S.step e1).ev
    have nG : G1 Dl = none := e1.sub.free nD
    have nHr : Hr Dl = none := Sr.ev.hs.free nD
    have nlen : (wipeS ρ vs).length = (L2.wipe σ vs).length := (Sr.wipe vs).len.symm
    have start : Sig K G1 Hr G1 (wipeS ρ vs ++ [Slot.own []]) (L2.wipe σ vs ++ [some (V.ref Dl)]) (upd H1 Dl (.lst [])) := by
      refine Sig.push (xs := []) ((Sr.wipe vs).step (Ev.own e1.sub nD)) nHr nG upd_same .nil fun j es hj z => ?_
      obtain ⟨l, xs, k1, k2, k3, k4, k5⟩ := (Sr.wipe vs).own j es hj
      rw [z] at k1
      have e := V.ref.inj (Option.some.inj (Option.some.inj k1))
      subst e
      rw [nD] at k4
      cases k4
    have upE : ∀ {G' H' : Hp} {ys : List V}, Ev G1 H1 G' H' → G' Dl = none → Ev G1 H1 G' (upd H' Dl (.lst ys)) := fun {G' H' ys} e g => by
      refine ⟨fun b o q => ?_, e.gs, fun b o q => ?_, e.new⟩
      · rw [upd_ne (ne_of_none q nD)]
        exact e.hs _ _ q
      · rw [upd_ne (ne_of_none q g)]
        exact e.sub _ _ q
    refine lc_it w (fun i H => ∃ G' outs, J i outs ∧ outs.length ≤ i ∧ Ev G1 H1 G' H ∧ Sig K G1 Hr G' (wipeS ρ vs ++ [Slot.own outs]) (L2.wipe σ vs ++ [some (V.ref Dl)]) H) ⟨G1, [], h0, Nat.le_refl _, upE (Ev.refl e1.sub) nG, start⟩
      (fun i H _ ⟨G', outs, _, _, ea, _⟩ => ea.hs) (fun i x H H' hi ⟨G', outs, hJ, hlen, ea, S'⟩ hy => ?_) fun H ⟨G', outs, hJ, hlen, ea, S'⟩ => ?_
    · obtain ⟨d, G3, hd', e3, r3⟩ := hy G' S'.ev.gs S'.ev.sub
      have S3 := S'.step e3
      refine hs i d outs hd' hJ G1 Hr G3 _ H' x _ S3.pre r3 fun ρ2 σ2 q S2 hj => ⟨wipe_same hj.1 hj.2, ?_⟩
      refine q G1 Hr G3 σ2 H' _ S2 (fun c ρ hc => hc.elim) fun b hb G4 H4 e4 => ?_
      cases b with
      | false => exact iteF ⟨G4, outs, hb.2 rfl, by omega, (ea.trans e3).trans e4, S3.step e4⟩
      | true =>
        refine iteT ((v_of (hb.1 rfl)) G1 Hr G4 σ2 H4 _ (S2.step e4) (fun c ρ hc => hc.elim) fun y hy v G5 H5 e5 r5 => ?_)
        have S5 := (S3.step e4).step e5
        have gi : (wipeS ρ vs ++ [Slot.own outs])[(wipeS ρ vs).length]? = some (.own outs) := by
          rw [List.getElem?_append_right (Nat.le_refl _), Nat.sub_self]
          rfl
        have gs : (L2.wipe σ vs ++ [some (V.ref Dl)])[(wipeS ρ vs).length]? = some (some (.ref Dl)) := by
          rw [nlen, List.getElem?_append_right (Nat.le_refl _), Nat.sub_self]
          rfl
        obtain ⟨l, xs, k1, k2, k3, k4, k5⟩ := S5.own _ _ gi
        rw [gs] at k1
        have e := V.ref.inj (Option.some.inj (Option.some.inj k1))
        subst e
        refine ⟨xs, k4, ?_, G5, outs ++ [y], hy, by rw [List.length_append]; show outs.length + 1 ≤ i + 1; omega, upE (((ea.trans e3).trans e4).trans e5) k3, ?_⟩
        · rw [k5.length]
          omega
        · have q5 := S5.chg gi gs (k5.append (Rps.one r5))
          have e2 : (wipeS ρ vs ++ [Slot.own outs]).set (wipeS ρ vs).length (Slot.own (outs ++ [y])) = wipeS ρ vs ++ [Slot.own (outs ++ [y])] := by
            rw [List.set_append_right _ _ (Nat.le_refl _), Nat.sub_self]
            rfl
          rw [e2] at q5
          exact q5
    · have gi : (wipeS ρ vs ++ [Slot.own outs])[(wipeS ρ vs).length]? = some (.own outs) := by
        rw [List.getElem?_append_right (Nat.le_refl _), Nat.sub_self]
        rfl
      have gs : (L2.wipe σ vs ++ [some (V.ref Dl)])[(wipeS ρ vs).length]? = some (some (.ref Dl)) := by
        rw [nlen, List.getElem?_append_right (Nat.le_refl _), Nat.sub_self]
        rfl
      obtain ⟨l, xs, k1, k2, k3, k4, k5⟩ := S'.own _ _ gi
      rw [gs] at k1
      have e := V.ref.inj (Option.some.inj (Option.some.inj k1))
      subst e
      exact k (.own outs) (hd outs hJ hlen) _ G' H (e1.trans ea) ⟨Dl, xs, rfl, e1.hs.free nD, k3, k4, k5⟩
end
end Y
end

section
namespace Y
open PySem PySem.Spec PyProof.Rows L2
/-! ### operators -/
section
variable {K : PySem.W.Frag}
theorem os_int {g : Int → Int → V} {g' : Int → Int → D} (h : ∀ i j, Sc (g i j) (g' i j)) : OpS K (rI0 g) fun d e k => ∃ i j, d = .int i ∧ e = .int j ∧ k (g' i j) := by
  intro H x y d e Q k rx ry hf hq
  obtain ⟨i, j, rfl, rfl, hk⟩ := hf
  exact ⟨i, j, rx.inv_int, ry.inv_int, hq _ _ hk (h i j)⟩
theorem os_intC {C : Int → Int → Prop} {g : Int → Int → V} {g' : Int → Int → D} (h : ∀ i j, Sc (g i j) (g' i j)) : OpS K (rI C g) fun d e k => ∃ i j, d = .int i ∧ e = .int j ∧ C i j ∧ k (g' i j) := by
  intro H x y d e Q k rx ry hf hq
  obtain ⟨i, j, rfl, rfl, hc, hk⟩ := hf
  exact ⟨i, j, rx.inv_int, ry.inv_int, hc, hq _ _ hk (h i j)⟩
/-- // by any divisor but 0, of up to 9000 bits -/
def CDivX (_ j : Int) : Prop := j ≠ 0 ∧ j.natAbs.log2 < 9000
theorem op_fdivX {X : Cx} : OpR X (binaryOp .FloorDiv) (rI CDivX fun i j => .int (i.fdiv j)) := opI fun i j _ _ _ _ _ hc q => floordiv_int hc.1 q (.inl (PyProof.noPylong_of_log2 hc.2))
theorem op_addU {X : Cx} : OpR X (binaryOp .Add) rAddU := OpR.or op_add (OpR.or op_add_str op_cat)
theorem op_mulU {X : Cx} : OpR X (binaryOp .Mult) rMulU := OpR.or op_mulW op_rep
theorem sl_U {X : Cx} : SlR X (rSlU X.K) := SlR.or sl_list sl_str
variable {Ex : Value → List Slot → Prop} {E : L2.St → XK} {ρ : List Slot} {R : Res → Prop} {ta tb : TE}
theorem e_sub (h : tE K Ex E ta ρ fun a => tE K Ex E tb ρ fun b => ∃ i j, a.dat = .int i ∧ b.dat = .int j ∧ R (.val (.int (i - j)))) : tE K Ex E (tOp (rI0 fun i j => .int (i - j)) ta tb) ρ R := e_op (os_int fun _ _ => sc_int) h
theorem e_mod (h : tE K Ex E ta ρ fun a => tE K Ex E tb ρ fun b => ∃ i j, a.dat = .int i ∧ b.dat = .int j ∧ 0 < j ∧ R (.val (.int (i % j)))) : tE K Ex E (tOp (rI (fun _ j => 0 < j) fun i j => .int (i % j)) ta tb) ρ R := e_op (os_intC fun _ _ => sc_int) h
theorem e_fdiv (h : tE K Ex E ta ρ fun a => tE K Ex E tb ρ fun b => ∃ i j, a.dat = .int i ∧ b.dat = .int j ∧ CDivX i j ∧ R (.val (.int (i.fdiv j)))) : tE K Ex E (tOp (rI CDivX fun i j => .int (i.fdiv j)) ta tb) ρ R := e_op (os_intC fun _ _ => sc_int) h
theorem e_pow (h : tE K Ex E ta ρ fun a => tE K Ex E tb ρ fun b => ∃ i j, a.dat = .int i ∧ b.dat = .int j ∧ CPow i j ∧ R (.val (.int (i ^ j.toNat)))) : tE K Ex E (tOp (rI CPow fun i j => .int (i ^ j.toNat)) ta tb) ρ R := e_op (os_intC fun _ _ => sc_int) h
theorem e_shr (h : tE K Ex E ta ρ fun a => tE K Ex E tb ρ fun b => ∃ i j, a.dat = .int i ∧ b.dat = .int j ∧ 0 ≤ j ∧ R (.val (.int (i / 2 ^ j.toNat)))) : tE K Ex E (tOp (rI (fun _ j => 0 ≤ j) fun i j => .int (i / 2 ^ j.toNat)) ta tb) ρ R := e_op (os_intC fun _ _ => sc_int) h
theorem e_band (h : tE K Ex E ta ρ fun a => tE K Ex E tb ρ fun b => ∃ i j, a.dat = .int i ∧ b.dat = .int j ∧ R (.val (.int (Builtin.bitAnd i j)))) : tE K Ex E (tOp (rI0 fun i j => .int (Builtin.bitAnd i j)) ta tb) ρ R := e_op (os_int fun _ _ => sc_int) h
theorem e_lt (h : tE K Ex E ta ρ fun a => tE K Ex E tb ρ fun b => ∃ i j, a.dat = .int i ∧ b.dat = .int j ∧ R (.val (.bl (decide (i < j))))) : tE K Ex E (tOp (rI0 fun i j => .bl (decide (i < j))) ta tb) ρ R := e_op (os_int fun _ _ => sc_bl) h
theorem e_le (h : tE K Ex E ta ρ fun a => tE K Ex E tb ρ fun b => ∃ i j, a.dat = .int i ∧ b.dat = .int j ∧ R (.val (.bl (decide (i ≤ j))))) : tE K Ex E (tOp (rI0 fun i j => .bl (decide (i ≤ j))) ta tb) ρ R := e_op (os_int fun _ _ => sc_bl) h
theorem e_gt (h : tE K Ex E ta ρ fun a => tE K Ex E tb ρ fun b => ∃ i j, a.dat = .int i ∧ b.dat = .int j ∧ R (.val (.bl (decide (j < i))))) : tE K Ex E (tOp (rI0 fun i j => .bl (decide (j < i))) ta tb) ρ R := e_op (os_int fun _ _ => sc_bl) h
theorem e_ge (h : tE K Ex E ta ρ fun a => tE K Ex E tb ρ fun b => ∃ i j, a.dat = .int i ∧ b.dat = .int j ∧ R (.val (.bl (decide (j ≤ i))))) : tE K Ex E (tOp (rI0 fun i j => .bl (decide (j ≤ i))) ta tb) ρ R := e_op (os_int fun _ _ => sc_bl) h
theorem e_neg (h : tE K Ex E ta ρ fun a => ∃ i, a.dat = .int i ∧ R (.val (.int (-i)))) : tE K Ex E (tUn (rU fun i => .int (-i)) ta) ρ R :=
  e_un (f := fun d k => ∃ i, d = .int i ∧ k (.int (-i))) (fun H x d Q k rx ⟨i, hd, hk⟩ hq => ⟨i, by subst hd; exact rx.inv_int, hq _ _ hk sc_int⟩) h
/-! chains of two comparisons of ints -/
theorem e_chainI {g1 g2 : Int → Int → Bool} {tc : TE}
    (h : tE K Ex E ta ρ fun a => tE K Ex E tb ρ fun b => ∃ i j, a.dat = .int i ∧ b.dat = .int j ∧ (g1 i j = true → tE K Ex E tc ρ fun z => ∃ m, z.dat = .int m ∧ R (.val (.bl (g2 j m)))) ∧ (g1 i j = false → R (.val (.bl false)))) :
    tE K Ex E (tChain (rI0 fun i j => .bl (g1 i j)) (rI0 fun i j => .bl (g2 i j)) ta tb tc) ρ R :=
  e_chain (os_int fun _ _ => sc_bl) (os_int fun _ _ => sc_bl) (h.imp fun a ha => ha.imp fun b ⟨i, j, h1, h2, h3, h4⟩ => ⟨i, j, h1, h2, g1 i j, rfl, fun q => (h3 q).imp fun z ⟨m, h5, h6⟩ => ⟨j, m, h2, h5, h6⟩, h4⟩)
/-! is -/
def isNon : D → Bool
  | .non => true
  | _ => false
theorem isNon_ok {H : Hp} : ∀ {x : V} {d : D}, Rp K H x d → decide (x = .non) = isNon d
  | _, _, .non => rfl
  | _, _, .bl _ => rfl
  | _, _, .int _ => rfl
  | _, _, .str _ => rfl
  | _, _, .ty _ => rfl
  | _, _, .cls _ => rfl
  | _, _, .tup _ _ => rfl
  | _, _, .lst _ _ => rfl
  | _, _, .fz _ _ => rfl
  | _, _, .exc _ _ => rfl
  | _, _, .dk0 _ => rfl
  | _, _, .pin _ => rfl
theorem os_isN : OpS K (fun x y H Q => y = .non ∧ Q (.bl (decide (x = .non))) H) fun d e k => e = .non ∧ k (.bl (isNon d)) := by
  intro H x y d e Q k rx ry hf hq
  obtain ⟨rfl, hk⟩ := hf
  refine ⟨ry.inv_non, ?_⟩
  rw [isNon_ok rx]
  exact hq _ _ hk sc_bl
theorem os_notN : OpS K (fun x y H Q => y = .non ∧ Q (.bl (!decide (x = .non))) H) fun d e k => e = .non ∧ k (.bl (!isNon d)) := by
  intro H x y d e Q k rx ry hf hq
  obtain ⟨rfl, hk⟩ := hf
  refine ⟨ry.inv_non, ?_⟩
  rw [isNon_ok rx]
  exact hq _ _ hk sc_bl
theorem e_isN (h : tE K Ex E ta ρ fun a => tE K Ex E tb ρ fun b => b.dat = .non ∧ R (.val (.bl (isNon a.dat)))) : tE K Ex E (tOp (fun x y H Q => y = .non ∧ Q (.bl (decide (x = .non))) H) ta tb) ρ R := e_op os_isN h
theorem e_notN (h : tE K Ex E ta ρ fun a => tE K Ex E tb ρ fun b => b.dat = .non ∧ R (.val (.bl (!isNon a.dat)))) : tE K Ex E (tOp (fun x y H Q => y = .non ∧ Q (.bl (!decide (x = .non))) H) ta tb) ρ R := e_op os_notN h
theorem e_isB (h : tE K Ex E ta ρ fun a => tE K Ex E tb ρ fun b => ∃ p q, a.dat = .bl p ∧ b.dat = .bl q ∧ R (.val (.bl (decide (p = q))))) : tE K Ex E (tOp (fun x y H Q => ∃ a b, x = .bl a ∧ y = .bl b ∧ Q (.bl (decide (a = b))) H) ta tb) ρ R :=
  e_op (f := fun d e k => ∃ p q, d = .bl p ∧ e = .bl q ∧ k (.bl (decide (p = q)))) (fun H x y d e Q k rx ry ⟨p, q, h1, h2, hk⟩ hq => ⟨p, q, by subst h1; exact rx.inv_bl, by subst h2; exact ry.inv_bl, hq _ _ hk sc_bl⟩) h
theorem e_isntB (h : tE K Ex E ta ρ fun a => tE K Ex E tb ρ fun b => ∃ p q, a.dat = .bl p ∧ b.dat = .bl q ∧ R (.val (.bl (!decide (p = q))))) : tE K Ex E (tOp (fun x y H Q => ∃ a b, x = .bl a ∧ y = .bl b ∧ Q (.bl (!decide (a = b))) H) ta tb) ρ R :=
  e_op (f := fun d e k => ∃ p q, d = .bl p ∧ e = .bl q ∧ k (.bl (!decide (p = q)))) (fun H x y d e Q k rx ry ⟨p, q, h1, h2, hk⟩ hq => ⟨p, q, by subst h1; exact rx.inv_bl, by subst h2; exact ry.inv_bl, hq _ _ hk sc_bl⟩) h
end
/-! ### == and != -/
mutual
def D.plain : D → Bool
  | .exc _ => false
  | .dk0 => false
  | .ty _ => false
  | .cls _ => false
  | .tup xs => plainAll xs
  | .lst xs => plainAll xs
  | .fz xs => plainAll xs
  | .pin _ d => d.plain
  | _ => true
def plainAll : List D → Bool
  | [] => true
  | x :: xs => x.plain && plainAll xs
end
mutual
def D.py : D → PyData
  | .non => .none
  | .bl b => .bool b
  | .int i => .int i
  | .str x => .str x
  | .tup xs => .tuple (pyAll xs)
  | .lst xs => .list (pyAll xs)
  | .fz xs => .list (pyAll xs)
  | .pin _ d => d.py
  | _ => .none
def pyAll : List D → List PyData
  | [] => []
  | x :: xs => x.py :: pyAll xs
end
mutual
/-- a bound of how deep data goes -/
def D.dep : D → Nat
  | .tup xs => depAll xs + 1
  | .lst xs => depAll xs + 1
  | .fz xs => depAll xs + 1
  | .pin _ d => d.dep
  | _ => 0
def depAll : List D → Nat
  | [] => 0
  | x :: xs => max x.dep (depAll xs)
end
def D.eqv (a b : D) : Bool := PyData.eqv a.py b.py
mutual
theorem py_plain : ∀ d : D, d.py.plain = true
  | .non => rfl
  | .bl _ => rfl
  | .int _ => rfl
  | .str _ => rfl
  | .tup xs => by rw [D.py, PyData.plain]; exact py_plainAll xs
  | .lst xs => by rw [D.py, PyData.plain]; exact py_plainAll xs
  | .fz xs => by rw [D.py, PyData.plain]; exact py_plainAll xs
  | .exc _ => rfl
  | .dk0 => rfl
  | .ty _ => rfl
  | .cls _ => rfl
  | .pin _ d => by rw [D.py]; exact py_plain d
theorem py_plainAll : ∀ xs : List D, PyData.plainAll (pyAll xs) = true
  | [] => rfl
  | x :: xs => by rw [pyAll, PyData.plainAll, py_plain x, py_plainAll xs]; rfl
end
mutual
theorem py_dep : ∀ d : D, d.py.depth ≤ d.dep
  | .non => Nat.le_refl _
  | .bl _ => Nat.le_refl _
  | .int _ => Nat.le_refl _
  | .str _ => Nat.le_refl _
  | .tup xs => by rw [D.py, D.dep, PyData.depth]; have := py_depAll xs; omega
  | .lst xs => by rw [D.py, D.dep, PyData.depth]; have := py_depAll xs; omega
  | .fz xs => by rw [D.py, D.dep, PyData.depth]; have := py_depAll xs; omega
  | .exc _ => Nat.le_refl _
  | .dk0 => Nat.le_refl _
  | .ty _ => Nat.le_refl _
  | .cls _ => Nat.le_refl _
  | .pin _ d => by rw [D.py, D.dep]; exact py_dep d
theorem py_depAll : ∀ xs : List D, PyData.depthAll (pyAll xs) ≤ depAll xs
  | [] => Nat.le_refl _
  | x :: xs => by rw [pyAll, depAll, PyData.depthAll]; have := py_dep x; have := py_depAll xs; omega
end
theorem eqv_self (d : D) : D.eqv d d = true := PySem.SeqAt.eqv_refl_plain d.py (py_plain d)
theorem depAll_le {n : Nat} : ∀ {xs : List D}, (∀ x ∈ xs, x.dep ≤ n) → depAll xs ≤ n
  | [], _ => Nat.zero_le _
  | x :: xs, h => by
    rw [depAll]
    have h1 := h x List.mem_cons_self
    have h2 := depAll_le fun y hy => h y (List.mem_cons_of_mem _ hy)
    omega
theorem plainAll_of : ∀ {xs : List D}, (∀ x ∈ xs, x.plain = true) → plainAll xs = true
  | [], _ => rfl
  | x :: xs, h => by
    rw [plainAll, h x List.mem_cons_self, plainAll_of fun y hy => h y (List.mem_cons_of_mem _ hy)]
    rfl
theorem immAll_of : ∀ {xs : List D}, (∀ x ∈ xs, x.imm = true) → immAll xs = true
  | [], _ => rfl
  | x :: xs, h => by
    rw [immAll, h x List.mem_cons_self, immAll_of fun y hy => h y (List.mem_cons_of_mem _ hy)]
    rfl
section
variable {K : PySem.W.Frag} {H : Hp}
mutual
theorem Rp.dp : ∀ {v : V} {d : D}, Rp K H v d → d.plain = true → Dp K H v d.py
  | _, _, .non, _ => .non
  | _, _, .bl b, _ => .bl b
  | _, _, .int i, _ => .int i
  | _, _, .str x, _ => .str x
  | _, _, .tup h r, z => by rw [D.py]; rw [D.plain] at z; exact .tup h (Rps.dp r z)
  | _, _, .lst h r, z => by rw [D.py]; rw [D.plain] at z; exact .lst (.inl (.inl h)) (Rps.dp r z)
  | _, _, .fz h r, z => by rw [D.py]; rw [D.plain] at z; exact .lst h (Rps.dp r z)
  | _, _, .exc _ _, z => by rw [D.plain] at z; cases z
  | _, _, .dk0 _, z => by rw [D.plain] at z; cases z
  | _, _, .ty _, z => by rw [D.plain] at z; cases z
  | _, _, .cls _, z => by rw [D.plain] at z; cases z
  | _, _, .pin h, z => by rw [D.py]; rw [D.plain] at z; exact Rp.dp h z
theorem Rps.dp : ∀ {vs : List V} {ds : List D}, Rps K H vs ds → plainAll ds = true → DpAll K H vs (pyAll ds)
  | _, _, .nil, _ => .nil
  | _, _, .cons h r, z => by
    rw [plainAll, Bool.and_eq_true] at z
    rw [pyAll]
    exact .cons (Rp.dp h z.1) (Rps.dp r z.2)
end
/-- data that may be compared -/
def CmpOk (a b : D) : Prop := a.plain = true ∧ b.plain = true ∧ min a.dep b.dep ≤ 64
def rEqU (K : PySem.W.Frag) : R2 := fun x y H Q => ∃ a b, Rp K H x a ∧ Rp K H y b ∧ CmpOk a b ∧ Q (.bl (D.eqv a b)) H
def rNeU (K : PySem.W.Frag) : R2 := fun x y H Q => ∃ a b, Rp K H x a ∧ Rp K H y b ∧ CmpOk a b ∧ Q (.bl (!D.eqv a b)) H
theorem op_eqU {X : Cx} {k : Nat} (hr : Room k X.A) : OpR X (compareOp .Eq) (rEqU X.K) := by
  intro pins s σ H x y v u Q I rx ry ⟨a, b, ra, rb, ⟨pa, pb, hd⟩, q⟩
  obtain ⟨as, r1⟩ := Dp.reads I a.py x v (ra.dp pa) rx
  obtain ⟨bs, r2⟩ := Dp.reads I b.py y u (rb.dp pb) ry
  have h1 := py_dep a
  have h2 := py_dep b
  have h3 := hr.un
  exact PySem.SeqAt.eq_plain r1 r2 (py_plain a) (py_plain b) (by omega) ⟨.bl _, H, I, rfl, q⟩
theorem op_neU {X : Cx} {k : Nat} (hr : Room k X.A) : OpR X (compareOp .NotEq) (rNeU X.K) := by
  intro pins s σ H x y v u Q I rx ry ⟨a, b, ra, rb, ⟨pa, pb, hd⟩, q⟩
  obtain ⟨as, r1⟩ := Dp.reads I a.py x v (ra.dp pa) rx
  obtain ⟨bs, r2⟩ := Dp.reads I b.py y u (rb.dp pb) ry
  have h1 := py_dep a
  have h2 := py_dep b
  have h3 := hr.un
  exact PySem.SeqAt.ne_plain r1 r2 (py_plain a) (py_plain b) (by omega) ⟨.bl _, H, I, rfl, q⟩
variable {Ex : Value → List Slot → Prop} {E : L2.St → XK} {ρ : List Slot} {R : Res → Prop} {ta tb : TE}
/-- what a comparison gives -/
def CmpD (a b : D) (c : Bool) : Prop := CmpOk a b ∧ D.eqv a b = c
theorem e_eq (h : tE K Ex E ta ρ fun a => tE K Ex E tb ρ fun b => ∃ c, CmpD a.dat b.dat c ∧ R (.val (.bl c))) : tE K Ex E (tOp (rEqU K) ta tb) ρ R :=
  e_op (f := fun d e k => ∃ c, CmpD d e c ∧ k (.bl c)) (fun H x y d e Q k rx ry ⟨c, ⟨hc, he⟩, hk⟩ hq => ⟨d, e, rx, ry, hc, hq _ _ (he ▸ hk) sc_bl⟩) h
theorem e_ne (h : tE K Ex E ta ρ fun a => tE K Ex E tb ρ fun b => ∃ c, CmpD a.dat b.dat c ∧ R (.val (.bl (!c)))) : tE K Ex E (tOp (rNeU K) ta tb) ρ R :=
  e_op (f := fun d e k => ∃ c, CmpD d e c ∧ k (.bl (!c))) (fun H x y d e Q k rx ry ⟨c, ⟨hc, he⟩, hk⟩ hq => ⟨d, e, rx, ry, hc, hq _ (.bl (!D.eqv d e)) (he ▸ hk) sc_bl⟩) h
theorem cmpd_int {i j : Int} : CmpD (.int i) (.int j) (decide (i = j)) := ⟨⟨rfl, rfl, Nat.zero_le _⟩, rfl⟩
theorem cmpd_bl {i j : Bool} : CmpD (.bl i) (.bl j) (decide (i = j)) := ⟨⟨rfl, rfl, Nat.zero_le _⟩, by cases i <;> cases j <;> rfl⟩
theorem cmpd_str {i j : Str} : CmpD (.str i) (.str j) (decide (i = j)) := ⟨⟨rfl, rfl, Nat.zero_le _⟩, rfl⟩
theorem cmpd_same {d : D} (h1 : d.plain = true) (h2 : d.dep ≤ 64) : CmpD d d true := ⟨⟨h1, h1, by omega⟩, eqv_self d⟩
theorem cmp_int {i j : Int} : CmpOk (.int i) (.int j) := ⟨rfl, rfl, Nat.zero_le _⟩
theorem eqv_int {i j : Int} : D.eqv (.int i) (.int j) = decide (i = j) := rfl
theorem eqv_bl {i j : Bool} : D.eqv (.bl i) (.bl j) = decide (i = j) := by cases i <;> cases j <;> rfl
theorem eqv_str {i j : Str} : D.eqv (.str i) (.str j) = decide (i = j) := rfl
/-! ### built-ins -/
def LenD (d : D) (n : Nat) : Prop := match d with
  | .str z => z.length ≤ sizeLine ∧ n = z.length
  | .tup ds => n = ds.length
  | .lst ds => n = ds.length
  | .fz ds => n = ds.length
  | _ => False
abbrev rLen (K : PySem.W.Frag) : List V → Hp → VK → Prop := fun xs H Q => ∃ x n, xs = [x] ∧ LenV K x H n ∧ Q (.int n) H
theorem lenD_ok {x : V} {d : D} {n : Nat} (r : Rp K H x d) (h : LenD d n) : LenV K x H n := by
  cases r with
  | str z => exact h
  | tup s q => exact .inr ⟨_, s, by rw [q.length]; exact h⟩
  | lst s q => exact .inl ⟨_, .inl (.inl s), by rw [q.length]; exact h⟩
  | fz s q => exact .inl ⟨_, s, by rw [q.length]; exact h⟩
  | _ => exact h.elim
theorem e_len (h : tE K Ex E ta ρ fun a => ∃ n, LenD a.dat n ∧ R (.val (.int n))) : tE K Ex E (tCB (rLen K) (tCons ta tNil)) ρ R :=
  fun G0 H0 G σ H Q S X k => h G0 H0 G σ H _ S X fun a ⟨n, hn, hr⟩ v G1 H1 e1 r1 => ⟨v, n, rfl, lenD_ok (r1.rd e1.sub) hn, k _ hr _ G1 H1 e1 (.int _)⟩
def tyD : D → Option String
  | .non => some "NoneType"
  | .bl _ => some "bool"
  | .int _ => some "int"
  | .str _ => some "str"
  | .tup _ => some "tuple"
  | .lst _ => some "list"
  | .fz _ => some "list"
  | .dk0 => some "dict"
  | _ => none
theorem tyD_ok {x : V} {d : D} {n : String} (r : Rp K H x d) (h : tyD d = some n) : TyX K H x (.type n) := by
  cases r with
  | non => cases h; exact .base .non
  | bl b => cases h; exact .base (.bl b)
  | int i => cases h; exact .base (.int i)
  | str z => cases h; exact .base (.str z)
  | ty _ => cases h
  | cls _ => cases h
  | pin _ => cases h
  | tup s q =>
    cases h
    rcases s with (s | ⟨o, s⟩) | ⟨o, its, m, e, c, _⟩
    · exact .base (.tup s)
    · exact .fTuple s
    · exact .kTuple e c
  | lst s q => cases h; exact .base (.lst s)
  | fz s q =>
    cases h
    rcases s with (s | ⟨o, s⟩) | ⟨o, its, m, e, c, _⟩
    · exact .base (.lst s)
    · exact .base (.frz s)
    · exact .kList e c
  | exc _ => cases h
  | dk0 s => cases h; exact .base (.dK s)
/-- isinstance(x, T), T a built-in class -/
theorem e_isi {T : String} (h : tE K Ex E ta ρ fun a => ∃ n b, tyD a.dat = some n ∧ kitB n T = some b ∧ R (.val (.bl b))) : tE K Ex E (tCB (rIsi K) (tCons ta (tCons (tC (.ty T)) tNil))) ρ R :=
  fun G0 H0 G σ H Q S X k => h G0 H0 G σ H _ S X fun a ⟨n, b, hn, hb, hr⟩ v G1 H1 e1 r1 => ⟨v, .ty T, .type n, .type T, b, rfl, .ty T, tyD_ok (r1.rd e1.sub) hn, kit_ty hb, k _ hr _ G1 H1 e1 (.bl _)⟩
theorem e_gcd (h : tE K Ex E ta ρ fun a => tE K Ex E tb ρ fun b => ∃ i j, a.dat = .int i ∧ b.dat = .int j ∧ R (.val (.int ((Nat.gcd i.natAbs j.natAbs : Nat) : Int)))) : tE K Ex E (tCB rGcd (tCons ta (tCons tb tNil))) ρ R :=
  fun G0 H0 G σ H Q S X k => h G0 H0 G σ H _ S X fun a ha v G1 H1 e1 r1 => ha G0 H0 G1 σ H1 _ (S.step e1) X fun b ⟨i, j, h1, h2, hr⟩ u G2 H2 e2 r2 => by
    have q := (r1.step e2).rd e2.sub
    rw [h1] at q
    have q2 := r2.rd e2.sub
    rw [h2] at q2
    exact ⟨i, j, by rw [q.inv_int, q2.inv_int], k _ hr _ G2 H2 (e1.trans e2) (.int _)⟩
abbrev rAbs : List V → Hp → VK → Prop := fun xs H Q => ∃ i, xs = [.int i] ∧ Q (.int (if i < 0 then -i else i)) H
theorem e_abs (h : tE K Ex E ta ρ fun a => ∃ i, a.dat = .int i ∧ R (.val (.int ((i.natAbs : Nat) : Int)))) : tE K Ex E (tCB rAbs (tCons ta tNil)) ρ R :=
  fun G0 H0 G σ H Q S X k => h G0 H0 G σ H _ S X fun a ⟨i, hi, hr⟩ v G1 H1 e1 r1 => by
    have q := r1.rd e1.sub
    rw [hi] at q
    have e : (if i < 0 then -i else i) = ((i.natAbs : Nat) : Int) := by split <;> omega
    exact ⟨i, by rw [q.inv_int], by rw [e]; exact k _ hr _ G1 H1 e1 (.int _)⟩
abbrev rMax2 : List V → Hp → VK → Prop := fun xs H Q => ∃ i j, xs = [.int i, .int j] ∧ Q (.int (if j > i then j else i)) H
theorem e_max2 (h : tE K Ex E ta ρ fun a => tE K Ex E tb ρ fun b => ∃ i j, a.dat = .int i ∧ b.dat = .int j ∧ R (.val (.int (max i j)))) : tE K Ex E (tCB rMax2 (tCons ta (tCons tb tNil))) ρ R :=
  fun G0 H0 G σ H Q S X k => h G0 H0 G σ H _ S X fun a ha v G1 H1 e1 r1 => ha G0 H0 G1 σ H1 _ (S.step e1) X fun b ⟨i, j, h1, h2, hr⟩ u G2 H2 e2 r2 => by
    have q := (r1.step e2).rd e2.sub
    rw [h1] at q
    have q2 := r2.rd e2.sub
    rw [h2] at q2
    have e : (if j > i then j else i) = max i j := by split <;> omega
    exact ⟨i, j, by rw [q.inv_int, q2.inv_int], by rw [e]; exact k _ hr _ G2 H2 (e1.trans e2) (.int _)⟩
/-- int(x) of an int or a bool -/
abbrev rInt1 : List V → Hp → VK → Prop := fun xs H Q => (∃ i, xs = [.int i] ∧ Q (.int i) H) ∨ ∃ k, xs = [.bl k] ∧ Q (.int (if k then 1 else 0)) H
theorem e_intB (h : tE K Ex E ta ρ fun a => ∃ b, a.dat = .bl b ∧ R (.val (.int (if b then 1 else 0)))) : tE K Ex E (tCB rInt1 (tCons ta tNil)) ρ R :=
  fun G0 H0 G σ H Q S X k => h G0 H0 G σ H _ S X fun a ⟨b, hb, hr⟩ v G1 H1 e1 r1 => by
    have q := r1.rd e1.sub
    rw [hb] at q
    exact .inr ⟨b, by rw [q.inv_bl], k _ hr _ G1 H1 e1 (.int _)⟩
abbrev rStrI : List V → Hp → VK → Prop := fun xs H Q => ∃ i, xs = [.int i] ∧ i.natAbs.log2 < 1920 ∧ Q (.str (toString i)) H
theorem e_strI (h : tE K Ex E ta ρ fun a => ∃ i : Int, a.dat = .int i ∧ i.natAbs.log2 < 1920 ∧ R (.val (.str (toString i)))) : tE K Ex E (tCB rStrI (tCons ta tNil)) ρ R :=
  fun G0 H0 G σ H Q S X k => h G0 H0 G σ H _ S X fun a ⟨i, hi, hl, hr⟩ v G1 H1 e1 r1 => by
    have q := r1.rd e1.sub
    rw [hi] at q
    exact ⟨i, by rw [q.inv_int], hl, k _ hr _ G1 H1 e1 (.str _)⟩
theorem rps_bl : ∀ {vs : List V} {bs : List Bool}, Rps K H vs (bs.map D.bl) → vs = bs.map V.bl
  | _, [], .nil => rfl
  | _, b :: bs, .cons h r => by
    rw [List.map_cons, h.inv_bl, rps_bl r]
theorem e_all (h : tE K Ex E ta ρ (vR fun d => ∃ bs : List Bool, d = .lst (bs.map D.bl) ∧ R (.val (.bl (bs.all id))))) : tE K Ex E (tCB (rAll K) (tCons ta tNil)) ρ R :=
  fun G0 H0 G σ H Q S X k => (v_of h) G0 H0 G σ H _ S X fun d ⟨bs, hd, hr⟩ v G1 H1 e1 r1 => by
    subst hd
    obtain ⟨a, xs, rfl, h1, h2⟩ := r1.inv_lst
    have e := rps_bl h2
    subst e
    exact ⟨a, bs, rfl, .inl (.inl (e1.sub _ _ h1)), k _ hr _ G1 H1 e1 (.bl _)⟩
/-- {} -/
theorem e_dk0 (h : R (.val .dk0)) : tE K Ex E tDNewK ρ R := fun G0 H0 G σ H Q S X k p np => k _ h _ (upd G p (.dK [])) _ (Ev.laid S.ev.sub np) (.dk0 upd_same)
end
/-! ### a def by name -/
structure Dfn (P : Program) (w : World) (K : PySem.W.Frag) (mg : Str → Option Value) (base : Heap) (CXx : CXT) (x : Str) (ps : List Str) (k : Nat) (fs : FSpec) : Prop where
  ex : ∃ (f : Addr) (fd : FuncData), mg x = some (.ref f) ∧ PySem.W.keepIn K (.ref f) = true ∧ Binds K fd ps [] ∧ FnOk P w K mg base CXx k f fd ps (spD K fs)
section
variable {X : Cx} {CXx : CXT} {ps : List Str} {k : Nat} {fs : FSpec} {x : Str} {p pos : Pos} {e : Expr} {es : List Expr} {t : TA} {E : XK}
theorem pe_dfnX (d : Dfn X.prog X.w X.K X.mg X.base CXx x ps k fs) (hr : Room k X.A) (hx : Passes CXx X E) (ha : PA X (e :: es) t) (hg : Gl X x := by rfl) (hdb : (x == ("__debug__" : Str)) = false := by decide)
    (he : starEach (e :: es) X.env = (false, eval e X.env) :: starEach es X.env := by rfl) (hpl : (backTo pos (starEach es X.env)).any (·.1) = false := by rfl) : PE X (.Call (.Name x p) (e :: es) [] pos) (tCall (spD X.K fs) [] E t) := by
  obtain ⟨f, fd, gm, kp, b, F⟩ := d.ex
  exact pe_call F hr hg gm kp b .nil hx ha hdb he hpl
theorem pe_dfn (d : Dfn X.prog X.w X.K X.mg X.base CX0 x ps k fs) (hr : Room k X.A) (ha : PA X (e :: es) t) (hg : Gl X x := by rfl) (hdb : (x == ("__debug__" : Str)) = false := by decide)
    (he : starEach (e :: es) X.env = (false, eval e X.env) :: starEach es X.env := by rfl) (hpl : (backTo pos (starEach es X.env)).any (·.1) = false := by rfl) : PE X (.Call (.Name x p) (e :: es) [] pos) (tCall (spD X.K fs) [] E0 t) :=
  pe_dfnX d hr pass0 ha hg hdb he hpl
theorem pt_tru {a : Expr} {ta : TE} (ha : PE X a ta) (he : ∀ whole, isTrue a X.env whole = (do let v ← whole; standAt a.pos; holding [v] (truthy v)) := by intro _; rfl) : PT X a (tTru X.K ta) := pt_truth ha he
end
end Y
end

section
namespace PySem.W
open PySem PySem.Calls PyProof.Rows Builtin Builtin.ObjectAttr Builtin.Getset_descriptor
section
variable {prog : Program} {w : World} {A : Around} {E : Value → Shared → Prop} {s : Shared} {K : Frag} {R : Result → Shared → Prop} {C : Addr} {v : Value}
/-- an own class's name: it was kept in the class's third slot when the class was made, so nothing is written -/
theorem ocn_get {tp : Value} {o : Obj} (inK : K.In s.heap) (lk : K.lookup C = some o) (sl : o.slots[2]? = some (some v)) (ty : typeIn K (.ref C) = some (.type "type")) (q : R (.ok (.ret v)) s) :
    codeAny (model prog w) A (.call (.builtin "getset_descriptor.__get__") ⟨[.builtin "type.__name__", .ref C, tp], []⟩) R s := by
  obtain ⟨hh, gg, dd, tt, oo⟩ := s
  have La : Looks (model prog w) hh (typeOf (.ref C)) (.type "type") := looks_typeIn inK ty
  have Lb : Looks (model prog w) hh (isSubtype (.type "type") (.type "type")) true := Looks.of_pure (by rw [isSubtype_type]; kernel_rfl)
  refine (codeAny_call_builtin KF.slot_gs.plain KF.entry_gs) (KF.slot_gs.check _ _ _ _ _ _ _ _ ktyn_type (KF.args_gs _ _ _) ?_)
  unfold Builtin.«getset_descriptor.__get__» descrGet; rw [dga_obj]
  apply wpAny_bind; apply wpAny_pure
  unfold descrGetter descrCheckInstance descrNameAndClass isInstance; simp only [ktyn_owner]
  repeat lk
  apply And.intro (Code.quiet_builtin _ (by decide +kernel)); apply codeAny_builtin ktyn_entry
  unfold Builtin.«type.__name__»; dsimp only
  unfold keptObject; dsimp only
  unfold slotAt
  refine wpAny_bind (wpAny_bind (wpAny_loadPart_at (inK _ _ lk) (wpAny_pure ?_)))
  rw [sl]
  first | exact wpAny_pure q | exact wpAny_bind (wpAny_pure (wpAny_pure q))
/-- C.__name__ of an own class at C -/
theorem ocn_attr {o : Obj} {expr : Bool} {Q : Value → Shared → Prop} (inK : K.In s.heap) (lk : K.lookup C = some o) (sl : o.slots[2]? = some (some v)) (ty : typeIn K (.ref C) = some (.type "type"))
    (rd : readsIn K C (.type "type") = true) (fc : findCls K (.ref C) (.type "type") "__name__" = some (.get (.builtin "getset_descriptor.__get__") (.builtin "type.__name__") (.ref C) (.type "type"))) (hi : handedIn v = true)
    (q : ∀ t, Q v { s with toks := t }) : wpAny (model prog w) A (getAttr (.ref C) "__name__" expr) Q E s := by
  apply cls_read inK rd fc
  show wpAny _ _ (do ret (← holding [Value.builtin "type.__name__"] (call (.builtin "getset_descriptor.__get__") [.builtin "type.__name__", .ref C, .type "type"]))) _ _ _
  refine wpAny_bind (wpAny_holding (wpAny_call (ocn_get (s := { s with toks := s.toks + 1 }) inK lk sl ty ?_)))
  refine wpAny_pure ?_
  show wpAny _ _ (handedOut v) _ _ _
  rw [handedOut_of hi]
  exact wpAny_pure (q _)
variable {x D : Addr} {ox : Obj} {od : Option Obj}
/-- e.__class__ of an exception of an own class -/
theorem oxc_attr {expr : Bool} {Q : Value → Shared → Prop} (cc : L2.ExcC K D) (inK : K.In s.heap) (I : InstAt s.heap x ox D od) (q : ∀ t, Q (.ref D) { s with toks := t }) : wpAny (model prog w) A (getAttr (.ref x) "__class__" expr) Q E s := by
  have isC : (clsIn K D).isSome = true := by obtain ⟨cd, hc, _⟩ := any_some cc.hd; rw [hc]; rfl
  have fo : findObj K D od "__class__" = some (.bind (.builtin "getset_descriptor.__get__") (.builtin "object.__class__")) := findObj_dataE isC cc.ha cc.hn cc.ht
  obtain ⟨hp, gg, dd, t, oo⟩ := s
  have La := I.type (M := model prog w)
  have Lb := looks_findIn (M := model prog w) inK cc.hg
  have Lc := looks_findIn (M := model prog w) inK cc.hk
  have Ld := looks_find (M := model prog w) inK I fo
  have isE : Looks (model prog w) hp (isInstance (.ref x) (.type "BaseException")) true := La.andThen (looks_subIn inK cc.hs)
  have n0 : (expr && onTheHeap (Value.builtin "BaseException.__getattribute__")) = false := by cases expr <;> rfl
  have n1 : (onTheHeap (Value.ref D) && Value.builtin "BaseException.__getattribute__" == Value.builtin "object.__getattribute__") = false := by
    rw [show (Value.builtin "BaseException.__getattribute__" == Value.builtin "object.__getattribute__") = false by decide +kernel]; rfl
  unfold getAttr getAttrBy
  apply wpAny_bind; apply wpAny_mkText; apply wpAny_holding; apply wpAny_bind; apply La.at; apply wpAny_bind; apply Lb.at
  show wpAny _ _ (if (onTheHeap (Value.ref D) && Value.builtin "BaseException.__getattribute__" == Value.builtin "object.__getattribute__") = true then _ else _) _ _ _
  rw [n1, if_neg Bool.false_ne_true]; unfold getAttrByItsOwn hookBefore
  apply wpAny_bind; rw [if_pos (show onTheHeap (Value.ref D) = true by rfl)]; apply Lc.at
  apply wpAny_bind; apply wpAny_attempt; apply wpAny_holding
  unfold callGetattribute; rw [n0, if_neg Bool.false_ne_true]
  unfold boundAndCalled; rw [PySem.F.excAttr_ValueError.ga.bind (.ref x)]
  apply wpAny_bind; apply wpAny_pure
  show wpAny _ _ (call (.builtin "BaseException.__getattribute__") [.ref x, .str "__class__" t]) _ _ _
  apply wpAny_call; apply codeAny_call_builtin PySem.F.excAttr_ValueError.ga.plain PySem.F.entry_bexc_ga
  refine @PySem.W.check_slot (model prog w) _ _ ⟨hp, gg, dd, t + 1, oo⟩ "BaseException.__getattribute__" "BaseException" "__getattribute__" (.ref x) [.str "__class__" t] [] _ (by decide +kernel) (by decide +kernel) isE (PySem.F.args_bexc_ga (.ref x) (.str "__class__" t)) ?_
  unfold Builtin.«object.__getattribute__»
  refine wpAny_bind (wpAny_of_eq (a := ((Value.ref x : Value), [Value.str "__class__" t])) (by first | rfl | (simp only [slotArgs]; rfl)) ?_)
  apply wpAny_bind; apply wpAny_pure; apply wpAny_bind; apply La.at; apply wpAny_bind; apply Ld.at
  show wpAny _ _ (holding [Value.builtin "object.__class__"] (call (.builtin "getset_descriptor.__get__") [.builtin "object.__class__", .ref x, .ref D]) >>= ret) _ _ _
  refine wpAny_bind (wpAny_holding (wpAny_call (class_get (s := ⟨hp, gg, dd, t + 1, oo⟩) (ox := ox) (od := od) inK I cc.hm ?_)))
  apply wpAny_pure
  show wpAny _ _ (handedOut (.ref D)) _ _ _
  rw [handedOut_of (v := .ref D) (by rfl)]
  first | exact wpAny_pure (q _) | exact wpAny_pure (wpAny_pure (q _))
end
end PySem.W
namespace Y
open PySem PySem.Spec PyProof.Rows L2
/-- what an own error's class tells as its name -/
structure NmC (K : PySem.W.Frag) (C : Addr) (nm : Str) : Prop where
  e : ExcC K C
  at_ : ∃ (o : Obj) (tk : Tok), K.lookup C = some o ∧ o.slots[2]? = some (some (.str nm tk))
  ty : PySem.W.typeIn K (.ref C) = some (.type "type")
  rd : PySem.W.readsIn K C (.type "type") = true
  fc : PySem.W.findCls K (.ref C) (.type "type") "__name__" = some (.get (.builtin "getset_descriptor.__get__") (.builtin "type.__name__") (.ref C) (.type "type"))
/-- e.__class__.__name__, e an error that is being made -/
def tClsN (K : PySem.W.Frag) (te : TE) : TE := fun σ H Q => te σ H fun x H1 => ∃ (a C : Addr) (nm : Str), x = .ref a ∧ H1 a = some (exo a C none) ∧ NmC K C nm ∧ Q (.str nm) H1
theorem pe_clsName {X : Cx} {e : Expr} {te : TE} {p1 p2 : Pos} (he : PE X e te) (hb1 : attributeBase e "__class__" X.env (eval e X.env) = eval e X.env := by rfl)
    (hb2 : attributeBase (.Attribute e "__class__" p1) "__name__" X.env (eval (.Attribute e "__class__" p1) X.env) = eval (.Attribute e "__class__" p1) X.env := by rfl) :
    PE X (.Attribute (.Attribute e "__class__" p1) "__name__" p2) (tClsN X.K te) := by
  refine ⟨fun pins s σ H Q I h => ?_⟩
  refine attr_of hb2 (attr_of hb1 (thn (he.run pins s σ H _ I h) fun u s1 ⟨x, H1, I1, rx, a, C, nm, ex, ea, nc, q⟩ => ?_))
  subst ex
  obtain rfl : u = Value.ref a := rx
  obtain ⟨t1, ho⟩ := exo_at I1.hok ea
  refine PySem.W.oxc_attr (od := none) nc.e I1.kIn ⟨ho, rfl, rfl, trivial⟩ fun t => ?_
  obtain ⟨o, tk, lk, sl⟩ := nc.at_
  refine PySem.W.ocn_attr (I1.tok t).kIn lk sl nc.ty nc.rd nc.fc (by rfl) fun t2 => ?_
  exact ⟨.str nm, H1, (I1.tok t).tok t2, ⟨tk, rfl⟩, q⟩
end Y
end

section
namespace Y
open PySem PySem.Spec PyProof.Rows L2
/-! ### errors that are caught and kept -/
section
variable {X : Cx} {pins : List (Addr × Obj)} {σ : L2.St} {H : Hp} {s : Shared}
theorem Inv.track {a C : Addr} {dx : Option Addr} {oe : Obj} {vs : Array Value} (I : Inv X ((a, oe) :: pins) σ H s) (n0 : X.s_0.heap.get? a = none) (np : ∀ p ∈ X.pn ++ pins, p.1 ≠ a) (z : Zc (.ref C) dx oe) (d : oe.data = .fields vs) : Inv X pins σ (upd H a (ExcO C dx a)) s := by
  have mem : (a, oe) ∈ X.pn ++ (a, oe) :: pins := List.mem_append_right _ List.mem_cons_self
  obtain ⟨ha, hn, hL, hF, hc⟩ := I.pin (a, oe) mem
  have ne : ∀ b o, X.s_0.heap.get? b = some o → b ≠ a := fun b o e q => by
    subst q
    rw [n0] at e
    cases e
  have nH : ∀ b o, H b = some o → b ≠ a := fun b o e q => by
    subst q
    rw [hn] at e
    cases e
  refine ⟨I.ok, I.os, I.bare, ⟨I.base.keep, I.base.slot, fun b o e q r => ?_, I.base.there, fun b xs e => ?_, fun b o xs e => ?_, fun b ps e => ?_⟩, I.loc, I.cell, ?_, fun x c e => ?_, fun p hp => ?_, ?_, I.len⟩
  · rw [upd_ne (ne b o e)]
    exact I.base.free b o e q r
  · have q := I.base.tups b xs e
    rw [upd_ne (nH _ _ q)]
    exact q
  · have q := I.base.frzs b o xs e
    rw [upd_ne (nH _ _ q)]
    exact q
  · obtain ⟨more, q⟩ := I.base.tbls b ps e
    exact ⟨more, by rw [upd_ne (nH _ _ q)]; exact q⟩
  · rw [upd_ne (Ne.symm hL)]
    exact I.free
  · rw [upd_ne]
    · exact I.freeC x c e
    · intro q
      subst q
      obtain ⟨v, o, ho, hd⟩ := I.cell x _ e
      have ha' : s.heap.get? c = some oe := ha
      rw [ha'] at ho
      have z2 := Option.some.inj ho
      subst z2
      exact hc v hd
  · have hp' : p ∈ X.pn ++ (a, oe) :: pins := by
      rcases List.mem_append.mp hp with h | h
      · exact List.mem_append_left _ h
      · exact List.mem_append_right _ (List.mem_cons_of_mem _ h)
    obtain ⟨h1, h2, h3, h4, h5⟩ := I.pin p hp'
    exact ⟨h1, by rw [upd_ne (np p hp)]; exact h2, h3, h4, h5⟩
  · intro b o e
    by_cases hb : b = a
    · subst hb
      rw [upd_same] at e
      have q := Option.some.inj e
      subst q
      exact ⟨⟨oe, vs, ha, z, d⟩, ⟨oe, ha⟩, fun _ _ ⟨o1, v1, q1, r1⟩ k => ⟨o1, v1, k o1 q1, r1⟩⟩
    · rw [upd_ne hb] at e
      refine (I.hok b o e).stay (fun _ _ _ q => q) (fun c q => ?_) fun c xs q => ?_
      · rw [upd_ne (nH _ _ q)]
        exact q
      · rw [upd_ne (nH _ _ q)]
        exact q
end
/-- what «except c as n: y = n» wishes of an error of the body: n in slot i, y in slot j; the error is kept -/
def wKeep (K : PySem.W.Frag) (c : Value) (i j : Nat) (D : Ends) : WX := fun cls d σ H =>
  ∃ C, cls = .ref C ∧ PySem.W.exmOne K cls c = some true ∧ ∀ a, H a = none → D.nx ((σ.set j (some (.ref a))).set i none) (upd H a (ExcO C d a))
section
variable {X : Cx} {x n y : Str} {c : Value} {i j : Nat} {body : List Stmt} {np p1 p2 p3 pos pos' : Pos} {tb : WX → TS}
theorem ps_try_keep (st1 : X.stack = X.env :: X.outer) (fr1 : X.env.frame = some X.env.locals) (nd1 : X.N.Nodup) (hi : X.N[i]? = some n) (hj : X.N[j]? = some y) (hij : i ≠ j) (lc1 : X.env.kindOf n = some .local) (ly : X.env.kindOf y = some .local) (nm : Names X x c) (nex : X.ex = [])
    (hn1 : (n == ("__debug__" : Str)) = false := by decide) (hn2 : (n == ("__classdict__" : Str)) = false := by decide)
    (hw1 : swapsWith (.Name n p2) (some (.Name y p1)) p3.line X.env = pure false)
    (bd : ∀ (W : WX) (pn : List (Addr × Obj)) (xe : Value → Shared → Prop), Takes (X.tr pn xe) W → PassesOwn (model X.prog X.w) X.A X.env xe → PSs (X.tr pn xe) body (tb W)) :
    PS X (.Try body [.ExceptHandler (some (.Name x np)) (some n) [.Assign [.Name y p1] (.Name n p2) p3] pos'] [] [] pos) (fun D σ H => tb (wKeep X.K c i j D) D σ H) := by
  refine ⟨fun pins s σ H D I h => ?_⟩
  have ok := I.ok
  have frames1 : X.A.frames = some (X.env :: X.outer) := ok.frames.trans (congrArg some st1)
  refine wpAny_Try_except ?_
  refine wpAny_mono ((bd (wKeep X.K c i j D) (X.pn ++ pins) (fun e s₁ => wpAny (model X.prog X.w) X.A (noteFrame e X.env)
    (fun _ s₂ => wpAny (model X.prog X.w) X.A (setFlight e none) (fun _ s₃ => wpAny (model X.prog X.w) X.A
      (handleBy e X.env [.ExceptHandler (some (.Name x np)) (some n) [.Assign [.Name y p1] (.Name n p2) p3] pos']) (SP X pins D) X.xe s₃) X.xe s₂) X.xe s₁)
    (fun u s' xx => ?_) PassesOwn.looking).run [] s σ H D (I.toTry _) h) (fun f s1 hsp => ?_) (fun _ _ he => he)
  · obtain ⟨a, B, sI, pn2, σ1, H1, cls, d, rfl, J0, keepB, up0, sky0, na, os1, ag1, C, rfl, hx, hyes⟩ := xx
    have J : Inv X pins σ1 H1 sI := J0.ofTry ok
    have sky1 : Sky B (X.env :: X.outer) a (Zc (.ref C) d) X.env.locals s'.heap := st1 ▸ sky0
    show wpAny (model X.prog X.w) X.A (noteFrame (.ref a) X.env) _ _ _
    refine Sky.land Zc.steady frames1 fr1 sky1 fun h3 fl3 up3 => ?_
    have J3 : Inv X pins σ1 H1 { s' with heap := h3 } := J.landed keepB fl3.1 (up0.trans up3) os1 ag1
    obtain ⟨oe3, vs3, he3, hz3, hd3⟩ := fl3.there
    -- the error's place is no frame's, and nothing stood there
    have nfr : a ∉ frs (X.env :: X.outer) := fun hm => by
      obtain ⟨_, o', e', hnf⟩ := fl3.2.2.1.mem hm
      rw [he3] at e'
      have q := Option.some.inj e'
      subst q
      exact hnf _ hd3
    have nL : a ≠ X.env.locals := fun q => nfr (List.mem_filterMap.mpr ⟨X.env, List.mem_cons_self, q ▸ fr1⟩)
    have nF : a ∉ X.fs := fun hm => by
      obtain ⟨e, he, q⟩ := List.mem_filterMap.mp hm
      exact nfr (List.mem_filterMap.mpr ⟨e, List.mem_cons_of_mem _ he, q⟩)
    have nI : sI.heap.get? a = none := by
      cases q : sI.heap.get? a with
      | none => rfl
      | some o =>
        have z := keepB a o q (st1 ▸ nfr)
        rw [fl3.2.1] at z
        cases z
    have n0 : X.s_0.heap.get? a = none := by
      cases q : X.s_0.heap.get? a with
      | none => rfl
      | some o =>
        obtain ⟨o', z⟩ := J.base.there a o q (by rw [nex]; exact fun z => nomatch z)
        rw [nI] at z
        cases z
    have npin : ∀ p ∈ X.pn ++ pins, p.1 ≠ a := fun p hp q => by
      have z := (J.pin p hp).1
      rw [q, nI] at z
      cases z
    have S3 := J3.suite he3 hd3 na nL nF
    refine wpAny_handleBy_cons (codeAny_handlers_test ?_) (by intro q; cases q)
    have lookT : PySem.W.Looks (model X.prog X.w) h3 (typeOf (.ref a)) (.ref C) := fun A Q E s k q => wpAny_typeOf_ref (k _ _ he3) (hz3.1.symm ▸ q)
    have look := PySem.W.exm_one (M := model X.prog X.w) (J3.kIn) lookT hx
    have named : ∀ {Q : Value → Shared → Prop} {E : Value → Shared → Prop}, Q c { s' with heap := h3 } →
        wpAny (model X.prog X.w) (X.A.mark (some (.ref a))) (eval (.Name x np) X.env) Q E { s' with heap := h3 } := fun {Q E} q => by
      obtain ⟨hg, hdb, hm | ⟨hm, hv, hnn⟩⟩ := nm
      · exact ld_glob (X := X.suite a ((a, oe3) :: (X.pn ++ pins))) S3 hg hm q hdb
      · exact ld_blt (X := X.suite a ((a, oe3) :: (X.pn ++ pins))) S3 hg hm hv q hnn hdb
    refine named (look.here ?_)
    refine codeAny_handlers_suite_as ?_
    refine HandSPX.lands_againZ fl3 fun h4 fl4 up4 => ?_
    have J4 : Inv X pins σ1 H1 { s' with heap := h4 } := J.landed keepB fl4.1 ((up0.trans up3).trans up4) os1 ag1
    obtain ⟨oe4, vs4, he4, hz4, hd4⟩ := fl4.there
    have S4 := J4.suite he4 hd4 na nL nF
    refine store_ok (X := X.suite a ((a, oe4) :: (X.pn ++ pins))) (v := .ref a) S4 nd1 hi (.inl lc1) rfl (fun s5 S5 => ?_) (.inr lc1)
    -- the suite: y = n
    have suite : PSs (X.suite a ((a, oe4) :: (X.pn ++ pins))) [.Assign [.Name y p1] (.Name n p2) p3] (tAsg (tVar i) (gName j)) :=
      pss_one (ps_set (X := X.suite a ((a, oe4) :: (X.pn ++ pins))) (i := j) nd1 hj (.inl ly) (pe_var hi (.inl lc1) hn1 hn2) hw1 (.inr ly))
    have hil : i < σ1.length := by
      rw [J.len]
      exact (List.getElem?_eq_some_iff.mp hi).1
    refine wpAny_mono (suite.run [] s5 _ H1 { nx := fun σ6 H6 => σ6 = (σ1.set i (some (.ref a))).set j (some (.ref a)) ∧ H6 = H1, rt := fun _ _ => False } S5 ⟨.ref a, get_set_eq hil, rfl, rfl⟩) (fun f s6 hsp => ?_) (fun _ _ z => False.elim z)
    cases f with
    | next =>
      obtain ⟨σ6, H6, S6, rfl, rfl⟩ := hsp
      have S7 : Inv X ((a, oe4) :: pins) ((σ1.set i (some (.ref a))).set j (some (.ref a))) H6 s6 :=
        ⟨ok, S6.os, S6.bare, S6.base, S6.loc, S6.cell, S6.free, S6.freeC, fun p hp => S6.pin p (by
          rw [List.append_nil]
          rcases List.mem_append.mp hp with q | q
          · exact List.mem_cons_of_mem _ (List.mem_append_left _ q)
          · rcases List.mem_cons.mp q with q | q
            · exact q ▸ List.mem_cons_self
            · exact List.mem_cons_of_mem _ (List.mem_append_right _ q)), S6.hok, S6.len⟩
      refine gone_ok S7 nd1 hi lc1 fun s7 J7 => ?_
      have J8 := Inv.track J7 n0 npin hz4 hd4
      have eσ : ((σ1.set i (some (V.ref a))).set j (some (.ref a))).set i none = (σ1.set j (some (.ref a))).set i none := by
        rw [List.set_comm _ _ hij, List.set_set]
      rw [eσ] at J8
      exact ⟨_, _, J8, hyes a na⟩
    | brk =>
      obtain ⟨_, _, _, q⟩ := hsp
      exact q.elim
    | cont =>
      obtain ⟨_, _, _, q⟩ := hsp
      exact q.elim
    | ret u =>
      obtain ⟨_, _, _, _, _, q⟩ := hsp
      exact q.elim
  · cases f with
    | next =>
      obtain ⟨σ', H', J, q⟩ := hsp
      exact wpAny_execs_nil ⟨σ', H', J.ofTry ok, q⟩
    | brk =>
      obtain ⟨σ', H', J, q⟩ := hsp
      exact ⟨σ', H', J.ofTry ok, q⟩
    | cont =>
      obtain ⟨σ', H', J, q⟩ := hsp
      exact ⟨σ', H', J.ofTry ok, q⟩
    | ret u =>
      obtain ⟨v, σ', H', J, r, q⟩ := hsp
      exact ⟨v, σ', H', J.ofTry ok, r, q⟩
end
/-- an error's own dict is shared -/
theorem Sig.dx {K : PySem.W.Frag} {G0 H0 G : Hp} {ρ : List Slot} {σ : L2.St} {H : Hp} {dx : Option Addr} (S : Sig K G0 H0 G ρ σ H) (h : DxOk dx H) : ∃ G', Same G G' ∧ Sig K G0 H0 G' ρ σ H ∧ DxOk dx G' := by
  cases dx with
  | none => exact ⟨G, Same.refl _, S, DxOk.none⟩
  | some d =>
    obtain ⟨fs, hd⟩ := h d rfl
    have gs : Same G (upd G d (.xd fs)) := fun b o e => by
      by_cases hb : b = d
      · subst hb
        have z := S.ev.sub _ _ e
        rw [hd] at z
        rw [upd_same]
        exact z
      · rw [upd_ne hb]
        exact e
    have sb : Same (upd G d (.xd fs)) H := fun b o e => by
      by_cases hb : b = d
      · subst hb
        rw [upd_same] at e
        rw [hd]
        exact e
      · rw [upd_ne hb] at e
        exact S.ev.sub _ _ e
    refine ⟨_, gs, S.step ⟨Same.refl _, gs, sb, fun b xs e g => ?_⟩, fun d' e => ?_⟩
    · rw [upd_ne fun z => by subst z; rw [hd] at e; cases e]
      exact g
    · cases e
      exact ⟨fs, upd_same⟩
/-- isinstance of such an error -/
def rIsX (K : PySem.W.Frag) : List V → Hp → VK → Prop := fun xs H Q => ∃ (a C : Addr) (dx : Option Addr) (c : V) (cv : Value) (b : Bool), xs = [.ref a, c] ∧ H a = some (ExcO C dx a) ∧ DxOk dx H ∧ ExcC K C ∧ (∀ u, RelV c u → u = cv) ∧ PySem.W.kitOne K (.ref C) cv = some b ∧ Q (.bl b) H
theorem call_isX {X : Cx} : CallR X (.builtin "isinstance") (rIsX X.K) := by
  intro pins s σ H xs us Q I r ⟨a, C, dx, c, cv, b, e0, ha, hdx, cc, hcv, e, q⟩
  subst e0
  cases r with
  | cons rx rr =>
    cases rr with
    | cons rt rr =>
      cases rr
      cases rx
      have ec := hcv _ rt
      subst ec
      obtain ⟨⟨oe, vs, hg, hz, hv⟩, _, _⟩ := I.hok a _ ha
      have J : ∃ od, PySem.W.InstAt s.heap a oe C od := by
        obtain ⟨oc, od, oda, osl⟩ := oe
        obtain ⟨h1, h2⟩ := hz
        dsimp only at h1 h2 hv
        subst h1 h2 hv
        cases od with
        | none => exact ⟨none, hg, rfl, rfl, trivial⟩
        | some d =>
          obtain ⟨fs, hd⟩ := hdx d rfl
          obtain ⟨mA, ⟨o, _, _, ho, _⟩, _⟩ := I.hok d _ hd
          exact ⟨some o, hg, rfl, rfl, ho⟩
      obtain ⟨od, J⟩ := J
      have isC : (PySem.W.clsIn X.K C).isSome = true := by
        obtain ⟨cd, hc, _⟩ := PySem.W.any_some cc.hd
        rw [hc]
        rfl
      exact PySem.W.kia_one (PySem.W.kitx_exc isC cc.hg cc.hk cc.hs cc.ha cc.hn cc.ht cc.hm) I.kIn J e (fun z => nomatch z) fun tk => ⟨.bl b, H, I.kept (t' := tk) fun _ _ z => z, rfl, q⟩
section
variable {K : PySem.W.Frag} {Ex : Value → List Slot → Prop} {E : L2.St → XK} {ρ : List Slot} {De : DE} {R : Res → Prop} {ta : TE}
theorem e_isX {c : V} {cv : Value} (hcv : ∀ u, RelV c u → u = cv) (h : tE K Ex E ta ρ fun a => ∃ C b, a.dat = .exc C ∧ ExcC K C ∧ PySem.W.kitOne K (.ref C) cv = some b ∧ R (.val (.bl b))) : tE K Ex E (tCB (rIsX K) (tCons ta (tCons (tC c) tNil))) ρ R :=
  fun G0 H0 G σ H Q S X k => h G0 H0 G σ H _ S X fun a ⟨C, b, hd, cc, hk, hr⟩ v G1 H1 e1 r1 => by
    have q := r1.rd e1.sub
    rw [hd] at q
    obtain ⟨l, dx, rfl, hl, hd⟩ := q.inv_exc
    exact ⟨l, C, dx, c, cv, b, rfl, hl, hd, cc, hcv, hk, k _ hr _ G1 H1 e1 (.bl _)⟩
theorem s_tryK {tb : WX → TS} {c : Value} {i j : Nat} (h : ∀ W : WX, tS K (fun e ρ' => ∃ C, e = .ref C ∧ PySem.W.exmOne K e c = some true ∧ De.nx ((ρ'.set j (.val (.exc C))).set i .emp)) (fun σ e d H => W e d σ H) (tb W) ρ De) :
    tS K Ex E (fun D σ H => tb (wKeep K c i j D) D σ H) ρ De :=
  fun G0 H0 G σ H D S X k => h (wKeep K c i j D) G0 H0 G σ H D S (fun e ρ' ⟨C, hC, hx, hn⟩ G1 σ' H' dx S1 hd => by
    subst hC
    obtain ⟨G', _, S', hdg⟩ := S1.dx hd
    refine ⟨C, rfl, hx, fun a na => ?_⟩
    have ev := Ev.laid (o := ExcO C dx a) S'.ev.sub na
    exact k.nx _ (upd G' a (ExcO C dx a)) _ _ hn (((S'.step ev).setVal (.exc upd_same (hdg.mono ev.gs))).setEmp)) k
end
/-! ### what the top holds -/
/-- built-ins that no name of the text hides -/
structure Bl (mg : Str → Option Value) : Prop where
  bLen : mg "len" = none
  bIsi : mg "isinstance" = none
  bRange : mg "range" = none
  bInt : mg "int" = none
  bStr : mg "str" = none
  bList : mg "list" = none
  bTuple : mg "tuple" = none
  bBool : mg "bool" = none
  bAbs : mg "abs" = none
  bMax : mg "max" = none
  bMin : mg "min" = none
  bAll : mg "all" = none
  bAny : mg "any" = none
  bEnum : mg "enumerate" = none
  bZip : mg "zip" = none
  bRepr : mg "repr" = none
  bSum : mg "sum" = none
  bSorted : mg "sorted" = none
  bVE : mg "ValueError" = none
/-- an own error's class: its name; what is raised and caught of it -/
structure Cl (mg : Str → Option Value) (x : Str) (C : Addr) : Prop where
  g : mg x = some (.ref C)
/-- what the errors' own __init__ does: its class's name stands in kind -/
def spWE (K : PySem.W.Frag) : Sp := fun vs H Q _ => ∃ (a C : Addr) (nm : Str) (why : V), vs = [.ref a, why] ∧ OexC K C ∧ NmC K C nm ∧ PySem.W.findIn K (.ref C) "kind" = some none ∧ H a = some (exo a C none) ∧
  ∀ dx, H dx = none → dx ≠ a → Q .non (upd (upd H dx (exd dx [("kind", .str nm)])) a (exo a C (some dx)))
/-- the errors' own __init__ -/
structure InitOk (P : Program) (w : World) (K : PySem.W.Frag) (mg : Str → Option Value) (base : Heap) (fI : Addr) : Prop where
  ty : PySem.W.typeIn K (.ref fI) = some (.type "function")
  ok : ∃ fd, Binds K fd ["self", "why"] [] ∧ FnOk P w K mg base CX0 1 fI fd ["self", "why"] (spWE K)
structure ClR (P : Program) (w : World) (K : PySem.W.Frag) (mg : Str → Option Value) (base : Heap) (C : Addr) : Prop where
  x : OexC K C
  n : ∃ nm, NmC K C nm
  kd : PySem.W.findIn K (.ref C) "kind" = some none
  t : PySem.W.typeIn K (.ref C) = some (.type "type")
  i : ∃ fI, PySem.W.findIn K (.ref C) "__init__" = some (some (.ref fI)) ∧ InitOk P w K mg base fI
theorem ClR.e {P : Program} {w : World} {K : PySem.W.Frag} {mg : Str → Option Value} {base : Heap} {C : Addr} (c : ClR P w K mg base C) : ExcC K C := let ⟨_, n⟩ := c.n; n.e
theorem ClR.r {P : Program} {w : World} {X : Cx} {mg : Str → Option Value} {base : Heap} {C : Addr} (c : ClR P w X.K mg base C) : Raises X (.ref C) := raises_own c.e.hs c.t
/-- a statement of a class's body -/
def clsStmt (s : Stmt) (i : Nat) : Stmt := match s with
  | .ClassDef _ _ _ body _ _ _ _ _ _ _ => body.getD i (.Pass ⟨0, 0, 0, 0⟩)
  | _ => .Pass ⟨0, 0, 0, 0⟩
/-- raise C('..') -/
theorem ps_rz {X : Cx} {C : Addr} {x m : Str} {k j : Nat} {p p2 pos pos' : Pos} {E : XK} (hc : X.calm = true) (tk : Takes X (fun cls d _ H => E cls d H)) (r : ClR X.prog X.w X.K X.mg X.base C) (gC : X.mg x = some (.ref C)) (hr : Room (k + 2) X.A) (hg : Gl X x := by rfl)
    (hdb : (x == ("__debug__" : Str)) = false := by decide) : PS X (.Raise (some (.Call (.Name x p) [.Constant (.str m) j p2] [] pos)) none pos') (tRz E C) := by
  obtain ⟨fI, iC, tI, fd, hb, F⟩ := r.i
  obtain ⟨nm, hn⟩ := r.n
  refine ⟨fun pins s σ H D I h => ?_⟩
  refine (ps_raise hc tk (pmk_oex (dvs := []) r.x iC tI F (hr.mono (by omega)) hb .nil pass0 hg gC (pa_cons pe_str pa_nil) hdb)).run pins s σ H D I ?_
  refine ⟨Nat.le_of_ble_eq_true rfl, fun a na => ⟨a, C, nm, .str m, rfl, r.x, hn, r.kd, upd_same, fun dx nd ne => ⟨rfl, dx, [("kind", .str nm)], upd_same, ?_, ?_, ?_⟩⟩⟩
  · rw [upd_ne ne, upd_same]
  · rw [upd_ne ne] at nd
    exact nd
  · rw [upd_ne ne] at nd
    refine h (some dx) _ (fun b o e => ?_) fun d e => ?_
    · have h1 : b ≠ dx := ne_of_none e nd
      have h2 : b ≠ a := ne_of_none e na
      rw [upd_ne h1, del_ne h2, upd_ne h2, upd_ne h1, upd_ne h2]
      exact e
    · cases e
      exact ⟨_, upd_same⟩
section
variable {X : Cx} {ps : List Str} {k : Nat} {fs : FSpec} {x : Str} {p pos : Pos} {e : Expr} {es : List Expr} {t : TA} {E : XK} {W : WX}
/-- a call of a def that may raise, where it doesn't -/
theorem pe_dfnN (d : Dfn X.prog X.w X.K X.mg X.base (L2.CX X.prog X.w) x ps k fs) (hr : Room k X.A) (ha : PA X (e :: es) t) (hg : Gl X x := by rfl) (hdb : (x == ("__debug__" : Str)) = false := by decide)
    (he : starEach (e :: es) X.env = (false, eval e X.env) :: starEach es X.env := by rfl) (hpl : (backTo pos (starEach es X.env)).any (·.1) = false := by rfl) : PE X (.Call (.Name x p) (e :: es) [] pos) (tCall (spD X.K fs) [] E0 t) :=
  pe_dfnX d hr (fun _ _ _ _ _ _ _ ⟨_, _, _, _, _, _, _, _, _, _, _, _, z⟩ => z.elim) ha hg hdb he hpl
/-- .. in a try's body -/
theorem pe_dfnS (d : Dfn X.prog X.w X.K X.mg X.base (L2.CX X.prog X.w) x ps k fs) (hr : Room k X.A) (tk : Takes X W) (ha : PA X (e :: es) t) (hg : Gl X x := by rfl) (hdb : (x == ("__debug__" : Str)) = false := by decide)
    (he : starEach (e :: es) X.env = (false, eval e X.env) :: starEach es X.env := by rfl) (hpl : (backTo pos (starEach es X.env)).any (·.1) = false := by rfl) : PE X (.Call (.Name x p) (e :: es) [] pos) (tCallS (spD X.K fs) (WE W) t) := by
  obtain ⟨f, fd, gm, kp, b, F⟩ := d.ex
  exact pe_callS F hr hg gm kp b (fun σ => passAt tk σ) ha hdb he hpl
end
end Y
end

section
namespace Y
open PySem PySem.Spec PyProof.Rows L2
def isIntD : D → Bool
  | .int _ => true
  | .bl _ => true
  | _ => false
def isBoolD : D → Bool
  | .bl _ => true
  | _ => false
def isTupD : D → Bool
  | .tup _ => true
  | _ => false
def isStrD : D → Bool
  | .str _ => true
  | _ => false
def isListD : D → Bool
  | .lst _ => true
  | .fz _ => true
  | _ => false
theorem kitInt : ∀ d : D, (tyD d).isSome = true → ∃ n, tyD d = some n ∧ kitB n "int" = some (isIntD d)
  | .non, _ => ⟨"NoneType", rfl, show kitB "NoneType" "int" = some false by decide +kernel⟩
  | .bl _, _ => ⟨"bool", rfl, show kitB "bool" "int" = some true by decide +kernel⟩
  | .int _, _ => ⟨"int", rfl, show kitB "int" "int" = some true by decide +kernel⟩
  | .str _, _ => ⟨"str", rfl, show kitB "str" "int" = some false by decide +kernel⟩
  | .tup _, _ => ⟨"tuple", rfl, show kitB "tuple" "int" = some false by decide +kernel⟩
  | .lst _, _ => ⟨"list", rfl, show kitB "list" "int" = some false by decide +kernel⟩
  | .fz _, _ => ⟨"list", rfl, show kitB "list" "int" = some false by decide +kernel⟩
  | .dk0, _ => ⟨"dict", rfl, show kitB "dict" "int" = some false by decide +kernel⟩
  | .exc _, h => nomatch h
  | .ty _, h => nomatch h
  | .cls _, h => nomatch h
theorem kitBool : ∀ d : D, (tyD d).isSome = true → ∃ n, tyD d = some n ∧ kitB n "bool" = some (isBoolD d)
  | .non, _ => ⟨"NoneType", rfl, show kitB "NoneType" "bool" = some false by decide +kernel⟩
  | .bl _, _ => ⟨"bool", rfl, show kitB "bool" "bool" = some true by decide +kernel⟩
  | .int _, _ => ⟨"int", rfl, show kitB "int" "bool" = some false by decide +kernel⟩
  | .str _, _ => ⟨"str", rfl, show kitB "str" "bool" = some false by decide +kernel⟩
  | .tup _, _ => ⟨"tuple", rfl, show kitB "tuple" "bool" = some false by decide +kernel⟩
  | .lst _, _ => ⟨"list", rfl, show kitB "list" "bool" = some false by decide +kernel⟩
  | .fz _, _ => ⟨"list", rfl, show kitB "list" "bool" = some false by decide +kernel⟩
  | .dk0, _ => ⟨"dict", rfl, show kitB "dict" "bool" = some false by decide +kernel⟩
  | .exc _, h => nomatch h
  | .ty _, h => nomatch h
  | .cls _, h => nomatch h
theorem kitTup : ∀ d : D, (tyD d).isSome = true → ∃ n, tyD d = some n ∧ kitB n "tuple" = some (isTupD d)
  | .non, _ => ⟨"NoneType", rfl, show kitB "NoneType" "tuple" = some false by decide +kernel⟩
  | .bl _, _ => ⟨"bool", rfl, show kitB "bool" "tuple" = some false by decide +kernel⟩
  | .int _, _ => ⟨"int", rfl, show kitB "int" "tuple" = some false by decide +kernel⟩
  | .str _, _ => ⟨"str", rfl, show kitB "str" "tuple" = some false by decide +kernel⟩
  | .tup _, _ => ⟨"tuple", rfl, show kitB "tuple" "tuple" = some true by decide +kernel⟩
  | .lst _, _ => ⟨"list", rfl, show kitB "list" "tuple" = some false by decide +kernel⟩
  | .fz _, _ => ⟨"list", rfl, show kitB "list" "tuple" = some false by decide +kernel⟩
  | .dk0, _ => ⟨"dict", rfl, show kitB "dict" "tuple" = some false by decide +kernel⟩
  | .exc _, h => nomatch h
  | .ty _, h => nomatch h
  | .cls _, h => nomatch h
theorem kitStr : ∀ d : D, (tyD d).isSome = true → ∃ n, tyD d = some n ∧ kitB n "str" = some (isStrD d)
  | .non, _ => ⟨"NoneType", rfl, show kitB "NoneType" "str" = some false by decide +kernel⟩
  | .bl _, _ => ⟨"bool", rfl, show kitB "bool" "str" = some false by decide +kernel⟩
  | .int _, _ => ⟨"int", rfl, show kitB "int" "str" = some false by decide +kernel⟩
  | .str _, _ => ⟨"str", rfl, show kitB "str" "str" = some true by decide +kernel⟩
  | .tup _, _ => ⟨"tuple", rfl, show kitB "tuple" "str" = some false by decide +kernel⟩
  | .lst _, _ => ⟨"list", rfl, show kitB "list" "str" = some false by decide +kernel⟩
  | .fz _, _ => ⟨"list", rfl, show kitB "list" "str" = some false by decide +kernel⟩
  | .dk0, _ => ⟨"dict", rfl, show kitB "dict" "str" = some false by decide +kernel⟩
  | .exc _, h => nomatch h
  | .ty _, h => nomatch h
  | .cls _, h => nomatch h
theorem kitList : ∀ d : D, (tyD d).isSome = true → ∃ n, tyD d = some n ∧ kitB n "list" = some (isListD d)
  | .non, _ => ⟨"NoneType", rfl, show kitB "NoneType" "list" = some false by decide +kernel⟩
  | .bl _, _ => ⟨"bool", rfl, show kitB "bool" "list" = some false by decide +kernel⟩
  | .int _, _ => ⟨"int", rfl, show kitB "int" "list" = some false by decide +kernel⟩
  | .str _, _ => ⟨"str", rfl, show kitB "str" "list" = some false by decide +kernel⟩
  | .tup _, _ => ⟨"tuple", rfl, show kitB "tuple" "list" = some false by decide +kernel⟩
  | .lst _, _ => ⟨"list", rfl, show kitB "list" "list" = some true by decide +kernel⟩
  | .fz _, _ => ⟨"list", rfl, show kitB "list" "list" = some true by decide +kernel⟩
  | .dk0, _ => ⟨"dict", rfl, show kitB "dict" "list" = some false by decide +kernel⟩
  | .exc _, h => nomatch h
  | .ty _, h => nomatch h
  | .cls _, h => nomatch h
section
variable {K : PySem.W.Frag} {Ex : Value → List Slot → Prop} {E : L2.St → XK} {ρ : List Slot} {R : Res → Prop} {ta : TE}
theorem e_isInt (h : tE K Ex E ta ρ fun a => (tyD a.dat).isSome = true ∧ R (.val (.bl (isIntD a.dat)))) : tE K Ex E (tCB (rIsi K) (tCons ta (tCons (tC (.ty "int")) tNil))) ρ R :=
  e_isi (h.imp fun a ⟨h1, h2⟩ => let ⟨n, h3, h4⟩ := kitInt a.dat h1; ⟨n, _, h3, h4, h2⟩)
theorem e_isBool (h : tE K Ex E ta ρ fun a => (tyD a.dat).isSome = true ∧ R (.val (.bl (isBoolD a.dat)))) : tE K Ex E (tCB (rIsi K) (tCons ta (tCons (tC (.ty "bool")) tNil))) ρ R :=
  e_isi (h.imp fun a ⟨h1, h2⟩ => let ⟨n, h3, h4⟩ := kitBool a.dat h1; ⟨n, _, h3, h4, h2⟩)
theorem e_isTup (h : tE K Ex E ta ρ fun a => (tyD a.dat).isSome = true ∧ R (.val (.bl (isTupD a.dat)))) : tE K Ex E (tCB (rIsi K) (tCons ta (tCons (tC (.ty "tuple")) tNil))) ρ R :=
  e_isi (h.imp fun a ⟨h1, h2⟩ => let ⟨n, h3, h4⟩ := kitTup a.dat h1; ⟨n, _, h3, h4, h2⟩)
theorem e_isStr (h : tE K Ex E ta ρ fun a => (tyD a.dat).isSome = true ∧ R (.val (.bl (isStrD a.dat)))) : tE K Ex E (tCB (rIsi K) (tCons ta (tCons (tC (.ty "str")) tNil))) ρ R :=
  e_isi (h.imp fun a ⟨h1, h2⟩ => let ⟨n, h3, h4⟩ := kitStr a.dat h1; ⟨n, _, h3, h4, h2⟩)
theorem e_isList (h : tE K Ex E ta ρ fun a => (tyD a.dat).isSome = true ∧ R (.val (.bl (isListD a.dat)))) : tE K Ex E (tCB (rIsi K) (tCons ta (tCons (tC (.ty "list")) tNil))) ρ R :=
  e_isi (h.imp fun a ⟨h1, h2⟩ => let ⟨n, h3, h4⟩ := kitList a.dat h1; ⟨n, _, h3, h4, h2⟩)
end
theorem vr_val {R : D → Prop} {d : D} (h : R d) : vR R (.val d) := h
theorem vr_own {R : D → Prop} {ds : List D} (h : R (.lst ds)) : vR R (.own ds) := h
theorem as_val {k : Slot → Prop} {d : D} (h : k (.val d)) : asgR k (.val d) := h
theorem as_own {k : Slot → Prop} {ds : List D} (h : k (.own ds)) : asgR k (.own ds) := h
theorem SS.same : ∀ {ρ ρ1 ρ2 : List Slot} {i : Nat} {s : Slot}, SS ρ i s ρ1 → SS ρ i s ρ2 → ρ2 = ρ1
  | _, _, _, _, _, .zero, .zero => rfl
  | _, _, _, _, _, .succ a, .succ b => by rw [SS.same a b]
theorem ss_go {ρ ρ1 : List Slot} {i : Nat} {s : Slot} {P : List Slot → Prop} (h1 : SS ρ i s ρ1) (h2 : P ρ1) : ∀ ρ', SS ρ i s ρ' → P ρ' := fun ρ' h => by
  rw [h1.same h]
  exact h2
/-- a test's two ways -/
theorem br2 {p : Prop} [Decidable p] {A B : Prop} (h1 : p → A) (h2 : ¬ p → B) : (decide p = true → A) ∧ (decide p = false → B) := ⟨fun h => h1 (of_decide_eq_true h), fun h => h2 (of_decide_eq_false h)⟩
theorem br2n {p : Prop} [Decidable p] {A B : Prop} (h1 : ¬ p → A) (h2 : p → B) : ((!decide p) = true → A) ∧ ((!decide p) = false → B) := ⟨fun h => h1 (by simpa using h), fun h => h2 (by simpa using h)⟩
theorem brT {A B : Prop} (h : A) : (true = true → A) ∧ (true = false → B) := ⟨fun _ => h, fun z => Bool.noConfusion z⟩
theorem brF {A B : Prop} (h : B) : (false = true → A) ∧ (false = false → B) := ⟨fun z => Bool.noConfusion z, fun _ => h⟩
theorem brF' {A B : Prop} (h : A) : (false = false → A) ∧ (false = true → B) := ⟨fun _ => h, fun z => Bool.noConfusion z⟩
theorem brT' {A B : Prop} (h : B) : (true = false → A) ∧ (true = true → B) := ⟨fun z => Bool.noConfusion z, fun _ => h⟩
theorem g_nameS {K : PySem.W.Frag} {W : Nat → Prop} {ρ ρ' : List Slot} {i : Nat} {d : D} {k : List Slot → Prop} (hw : W i) (s : SS ρ i (.val d) ρ') (h : k ρ') : tG K W (gName i) d ρ k := g_name hw (s.eq ▸ h)
section
variable {K : PySem.W.Frag} {Ex : Value → List Slot → Prop} {E : L2.St → XK} {ρ ρ' ρ2 : List Slot} {De : DE}
theorem s_seqJ {t u : TS} (J : List Slot → Prop) (h : tS K Ex E t ρ { De with nx := J }) (h2 : ∀ ρ', J ρ' → tS K Ex E u ρ' De) : tS K Ex E (tSeq t u) ρ De := s_seq (h.imp h2 (fun _ q => q) (fun _ q => q) fun _ q => q)
theorem s_parS {i j : Nat} {ta : TA} (h : tVs K Ex E ta ρ fun ds => ∃ d e, ds = [d, e] ∧ ∀ ρ', SS ρ i (.val d) ρ' → ∀ ρ2, SS ρ' j (.val e) ρ2 → De.nx ρ2) (hi : i < ρ.length) (hj : j < ρ.length) : tS K Ex E (tPar i j ta) ρ De := by
  have key : ∀ (l : List Slot) (j : Nat) (s : Slot), j < l.length → SS l j s (l.set j s) := by
    intro l
    induction l with
    | nil => intro j s hj; simp at hj
    | cons x r ih =>
      intro j s hj
      cases j with
      | zero => exact .zero
      | succ j => exact .succ (ih j s (by simpa using hj))
  refine s_par (fun G0 H0 G σ H Q S X k => h G0 H0 G σ H Q S X fun ds ⟨d, e, hd, hq⟩ => k ds ⟨d, e, hd, ?_⟩)
  exact hq _ (key ρ i _ hi) _ (key _ j _ (by rw [List.length_set]; exact hj))
theorem s_appendS {i : Nat} {te : TE} {ds : List D} (hi : ρ[i]? = some (.own ds)) (h : tE K Ex E te ρ (vR fun d => ds.length < sizeLine ∧ ∀ ρ', SS ρ i (.own (ds ++ [d])) ρ' → De.nx ρ')) : tS K Ex E (tDrop (tBM K "list" rAppend (tVar i) (tCons te tNil))) ρ De := by
  have key : ∀ (l : List Slot) (j : Nat) (s : Slot), j < l.length → SS l j s (l.set j s) := by
    intro l
    induction l with
    | nil => intro j s hj; simp at hj
    | cons x r ih =>
      intro j s hj
      cases j with
      | zero => exact .zero
      | succ j => exact .succ (ih j s (by simpa using hj))
  have imp : ∀ r, vR (fun d => ds.length < sizeLine ∧ ∀ ρ', SS ρ i (.own (ds ++ [d])) ρ' → De.nx ρ') r → vR (fun d => ds.length < sizeLine ∧ De.nx (ρ.set i (.own (ds ++ [d])))) r := fun r => by
    cases r with
    | val d => exact fun q => ⟨q.1, q.2 _ (key _ _ _ (List.getElem?_eq_some_iff.mp hi).1)⟩
    | own es => exact fun q => ⟨q.1, q.2 _ (key _ _ _ (List.getElem?_eq_some_iff.mp hi).1)⟩
    | bor es => exact fun q => q
  exact s_append hi (h.imp imp)
theorem s_dropS {t : TS} {i : Nat} (s : SS ρ i .emp ρ') (h : tS K Ex E t ρ' De) : tS K Ex E t ρ De := s_drop i (s.eq ▸ h)
theorem s_freezeS {t : TS} {i : Nat} {ds : List D} (hi : ρ[i]? = some (.own ds)) (s : SS ρ i (.val (.lst ds)) ρ') (h : tS K Ex E t ρ' De) : tS K Ex E t ρ De := s_freeze hi (s.eq ▸ h)
end
theorem add_int {R : Res → Prop} {i j : Int} (h : R (.val (.int (i + j)))) : AddD (.int i) (.int j) R := .inl ⟨i, j, rfl, rfl, h⟩
theorem add_lst {R : Res → Prop} {ds es : List D} (hl : ds.length + es.length ≤ sizeLine) (h : R (.own (ds ++ es))) : AddD (.lst ds) (.lst es) R := .inr (.inr ⟨ds, es, rfl, rfl, hl, h⟩)
theorem add_str {R : Res → Prop} {x y : Str} (hl : x.length + y.length ≤ sizeLine) (h : R (.val (.str (x ++ y)))) : AddD (.str x) (.str y) R := .inr (.inl ⟨x, y, rfl, rfl, hl, h⟩)
theorem mul_int {R : Res → Prop} {i j : Int} (hc : CMulW i j) (h : R (.val (.int (i * j)))) : MulD (.int i) (.int j) R := .inl ⟨i, j, rfl, rfl, hc, h⟩
/-- numbers of a size that products bear -/
def Sm (n : Nat) (i : Int) : Prop := i.natAbs < 2 ^ n
theorem Sm.le {n m : Nat} {i : Int} (h : Sm n i) (k : n ≤ m) : Sm m i := Nat.lt_of_lt_of_le h (Nat.pow_le_pow_right (by decide) k)
theorem Sm.mul {n m : Nat} {i j : Int} (h : Sm n i) (k : Sm m j) : Sm (n + m) (i * j) := wide_lt h k
theorem Sm.add {n : Nat} {i j : Int} (h : Sm n i) (k : Sm n j) : Sm (n + 1) (i + j) := by
  unfold Sm at *
  rw [Nat.pow_succ]
  omega
theorem Sm.sub {n : Nat} {i j : Int} (h : Sm n i) (k : Sm n j) : Sm (n + 1) (i - j) := by
  unfold Sm at *
  rw [Nat.pow_succ]
  omega
theorem Sm.neg {n : Nat} {i : Int} (h : Sm n i) : Sm n (-i) := by
  unfold Sm at *
  omega
theorem Sm.mod {n : Nat} {i j : Int} (h : Sm n j) (k : 0 < j) : Sm n (i % j) := by
  unfold Sm at *
  have h1 := Int.emod_nonneg i (show j ≠ 0 by omega)
  have h2 := Int.emod_lt_of_pos i k
  omega
theorem Sm.nat {n : Nat} {a : Nat} (h : a < 2 ^ n) : Sm n (a : Int) := h
theorem Sm.abs {n : Nat} {i : Int} (h : Sm n i) : Sm n ((i.natAbs : Nat) : Int) := h
theorem mulOk {i j : Int} {n m : Nat} (hi : Sm n i) (hj : Sm m j) (h0 : 0 < n) (h1 : 0 < m) (h : n + m ≤ 1000000) : CMulW i j := wide_mul hi hj h0 h1 h
theorem divOk {i j : Int} {n : Nat} (h : j ≠ 0) (hj : Sm n j) (h0 : 0 < n) (h1 : n ≤ 9000) : CDivX i j := ⟨h, Nat.lt_of_lt_of_le (PySem.Flt.log2_lt_of h0 hj) h1⟩
theorem small_len {ds : List D} (h : ds.length ≤ 100) : ds.length ≤ sizeLine := Nat.le_trans h (by decide)
theorem small_lt {n : Nat} (h : n ≤ 1000) : n < sizeLine := Nat.lt_of_le_of_lt h (by decide)
/-- a def by name, of which some defaults fill up -/
structure DfnD (P : Program) (w : World) (K : PySem.W.Frag) (mg : Str → Option Value) (base : Heap) (CXx : CXT) (x : Str) (ps : List Str) (dvs : List V) (k : Nat) (fs : FSpec) : Prop where
  ex : ∃ (f : Addr) (fd : FuncData) (ds : List Value), mg x = some (.ref f) ∧ PySem.W.keepIn K (.ref f) = true ∧ Vals dvs ds ∧ Binds K fd ps ds ∧ FnOk P w K mg base CXx k f fd ps (spD K fs)
section
variable {X : Cx} {CXx : CXT} {ps : List Str} {dvs : List V} {k : Nat} {fs : FSpec} {x : Str} {p pos : Pos} {e : Expr} {es : List Expr} {t : TA} {E : XK}
theorem pe_dfnXD (d : DfnD X.prog X.w X.K X.mg X.base CXx x ps dvs k fs) (hr : Room k X.A) (hx : Passes CXx X E) (ha : PA X (e :: es) t) (hg : Gl X x := by rfl) (hdb : (x == ("__debug__" : Str)) = false := by decide)
    (he : starEach (e :: es) X.env = (false, eval e X.env) :: starEach es X.env := by rfl) (hpl : (backTo pos (starEach es X.env)).any (·.1) = false := by rfl) : PE X (.Call (.Name x p) (e :: es) [] pos) (tCall (spD X.K fs) dvs E t) := by
  obtain ⟨f, fd, ds, gm, kp, hv, b, F⟩ := d.ex
  exact pe_call F hr hg gm kp b hv hx ha hdb he hpl
theorem pe_dfnND (d : DfnD X.prog X.w X.K X.mg X.base (L2.CX X.prog X.w) x ps dvs k fs) (hr : Room k X.A) (ha : PA X (e :: es) t) (hg : Gl X x := by rfl) (hdb : (x == ("__debug__" : Str)) = false := by decide)
    (he : starEach (e :: es) X.env = (false, eval e X.env) :: starEach es X.env := by rfl) (hpl : (backTo pos (starEach es X.env)).any (·.1) = false := by rfl) : PE X (.Call (.Name x p) (e :: es) [] pos) (tCall (spD X.K fs) dvs E0 t) :=
  pe_dfnXD d hr (fun _ _ _ _ _ _ _ ⟨_, _, _, _, _, _, _, _, _, _, _, _, z⟩ => z.elim) ha hg hdb he hpl
end
theorem brA {c : Bool} {A B : Prop} (e : c = true) (h : A) : (c = true → A) ∧ (c = false → B) := ⟨fun _ => h, fun z => absurd z (by rw [e]; decide)⟩
theorem brB {c : Bool} {A B : Prop} (e : c = false) (h : B) : (c = true → A) ∧ (c = false → B) := ⟨fun z => absurd z (by rw [e]; decide), fun _ => h⟩
theorem brA' {c : Bool} {A B : Prop} (e : c = false) (h : A) : (c = false → A) ∧ (c = true → B) := ⟨fun _ => h, fun z => absurd z (by rw [e]; decide)⟩
theorem brB' {c : Bool} {A B : Prop} (e : c = true) (h : B) : (c = false → A) ∧ (c = true → B) := ⟨fun z => absurd z (by rw [e]; decide), fun _ => h⟩
theorem br2' {p : Prop} [Decidable p] {A B : Prop} (h1 : ¬ p → A) (h2 : p → B) : (decide p = false → A) ∧ (decide p = true → B) := ⟨fun h => h1 (of_decide_eq_false h), fun h => h2 (of_decide_eq_true h)⟩
theorem br2n' {p : Prop} [Decidable p] {A B : Prop} (h1 : p → A) (h2 : ¬ p → B) : ((!decide p) = false → A) ∧ ((!decide p) = true → B) := ⟨fun h => h1 (by simpa using h), fun h => h2 (by simpa using h)⟩
theorem Sm.add2 {n m : Nat} {i j : Int} (h : Sm n i) (k : Sm m j) : Sm (max n m + 1) (i + j) := Sm.add (Sm.le h (Nat.le_max_left _ _)) (Sm.le k (Nat.le_max_right _ _))
theorem Sm.sub2 {n m : Nat} {i j : Int} (h : Sm n i) (k : Sm m j) : Sm (max n m + 1) (i - j) := Sm.sub (Sm.le h (Nat.le_max_left _ _)) (Sm.le k (Nat.le_max_right _ _))
theorem mul_rep {R : Res → Prop} {d : D} {m : Nat} (hm : m ≤ 1000) (h : R (.own (List.replicate m d))) : MulD (.lst [d]) (.int (m : Int)) R := by
  refine .inr ⟨[d], m, rfl, rfl, by omega, by omega, ?_, ?_⟩
  · show 1 * ((m : Nat) : Int).toNat ≤ sizeLine
    exact Nat.le_trans (by omega : 1 * ((m : Nat) : Int).toNat ≤ 1000) (by decide)
  · rw [show ((m : Nat) : Int).toNat = m from rfl]
    have e : (List.replicate m [d]).flatten = List.replicate m d := by
      clear h hm
      induction m with
      | zero => rfl
      | succ n ih => rw [List.replicate_succ, List.flatten_cons, ih]; rfl
    rw [e]
    exact h
theorem ixd_any {ds : List D} {i : Int} (h0 : 0 ≤ i) (h1 : i < ds.length) : ∃ d, d ∈ ds ∧ atI ds i = some d := by
  obtain ⟨n, rfl⟩ := Int.eq_ofNat_of_zero_le h0
  have hn : n < ds.length := by
    have z : ((n : Nat) : Int) < ((ds.length : Nat) : Int) := h1
    omega
  exact ⟨ds[n], List.getElem_mem hn, atI_nat (List.getElem?_eq_getElem hn)⟩
theorem small_len' {n : Nat} (h : n ≤ 1000) : n ≤ sizeLine := Nat.le_trans h (by decide)

end Y
end

section
namespace Y
open PySem PySem.Spec PyProof.Rows L2
section
variable {K : PySem.W.Frag} {Ex : Value → List Slot → Prop} {E : L2.St → XK} {ρ : List Slot} {R : Res → Prop}
theorem t_yes {R : Bool → Prop} (h : R true) : tT K Ex E tYes ρ R := fun G0 H0 G σ H Q S X k => k true h G H (Ev.refl S.ev.sub)
/-- [f(x) for x in xs if p(x)] -/
theorem e_lcF {wi : TI} {g : TG} {tt : TT} {te : TE} {vs : List Nat} (f : D → D) (p : D → Bool) (h : tIc K Ex E wi ρ fun ds => ds.length ≤ sizeLine ∧
      (∀ d ∈ ds, tG K (· ∈ vs) g d (wipeS ρ vs) fun ρ2 => tT K (fun _ _ => False) E tt ρ2 fun b => b = p d ∧ (b = true → tE K (fun _ _ => False) E te ρ2 (vR fun y => y = f d))) ∧
      R (.own ((ds.filter p).map f))) : tE K Ex E (tLc wi g tt te vs) ρ R := by
  refine e_lc fun G0 H0 G σ H Q S X k => h G0 H0 G σ H Q S X fun ds ⟨h1, h2, h3⟩ J G' H' e w => k ds ⟨h1, fun i outs => outs = ((ds.take i).filter p).map f, by simp, fun i d outs hd ho => ?_, fun outs ho _ => ?_⟩ J G' H' e w
  · have step : ds.take (i + 1) = ds.take i ++ [d] := by rw [List.take_add_one, hd]; rfl
    have q := h2 d (List.mem_of_getElem? hd)
    intro G0 H0 G σ H v Q S r kk
    refine q G0 H0 G σ H v Q S r fun ρ' σ' ht S' hj => kk ρ' σ' ?_ S' hj
    intro G0 H0 G σ H Q S X kk2
    refine ht G0 H0 G σ H Q S X fun b ⟨hb, he⟩ G2 H2 e2 => kk2 b ⟨fun hb1 => (he hb1).imp fun r hr => ?_, fun hb0 => ?_⟩ G2 H2 e2
    · have pd : p d = true := by rw [← hb, hb1]
      have fin : ∀ y, y = f d → outs ++ [y] = ((ds.take (i + 1)).filter p).map f := fun y hy => by
        rw [step, List.filter_append, List.map_append, ho, hy]
        simp [pd]
      cases r with
      | val y => exact fin y hr
      | own es => exact fin _ hr
      | bor es => exact hr
    · have pd : p d = false := by rw [← hb, hb0]
      show outs = ((ds.take (i + 1)).filter p).map f
      rw [step, List.filter_append, List.map_append, ho]
      simp [pd]
  · have ho' : outs = ((ds.take ds.length).filter p).map f := ho
    rw [List.take_length] at ho'
    rw [ho']
    exact h3
/-- [f(x) for x in xs] -/
theorem e_lcM {wi : TI} {g : TG} {te : TE} {vs : List Nat} (f : D → D) (h : tIc K Ex E wi ρ fun ds => ds.length ≤ sizeLine ∧
      (∀ d ∈ ds, tG K (· ∈ vs) g d (wipeS ρ vs) fun ρ2 => tE K (fun _ _ => False) E te ρ2 (vR fun y => y = f d)) ∧ R (.own (ds.map f))) : tE K Ex E (tLc wi g tYes te vs) ρ R :=
  e_lcF f (fun _ => true) fun G0 H0 G σ H Q S X k => h G0 H0 G σ H Q S X fun ds ⟨h1, h2, h3⟩ J G' H' e w =>
    k ds ⟨h1, fun d hd G0 H0 G σ H v Q S r kk => h2 d hd G0 H0 G σ H v Q S r fun ρ' σ' ht S' hj => kk ρ' σ' (t_yes ⟨rfl, fun _ => ht⟩) S' hj, by
      rw [List.filter_eq_self.mpr fun _ _ => rfl]
      exact h3⟩ J G' H' e w
end
end Y
namespace Y
open PySem PySem.Spec PyProof.Rows L2
/-- a try whose error is kept -/
def tTryK (K : PySem.W.Frag) (c : Value) (i j : Nat) (tb : WX → TS) : TS := fun D σ H => tb (wKeep K c i j D) D σ H
theorem s_tryKK {K : PySem.W.Frag} {Ex : Value → List Slot → Prop} {E : L2.St → XK} {ρ : List Slot} {De : DE} {tb : WX → TS} {c : Value} {i j : Nat} (h : ∀ W : WX, tS K (fun e ρ' => ∃ C, e = .ref C ∧ PySem.W.exmOne K e c = some true ∧ De.nx ((ρ'.set j (.val (.exc C))).set i .emp)) (WE W) (tb W) ρ De) :
    tS K Ex E (tTryK K c i j tb) ρ De := s_tryK h
/-! the rules with the written part named: within blocks and try's bodies -/
section
variable {X : Cx} {K : PySem.W.Frag} {k : Nat}
theorem op_eqK (hr : Room k X.A) (hK : X.K = K := by rfl) : OpR X (compareOp .Eq) (rEqU K) := by subst hK; exact op_eqU hr
theorem op_neK (hr : Room k X.A) (hK : X.K = K := by rfl) : OpR X (compareOp .NotEq) (rNeU K) := by subst hK; exact op_neU hr
theorem ix_K (hK : X.K = K := by rfl) : IxR X (rIx K) := by subst hK; exact ix_seq
theorem sl_K (hK : X.K = K := by rfl) : SlR X (rSlU K) := by subst hK; exact sl_U
theorem call_lenK (hK : X.K = K := by rfl) : CallR X (.builtin "len") (rLen K) := by subst hK; exact call_len
theorem call_isiK (hK : X.K = K := by rfl) : CallR X (.builtin "isinstance") (rIsi K) := by subst hK; exact call_isi
theorem call_isXK (hK : X.K = K := by rfl) : CallR X (.builtin "isinstance") (rIsX K) := by subst hK; exact call_isX
theorem call_listK (hK : X.K = K := by rfl) : CallR X (.type "list") (rListU K) := by subst hK; exact call_list_of
theorem cr_allK (hc : X.calm = true) (hK : X.K = K := by rfl) : CallR X (.builtin "all") (rAll K) := by subst hK; exact cr_all hc
theorem pi_listK {tg l : Expr} {tl : TE} (hl : PE X l tl) (hK : X.K = K := by rfl) : PI X tg l (iList K tl) := by subst hK; exact pi_list hl
theorem pi_tupK {tg l : Expr} {tl : TE} (hl : PE X l tl) (hK : X.K = K := by rfl) : PI X tg l (iTup K tl) := by subst hK; exact pi_tup hl
theorem pt_truK {a : Expr} {ta : TE} (ha : PE X a ta) (hK : X.K = K := by rfl) (he : ∀ whole, isTrue a X.env whole = (do let v ← whole; standAt a.pos; holding [v] (truthy v)) := by intro _; rfl) : PT X a (tTru K ta) := by subst hK; exact pt_truth ha he
variable {CXx : CXT} {ps : List Str} {fs : FSpec} {x : Str} {p pos : Pos} {e : Expr} {es : List Expr} {t : TA} {E : XK} {W : WX} {P : Program} {w : World} {mg : Str → Option Value} {base : Heap} {dvs : List V}
theorem pe_dK (d : Dfn P w K mg base CX0 x ps k fs) (hr : Room k X.A) (ha : PA X (e :: es) t) (hP : X.prog = P := by rfl) (hw : X.w = w := by rfl) (hK : X.K = K := by rfl) (hmg : X.mg = mg := by rfl) (hb : X.base = base := by rfl) (hg : Gl X x := by rfl) (hdb : (x == ("__debug__" : Str)) = false := by decide)
    (he : starEach (e :: es) X.env = (false, eval e X.env) :: starEach es X.env := by rfl) (hpl : (backTo pos (starEach es X.env)).any (·.1) = false := by rfl) : PE X (.Call (.Name x p) (e :: es) [] pos) (tCall (spD K fs) [] E0 t) := by
  subst hP hw hK hmg hb
  exact pe_dfn d hr ha hg hdb he hpl
theorem pe_dNK (d : Dfn P w K mg base (L2.CX P w) x ps k fs) (hr : Room k X.A) (ha : PA X (e :: es) t) (hP : X.prog = P := by rfl) (hw : X.w = w := by rfl) (hK : X.K = K := by rfl) (hmg : X.mg = mg := by rfl) (hb : X.base = base := by rfl) (hg : Gl X x := by rfl) (hdb : (x == ("__debug__" : Str)) = false := by decide)
    (he : starEach (e :: es) X.env = (false, eval e X.env) :: starEach es X.env := by rfl) (hpl : (backTo pos (starEach es X.env)).any (·.1) = false := by rfl) : PE X (.Call (.Name x p) (e :: es) [] pos) (tCall (spD K fs) [] E0 t) := by
  subst hP hw hK hmg hb
  exact pe_dfnN d hr ha hg hdb he hpl
theorem pe_dNDK (d : DfnD P w K mg base (L2.CX P w) x ps dvs k fs) (hr : Room k X.A) (ha : PA X (e :: es) t) (hP : X.prog = P := by rfl) (hw : X.w = w := by rfl) (hK : X.K = K := by rfl) (hmg : X.mg = mg := by rfl) (hb : X.base = base := by rfl) (hg : Gl X x := by rfl) (hdb : (x == ("__debug__" : Str)) = false := by decide)
    (he : starEach (e :: es) X.env = (false, eval e X.env) :: starEach es X.env := by rfl) (hpl : (backTo pos (starEach es X.env)).any (·.1) = false := by rfl) : PE X (.Call (.Name x p) (e :: es) [] pos) (tCall (spD K fs) dvs E0 t) := by
  subst hP hw hK hmg hb
  exact pe_dfnND d hr ha hg hdb he hpl
theorem pe_dXK (d : Dfn P w K mg base (L2.CX P w) x ps k fs) (hr : Room k X.A) (hx : Passes (L2.CX P w) X E) (ha : PA X (e :: es) t) (hP : X.prog = P := by rfl) (hw : X.w = w := by rfl) (hK : X.K = K := by rfl) (hmg : X.mg = mg := by rfl) (hb : X.base = base := by rfl) (hg : Gl X x := by rfl) (hdb : (x == ("__debug__" : Str)) = false := by decide)
    (he : starEach (e :: es) X.env = (false, eval e X.env) :: starEach es X.env := by rfl) (hpl : (backTo pos (starEach es X.env)).any (·.1) = false := by rfl) : PE X (.Call (.Name x p) (e :: es) [] pos) (tCall (spD K fs) [] E t) := by
  subst hP hw hK hmg hb
  exact pe_dfnX d hr hx ha hg hdb he hpl
theorem pe_dSK (d : Dfn P w K mg base (L2.CX P w) x ps k fs) (hr : Room k X.A) (tk : Takes X W) (ha : PA X (e :: es) t) (hP : X.prog = P := by rfl) (hw : X.w = w := by rfl) (hK : X.K = K := by rfl) (hmg : X.mg = mg := by rfl) (hb : X.base = base := by rfl) (hg : Gl X x := by rfl) (hdb : (x == ("__debug__" : Str)) = false := by decide)
    (he : starEach (e :: es) X.env = (false, eval e X.env) :: starEach es X.env := by rfl) (hpl : (backTo pos (starEach es X.env)).any (·.1) = false := by rfl) : PE X (.Call (.Name x p) (e :: es) [] pos) (tCallS (spD K fs) (WE W) t) := by
  subst hP hw hK hmg hb
  exact pe_dfnS d hr tk ha hg hdb he hpl
theorem ps_tryK {x n y : Str} {c : Value} {i j : Nat} {body : List Stmt} {np p1 p2 p3 pos pos' : Pos} {tb : WX → TS} (st1 : X.stack = X.env :: X.outer) (fr1 : X.env.frame = some X.env.locals) (nd1 : X.N.Nodup) (hi : X.N[i]? = some n) (hj : X.N[j]? = some y) (hij : i ≠ j) (lc1 : X.env.kindOf n = some .local) (ly : X.env.kindOf y = some .local) (nm : Names X x c) (nex : X.ex = [])
    (hn1 : (n == ("__debug__" : Str)) = false) (hn2 : (n == ("__classdict__" : Str)) = false) (hw1 : swapsWith (.Name n p2) (some (.Name y p1)) p3.line X.env = pure false)
    (bd : ∀ (W : WX) (pn : List (Addr × Obj)) (xe : Value → Shared → Prop), Takes (X.tr pn xe) W → PassesOwn (model X.prog X.w) X.A X.env xe → PSs (X.tr pn xe) body (tb W)) (hK : X.K = K := by rfl) :
    PS X (.Try body [.ExceptHandler (some (.Name x np)) (some n) [.Assign [.Name y p1] (.Name n p2) p3] pos'] [] [] pos) (tTryK K c i j tb) := by
  subst hK
  exact ps_try_keep st1 fr1 nd1 hi hj hij lc1 ly nm nex hn1 hn2 hw1 bd
end
end Y
end

section
set_option maxHeartbeats 4000000
namespace Y
open PySem PySem.Spec PyProof.Rows L2
/-! ### the law's own def, as its caller calls it: nothing guards there, so containers may be shown -/
def AtCaller (P : Program) (w : World) (K : PySem.W.Frag) (mg : Str → Option Value) (base : Heap) (fa : Addr) (fd : FuncData) (ps : List Str) (sp : Sp) : Prop :=
  ∀ (s : Shared) (H : Hp) (args : Args) (us : List Value) (vs : List V) (Q : VK) (E : XK), Env0 P w K mg base callerA [] s H → BindsTo s fd args (ps.zip us) → Vals vs us → sp vs H Q E →
    codeAny (model P w) callerA (.call (.ref fa) args) (CR CX0 [] P w H s Q E) s
section
variable {P : Program} {w : World} {K : PySem.W.Frag} {mg : Str → Option Value} {base : Heap}
theorem at_of {k : Nat} {x qual : Str} {st : Stmt} {fa : Addr} {fd : FuncData} {N ps : List Str} {sp : Sp} (F : Fun K x qual st fa fd) (S : FnScope N ps (defScope st)) (hr : Room (k + 1) callerA) (ln : ∀ vs H Q E, sp vs H Q E → vs.length = ps.length)
    (hb : ∀ (cdv : Value) (s : Shared) (H : Hp) (vs : List V) (Q : VK) (E : XK), Room k (callerA.deeper (envOfC qual (defScope st) s.heap.objs.size fa cdv)) → sp vs H Q E →
      ∃ t, PSs (cxOf CX0 P w K mg base N qual (defScope st) fa cdv callerA [] s H E) (defBody st) t ∧ t { nx := fun _ H' => Q .non H', rt := Q } (start N vs) H) :
    AtCaller P w K mg base fa fd ps sp := by
  obtain ⟨oc, od, kV, doc, pm, an, cdv, ct, osl, rfl, lk, hcd⟩ := F.ex
  intro s H args us vs Q E en bnd rel hq
  have same : ∀ b o, base.get? b = some o → s.heap.get? b = some o := fun b o e => (en.bs b o e).1
  have kx := en.mod.kin.keeps same
  have kinds : ∀ y ∈ ps.zip us, (defScope st).names.lookup y.1 = some .local ∨ ((defScope st).names.lookup y.1 = some .cell ∧ ((cellsFrom (s.heap.objs.size + 1) (defScope st).names []).lookup y.1).isSome = true) := by
    rintro ⟨n, v⟩ hy
    cases S.par n (List.of_mem_zip hy).1 with
    | inl z => exact .inl z
    | inr z => exact .inr ⟨z, PySem.W.cellsFrom_some _ _ _ (.inl z)⟩
  apply codeAny_call_function hr.depth (kx _ _ lk) rfl S.co S.gen rfl (PySem.W.codeRec_of kx hcd)
  apply bnd
  apply wpAny_newFunctionEnv_cells S.kind kinds
  intro env henv s1 x
  subst henv
  refine ⟨(en.mod.nolimit.keeps same).keeps x.toInCall.keep, codeAny_func ?_⟩
  obtain ⟨t, pt, ht⟩ := hb cdv s H vs Q E (hr.deeper _) hq
  have I0 := inv_start (CX := CX0) (w := w) (qual := qual) (f := fa) (cd := cdv) (E := E) S hr.hd en (ln _ _ _ _ hq) rel x
  refine wpAny_mono (pt.run [] s1 (start N vs) H _ I0 ht) (fun fl s2 z => ?_) fun _ _ z => z
  cases fl with
  | ret u => exact let ⟨v, _, H2, J, r2, q2⟩ := z; ⟨v, H2, J.os, J.bare, J.base, J.hok, r2, q2⟩
  | next => exact let ⟨_, H2, J, q2⟩ := z; ⟨V.non, H2, J.os, J.bare, J.base, J.hok, (rfl : RelV V.non Value.none), q2⟩
  | brk => exact let ⟨_, _, _, q2⟩ := z; q2.elim
  | cont => exact let ⟨_, _, _, q2⟩ := z; q2.elim
end
section
variable {P : Program} {w : World} {K : PySem.W.Frag} {mg mb : Str → Option Value} {fa a : Addr} {fd : FuncData} {x : Str} {sp : Sp} {s : Shared} {vs : List Value} {ns : List Int}
/-- what the caller wants of the law's answer -/
abbrev Kept (s : Shared) (r : Result) (s' : Shared) : Prop := r = .ok (.ret (.bool true)) ∧ OldK s.heap s'.heap ∧ s'.os = s.os ∧ AllBare s'.gens
/-- over an abstract heap that knows the script at most -/
theorem at_core {H : Hp} (kx : K.In s.heap) (hns : s.heap.Ns mainGlobals mg) (hb : s.heap.Ns builtinsNs mb) (hbb : ∀ y : Str, y ≠ "__name__" → mb y = bootBuiltins y) (lim : s.heap.NoLimit) (hg : s.gens = #[])
    (ha : s.heap.get? a = some { cls := .type "list", data := .seq vs.toArray }) (F : ∀ base : Heap, K.In base → base.Ns mainGlobals mg → AtCaller P w K mg base fa fd [x] sp)
    (bnd : ∀ (t : Shared) (u : Value), BindsTo t fd ⟨[u], []⟩ [(x, u)]) (only : Only H) (hok : HOk P w H s.heap) (mine : ∀ b, H b ≠ none → b = a) (out : H a ≠ none → K.lookup a = none)
    (hs : sp [.ref a] H (fun v _ => v = .bl true) fun _ _ _ => False) : codeAny (model P w) callerA (.call (.ref fa) ⟨[.ref a], []⟩) (Kept s) s := by
  have hid : ∀ {b : Addr} {o : Obj}, s.heap.get? b = some o → H b = none → (hidT s.heap H).get? b = some o := fun e n => hidT_get e n
  have free : ∀ {b : Addr} {o : Obj} {es : Array DictEntry} {ep : Nat}, s.heap.get? b = some o → o.data = .dict es ep → H b = none := by
    intro b o es ep e d
    by_cases q : H b = none
    · exact q
    · obtain rfl := mine b q
      rw [ha] at e
      cases e
      cases (show Data.seq vs.toArray _ = Data.dict es ep from d)
  have nsT : ∀ {b : Addr} {m : Str → Option Value}, s.heap.Ns b m → (hidT s.heap H).Ns b m := by
    rintro b m ⟨o, es, ep, e, d, r⟩
    exact ⟨o, es, ep, hid e (free e d), d, r⟩
  have kT : K.In (hidT s.heap H) := by
    intro b o e
    refine hid (kx b o e) ?_
    by_cases q : H b = none
    · exact q
    · obtain rfl := mine b q
      rw [out q] at e
      cases e
  obtain ⟨mc, l1, l2⟩ := lim
  have md : Mod K mg (hidT s.heap H) := ⟨kT, nsT hns, ⟨mb, nsT hb, hbb⟩, ⟨mc, nsT l1, l2⟩⟩
  have no : ∀ {b : Addr} {C : Prop}, b ∈ ([] : List Addr) → C := fun q => by cases q
  have en : Env0 P w K mg (hidT s.heap H) callerA [] s H := ⟨rfl, md, fun _ _ e => of_hidT e, Nat.le_of_eq (hidT_size _ _), trivial, fun _ q => no q, hok, .of_eq hg⟩
  have run := F _ kT (nsT hns) s H ⟨[.ref a], []⟩ [.ref a] [.ref a] _ _ en (bnd s (.ref a)) (.cons rfl .nil) hs
  refine codeAny_mono run fun r s' z => ?_
  match r, z with
  | .error _, z => exact False.elim z
  | .ok .next, z => exact False.elim z
  | .ok .brk, z => exact False.elim z
  | .ok .cont, z => exact False.elim z
  | .ok (.ret u), ⟨v, H2, os, bare, un, hok2, rel, e1⟩ =>
    obtain rfl : v = .bl true := e1
    obtain rfl : u = Value.bool true := rel
    refine ⟨rfl, OldK.of_keep fun b o e => ?_, os, bare⟩
    rcases only b with q | ⟨ob, xs, q⟩
    · exact un.keep b o e q (fun z => no z) (fun z => no z)
    · obtain ⟨e2, _⟩ := hok b _ q
      obtain ⟨e3, _⟩ := hok2 b _ (un.frzs b ob _ q)
      rw [e] at e2
      cases e2
      exact e3
theorem law_at (kx : K.In s.heap) (hns : s.heap.Ns mainGlobals mg) (hb : s.heap.Ns builtinsNs mb) (hbb : ∀ y : Str, y ≠ "__name__" → mb y = bootBuiltins y) (lim : s.heap.NoLimit) (hg : s.gens = #[])
    (ha : s.heap.get? a = some { cls := .type "list", data := .seq vs.toArray }) (hi : IntsAre vs ns) (hl : ns.length ≤ sizeLine) (F : ∀ base : Heap, K.In base → base.Ns mainGlobals mg → AtCaller P w K mg base fa fd [x] sp)
    (bnd : ∀ (t : Shared) (u : Value), BindsTo t fd ⟨[u], []⟩ [(x, u)]) (hs : ∀ H : Hp, Only H → SqL K H a (ns.map V.int) → sp [.ref a] H (fun v _ => v = .bl true) fun _ _ _ => False) :
    codeAny (model P w) callerA (.call (.ref fa) ⟨[.ref a], []⟩) (Kept s) s := by
  have rv := vals_ints hi
  cases hk : K.lookup a with
  | some o =>
    have e := (kx a o hk).symm.trans ha
    cases e
    have on : Only fun _ => none := fun _ => .inl rfl
    have sq : SqL K (fun _ => none) a (ns.map V.int) := .inr ⟨_, vs.toArray, _, hk, rfl, rfl, rfl, by rw [List.size_toArray, hi.length]; exact hl, by simpa using rv⟩
    exact at_core kx hns hb hbb lim hg ha F bnd on (fun b u z => nomatch z) (fun b z => (z rfl).elim) (fun z => (z rfl).elim) (hs _ on sq)
  | none =>
    let Hs : Hp := fun b => if b = a then some (.frz { cls := .type "list", data := .seq vs.toArray } (.lst (ns.map V.int))) else none
    have at1 : Hs a = some (.frz { cls := .type "list", data := .seq vs.toArray } (.lst (ns.map V.int))) := if_pos rfl
    have at0 : ∀ b, b ≠ a → Hs b = none := fun b n => if_neg n
    have on : Only Hs := fun b => (Decidable.em (b = a)).elim (fun e => .inr ⟨_, _, e ▸ at1⟩) fun n => .inl (at0 b n)
    have ok : HOk P w Hs s.heap := by
      intro b u z
      by_cases n : b = a
      · subst n
        rw [at1] at z
        cases z
        exact ⟨ha, by rw [List.length_map]; exact hl, vs, _, rv, ha⟩
      · rw [at0 b n] at z
        cases z
    exact at_core kx hns hb hbb lim hg ha F bnd on ok (fun b z => Classical.byContradiction fun n => z (at0 b n)) (fun _ => hk) (hs _ on (.inl (.inr ⟨_, at1⟩)))
/-- the end of a head, as walk_of makes it, for a law whose def is known at its caller -/
theorem walk_at_caller {l : PySem.W.OpenLaw} {n : Nat} {q : Program} {loose : List Str} {XP : (Str → Option Value) → Heap → Prop} {YP : World → Heap → Prop} {d : DefRec} {K : Params → PySem.W.Frag} {sp : World → Sp} {x : Str}
    (hn : l.most = some n) (hn2 : n ≤ sizeLine) (hdf : d.params.defaults = []) (hY : ∀ (w : World) (h : Heap), YP w h → (K w.params).In h)
    (F : ∀ (w : World) (mg : Str → Option Value) (fa : Addr) (h : Heap), (K w.params).In h → h.Ns mainGlobals mg → mg d.name = some (.ref fa) →
      ∃ fd : FuncData, (∀ (s : Shared) (u : Value), BindsTo s fd ⟨[u], []⟩ [(x, u)]) ∧ ∀ base : Heap, (K w.params).In base → base.Ns mainGlobals mg → AtCaller l.prog w (K w.params) mg base fa fd [x] (sp w))
    (hs : ∀ (w : World) (H : Hp) (a : Addr) (ns : List Int), ns.length ≤ n → Only H → SqL (K w.params) H a (ns.map V.int) → sp w [.ref a] H (fun v _ => v = .bl true) fun _ _ _ => False) :
    PySem.W.WalkO q loose XP YP l.row.toRowW d [] (fun f vs => PySem.call f vs) := by
  apply Att.attach_call hn hdf
  intro w s₀ s mg mb fa o pm cd doc a vs ns G Y _ _ _ hmg hobj hints hlen hg
  obtain ⟨fd, bnd, f⟩ := F w mg fa _ (hY w _ Y) G.T.g hmg
  exact law_at (hY w _ Y) G.T.g G.T.b G.T.builtins G.T.nolimit hg hobj hints (Nat.le_trans hlen hn2) f bnd fun H h1 h2 => hs w H a ns hlen h1 h2
end
end Y
end

section
set_option maxHeartbeats 4000000
namespace Y
open PySem PySem.Spec PyProof.Rows L2
/-! ### how data is shown -/
mutual
theorem py_noDict : ∀ d : D, d.py.hasDict = false
  | .non => rfl
  | .bl _ => rfl
  | .int _ => rfl
  | .str _ => rfl
  | .tup xs => by rw [D.py, PyData.hasDict]; exact py_noDictAll xs
  | .lst xs => by rw [D.py, PyData.hasDict]; exact py_noDictAll xs
  | .fz xs => by rw [D.py, PyData.hasDict]; exact py_noDictAll xs
  | .exc _ => rfl
  | .dk0 => rfl
  | .ty _ => rfl
  | .cls _ => rfl
  | .pin _ d => by rw [D.py]; exact py_noDict d
theorem py_noDictAll : ∀ xs : List D, PyData.hasDictAll (pyAll xs) = false
  | [] => rfl
  | x :: xs => by rw [pyAll, PyData.hasDictAll, py_noDict x, py_noDictAll xs]; rfl
end
def shD : D → Str
  | .dk0 => "{}"
  | d => d.py.shown
/-- data that may be shown -/
def ShowOk (d : D) : Prop := d = .dk0 ∨ (d.plain = true ∧ d.py.showable = true ∧ d.dep ≤ 64 ∧ d.py.shown.length ≤ sizeLine)
def rRepr (K : PySem.W.Frag) : List V → Hp → VK → Prop := fun xs H Q => ∃ x d, xs = [x] ∧ Rp K H x d ∧ ShowOk d ∧ Q (.str (shD d)) H
theorem call_repr {X : Cx} {K : PySem.W.Frag} {k : Nat} (hr : Room k X.A) (hG : X.A.guards = some [] := by rfl) (hK : X.K = K := by rfl) : CallR X (.builtin "repr") (rRepr K) := by
  subst hK
  intro pins s σ H xs us Q I r ⟨x, d, e, rp, ok, q⟩
  subst e
  obtain ⟨u, rfl, ru⟩ := vals1 r
  have un := hr.un
  rcases ok with rfl | ⟨pl, sh, dp, sz⟩
  · cases rp with
    | dk0 h =>
      have hu : u = .ref _ := ru
      subst hu
      obtain ⟨_, hs, vs, kv, o, es, ep, h1, h2⟩ := I.hok _ _ h
      have e1 : vs = [] := by
        cases kv
        rfl
      subst e1
      have e2 : es.toList = [] := by
        have z := h2.2.2.2.1
        revert z
        generalize es.toList = l
        intro z
        cases z
        rfl
      have rd : Reads s.heap (.ref _) (.dict []) _ := .dict (kvs := []) h1 h2.1.1 h2.2.1 (by rw [e2]; exact .nil) (by rw [e2]; exact .nil)
      refine repr_of_reads' rd rfl (fun _ hm => ?_) hG (by show X.A.units + (_ + 1) < cLine; simp only [PyData.depth, PyData.depthKv]; omega) (fun _ _ e => e) (fun h' u' tk kp => ⟨.str _, H, I.kept kp, ⟨_, rfl⟩, q⟩) (Nat.le_of_ble_eq_true rfl)
      rcases List.mem_cons.mp (show sysModules ∈ _ :: ([] ++ []) from hm) with z | z
      · rw [← z, beq_self_eq_true] at hs
        cases hs
      · cases z
  · have qs : Q (.str d.py.shown) H := by
      cases d <;> first | exact q | (cases pl)
    have pd := py_dep d
    obtain ⟨as, rd⟩ := Dp.reads I d.py x u (rp.dp pl) ru
    have fin : ∀ h' u' tk, (∀ b o, s.heap.get? b = some o → h'.get? b = some o) → EP X pins σ Q (.str d.py.shown u') { s with heap := h', toks := tk } := fun h' u' tk kp => ⟨.str _, H, I.kept kp, ⟨_, rfl⟩, qs⟩
    have nd := py_noDict d
    revert fin nd pd sz sh rd
    generalize d.py = p
    intro sh sz pd rd fin nd
    cases rd with
    | none => exact PySem.P.repr_of_none (fin s.heap _ _ fun _ _ e => e)
    | bool b => exact PySem.P.repr_of_bool (fin s.heap _ _ fun _ _ e => e)
    | int i t => exact PySem.P.repr_of_int (of_decide_eq_true sh) (fin s.heap _ _ fun _ _ e => e)
    | str x t => exact PySem.P.repr_of_str (fin s.heap _ _ fun _ _ e => e) sz
    | list h1 h2 h3 h4 => exact repr_of_reads' (.list h1 h2 h3 h4) sh (PyData.noDict_hsm nd) hG (by omega) (fun _ _ e => e) fin sz
    | tuple h1 h2 h3 h4 => exact repr_of_reads' (.tuple h1 h2 h3 h4) sh (PyData.noDict_hsm nd) hG (by omega) (fun _ _ e => e) fin sz
    | dict h1 h2 h3 h4 h5 => cases nd
section
variable {K : PySem.W.Frag} {Ex : Value → List Slot → Prop} {E : L2.St → XK} {ρ : List Slot} {ta : TE} {R : Res → Prop}
theorem e_repr (h : tE K Ex E ta ρ (vR fun d => ShowOk d ∧ R (.val (.str (shD d))))) : tE K Ex E (tCB (rRepr K) (tCons ta tNil)) ρ R :=
  fun G0 H0 G σ H Q S X k => (v_of h) G0 H0 G σ H _ S X fun d ⟨ok, hr⟩ v G1 H1 e1 r1 => ⟨v, d, rfl, r1.mono e1.sub, ok, k _ hr _ G1 H1 e1 (.str _)⟩
/-- tuple(xs), xs a list -/
def rTupL (K : PySem.W.Frag) : List V → Hp → VK → Prop := fun xs H Q => ∃ p ys, xs = [.ref p] ∧ ((SqL K H p ys ∧ ∀ l, H l = none → Q (.ref l) (upd H l (.tup ys))) ∨ (SqT K H p ys ∧ Q (.ref p) H))
theorem call_tupLK {X : Cx} (hK : X.K = K := by rfl) : CallR X (.type "tuple") (rTupL K) := by subst hK; exact call_tuple_of
theorem e_tupL (h : tE K Ex E ta ρ fun a => ∃ ds, listD a.dat = some ds ∧ R (.val (.tup ds))) : tE K Ex E (tCB (rTupL K) (tCons ta tNil)) ρ R :=
  fun G0 H0 G σ H Q S X k => h G0 H0 G σ H _ S X fun a ⟨ds, hd, hr⟩ v G1 H1 e1 r1 => by
    obtain ⟨l, xs, rfl, s, q1⟩ := r1.listSq e1.sub hd
    exact ⟨l, xs, rfl, .inl ⟨s, fun p np => k _ hr _ (upd G1 p (.tup xs)) _ (e1.trans (Ev.laid e1.sub np)) (.tup (.inl (.inl upd_same)) (q1.mono (Ev.laid (o := .tup xs) e1.sub np).gs))⟩⟩
theorem Rps.rev {G : Hp} : ∀ {vs : List V} {ds : List D}, Rps K G vs ds → Rps K G vs.reverse ds.reverse
  | _, _, .nil => .nil
  | _, _, .cons h r => by
    rw [List.reverse_cons, List.reverse_cons]
    exact (Rps.rev r).append (.cons h .nil)
theorem e_revL (h : tE K Ex E ta ρ fun a => ∃ ds, listD a.dat = some ds ∧ R (.own ds.reverse)) : tE K Ex E (tRevL K ta) ρ R :=
  fun G0 H0 G σ H Q S X k => h G0 H0 G σ H _ S X fun a ⟨ds, hd, hr⟩ v G1 H1 e1 r1 => by
    obtain ⟨l, xs, rfl, s, q1⟩ := r1.listSq e1.sub hd
    exact ⟨l, xs, rfl, s, fun p np => k _ hr _ G1 _ (e1.trans (Ev.own e1.sub np)) ⟨p, _, rfl, e1.hs.free np, e1.sub.free np, upd_same, q1.rev⟩⟩
theorem pe_revLK {X : Cx} {K : PySem.W.Frag} {e : Expr} {te : TE} {k : Nat} {p1 p2 p3 pos : Pos} (he : PE X e te) (hK : X.K = K := by rfl) : PE X (.Subscript e (.Slice none none (some (.UnaryOp .USub (.Constant (.int 1) k p1) p2)) p3) pos) (tRevL K te) := by subst hK; exact pe_revL he
theorem op_catAK {X : Cx} {K : PySem.W.Frag} (hK : X.K = K := by rfl) : OpR X (binaryOp .Add) (rCatA K) := by subst hK; exact op_catA
/-- t + u, tuples -/
theorem e_catA {tb : TE} (h : tE K Ex E ta ρ fun a => tE K Ex E tb ρ fun b => ∃ ds es, a.dat = .tup ds ∧ b.dat = .tup es ∧ ds.length + es.length ≤ sizeLine ∧ R (.val (.tup (ds ++ es)))) : tE K Ex E (tOp (rCatA K) ta tb) ρ R :=
  fun G0 H0 G σ H Q S X k => h G0 H0 G σ H _ S X fun a ha v G1 H1 e1 r1 => ha G0 H0 G1 σ H1 _ (S.step e1) X fun b ⟨ds, es, ea, eb, hl, hr⟩ u G2 H2 e2 r2 => by
    have e := e1.trans e2
    have val : ∀ {r : Res} {x : V} {G : Hp} {xs : List D}, ROk K G G2 H2 x r → r.dat = .tup xs → Rp K G2 x (.tup xs) := fun {r x G xs} q z => by
      cases r with
      | val d =>
        have z' : d = .tup xs := z
        subst z'
        exact q
      | own ds => cases (show D.lst ds = .tup xs from z)
      | bor ds => cases (show D.lst ds = .tup xs from z)
    obtain ⟨l, xs, rfl, s1, p1⟩ := (val (r1.step e2) ea).inv_tup
    obtain ⟨m, ys, rfl, s2, p2⟩ := (val r2 eb).inv_tup
    refine ⟨l, m, xs, ys, rfl, rfl, same_seqT e2.sub s1, same_seqT e2.sub s2, by rw [p1.length, p2.length]; exact hl, fun z => ?_, fun _ z => ?_, fun _ _ p np => ?_⟩
    · subst z
      cases p1
      exact k _ hr _ G2 H2 e (show Rp K G2 _ (.tup _) from .tup s2 p2)
    · subst z
      cases p2
      rw [List.append_nil] at hr
      exact k _ hr _ G2 H2 e (show Rp K G2 _ (.tup _) from .tup s1 p1)
    · exact k _ hr _ (upd G2 p (.tup (xs ++ ys))) _ (e.trans (Ev.laid e2.sub np)) (show Rp K _ _ (.tup _) from .tup (.inl (.inl upd_same)) ((p1.append p2).mono (Ev.laid (o := .tup (xs ++ ys)) e2.sub np).gs))
end
section
variable {P : Program} {w : World} {K : PySem.W.Frag} {mg : Str → Option Value} {base : Heap}
theorem fnAt {k : Nat} {x qual : Str} {st : Stmt} {f : Addr} {fd : FuncData} {N ps : List Str} {fs : FSpec} (F : Fun K x qual st f fd) (S : FnScope N ps (defScope st)) (hr : Room (k + 1) callerA) (len : ∀ ds R Ex, fs ds R Ex → ds.length = ps.length)
    (hb : ∀ (cdv : Value) (s : Shared) (H : Hp) (E : XK), Room k (callerA.deeper (envOfC qual (defScope st) s.heap.objs.size f cdv)) →
      ∃ t, PSs (cxOf CX0 P w K mg base N qual (defScope st) f cdv callerA [] s H E).nox (defBody st) t ∧ ∀ ds R Ex, fs ds R Ex → tS K (fun c _ => Ex c) (fun _ => E) t (slots0 N ds) (endDE R)) : AtCaller P w K mg base f fd ps (spD K fs) :=
  at_of F S hr (fun vs H Q E ⟨G, ds, R, Ex, s, r, h, _⟩ => by rw [r.length]; exact len ds R Ex h) fun cdv s H vs Q E hr ⟨G, ds, R, Ex, sm, r, h, hq, hx⟩ => by
    obtain ⟨t, h1, h2⟩ := hb cdv s H E hr
    exact ⟨t, h1.nox, run_body sm r (h2 ds R Ex h) hq hx⟩
end
end Y
end

section
namespace Y
open PySem PySem.Spec PyProof.Rows L2
/-! ### a list of two lists of one's own, which are changed in place -/
/-- data that asks nothing of the lists at ps -/
def Fre (ps : List Addr) (d : D) : Prop := d.imm = true ∨ ∃ q ds, d = .pin q (.lst ds) ∧ immAll ds = true ∧ ¬ q ∈ ps
def FreS (ps : List Addr) : Slot → Prop
  | .emp => True
  | .val d => Fre ps d
  | .own ds => ∀ d ∈ ds, Fre ps d
def Pinned (ρ : List Slot) (q : Addr) : Prop := (∃ (j : Nat) (ds es : List D), ρ[j]? = some (Slot.own ds) ∧ D.pin q (D.lst es) ∈ ds) ∨ ∃ (j : Nat) (es : List D), ρ[j]? = some (Slot.val (.pin q (D.lst es)))
section
variable {K : PySem.W.Frag} {Ex : Value → List Slot → Prop} {E : L2.St → XK} {ρ : List Slot} {De : DE} {G0 H0 G : Hp} {σ : L2.St} {H : Hp}
theorem Rp.inv_pin {G : Hp} {v : V} {a : Addr} {d : D} (h : Rp K G v (.pin a d)) : v = .ref a ∧ Rp K G (.ref a) d := by
  cases h with
  | pin h => exact ⟨rfl, h⟩
theorem Rp.mem {G : Hp} : ∀ {vs : List V} {ds : List D} {d : D}, Rps K G vs ds → d ∈ ds → ∃ v, Rp K G v d
  | _, _, d, .nil, h => by cases h
  | _, _, d, .cons h r, m => by
    rcases List.mem_cons.mp m with rfl | m
    · exact ⟨_, h⟩
    · exact Rp.mem r m
theorem fre_rp {ps : List Addr} {G' G5 : Hp} (hl : ∀ p ∈ ps, ∃ xs, G' p = some (.lst xs)) (h5 : ∀ b, ¬ b ∈ ps → G5 b = G' b) {v : V} {d : D} (r : Rp K G' v d) (f : Fre ps d) : Rp K G5 v d := by
  have nl : ∀ b o, G' b = some o → (∀ xs, o ≠ .lst xs) → G5 b = some o := fun b o e n => by
    by_cases hb : b ∈ ps
    · obtain ⟨xs, h⟩ := hl b hb
      rw [e] at h
      exact absurd (Option.some.inj h) (n xs)
    · rw [h5 b hb]
      exact e
  rcases f with f | ⟨q, ds, rfl, im, nq⟩
  · exact Rp.imm nl r f
  · obtain ⟨rfl, r2⟩ := r.inv_pin
    obtain ⟨a, xs, e, g, rr⟩ := r2.inv_lst
    have e' := V.ref.inj e
    subst e'
    exact .pin (.lst (by rw [h5 _ nq]; exact g) (Rps.imm nl rr im))
theorem fre_rps {ps : List Addr} {G' G5 : Hp} (hl : ∀ p ∈ ps, ∃ xs, G' p = some (.lst xs)) (h5 : ∀ b, ¬ b ∈ ps → G5 b = G' b) : ∀ {vs : List V} {ds : List D}, Rps K G' vs ds → (∀ d ∈ ds, Fre ps d) → Rps K G5 vs ds
  | _, _, .nil, _ => .nil
  | _, _, .cons r rr, f => .cons (fre_rp hl h5 r (f _ (List.mem_cons_self ..))) (fre_rps hl h5 rr fun d hd => f d (List.mem_cons_of_mem _ hd))
theorem e_valPin {i : Nat} {a : Addr} {d : D} {R : Res → Prop} (hi : ρ[i]? = some (.val (.pin a d))) (h : R (.val d)) : tE K Ex E (tVar i) ρ R := fun G0 H0 G σ H Q S X k => by
  obtain ⟨v, h1, h2⟩ := S.val i _ hi
  obtain ⟨rfl, r⟩ := h2.inv_pin
  exact ⟨_, h1, k _ h _ G H (Ev.refl S.ev.sub) r⟩
theorem e_unpin {t : TE} {R : Res → Prop} (h : tE K Ex E t ρ fun r => ∃ a d, r = .val (.pin a d) ∧ R (.val d)) : tE K Ex E t ρ R := fun G0 H0 G σ H Q S X k =>
  h G0 H0 G σ H Q S X fun r ⟨a, d, e, hr⟩ v G' H' ev ok => by
    subst e
    obtain ⟨rfl, r⟩ := Rp.inv_pin (show Rp K G' v (.pin a d) from ok)
    exact k _ hr _ G' H' ev r
theorem s_pinVal {t : TS} {i : Nat} {ds : List D} (hi : ρ[i]? = some (.val (.lst ds))) (h : ∀ p, tS K Ex E t (ρ.set i (.val (.pin p (.lst ds)))) De) : tS K Ex E t ρ De := fun G0 H0 G σ H D S X k => by
  obtain ⟨v, h1, h2⟩ := S.val i _ hi
  obtain ⟨a, xs, rfl, g, rr⟩ := h2.inv_lst
  have S' := S.setVal (i := i) (v := .ref a) (d := .pin a (.lst ds)) (.pin (.lst g rr))
  have e : σ.set i (some (.ref a)) = σ := by
    obtain ⟨hl, hg⟩ := List.getElem?_eq_some_iff.mp h1
    rw [← hg, List.set_getElem_self]
  rw [e] at S'
  exact h a G0 H0 G σ H D S' X k
theorem s_pinOwn {t : TS} {i : Nat} {a b : List D} (hi : ρ[i]? = some (.own [.lst a, .lst b])) (h : ∀ p q, tS K Ex E t (ρ.set i (.own [.pin p (.lst a), .pin q (.lst b)])) De) : tS K Ex E t ρ De := fun G0 H0 G σ H D S X k => by
  obtain ⟨l, xs, h1, h2, h3, h4, h5⟩ := S.own i _ hi
  cases h5 with
  | cons ra r5 =>
    cases r5 with
    | cons rb r5 =>
      cases r5
      obtain ⟨p, xa, rfl, ga, rra⟩ := ra.inv_lst
      obtain ⟨q, xb, rfl, gb, rrb⟩ := rb.inv_lst
      have S' := S.chg hi h1 (ys := [.ref p, .ref q]) (es := [.pin p (.lst a), .pin q (.lst b)]) (.cons (.pin (.lst ga rra)) (.cons (.pin (.lst gb rrb)) .nil))
      have e : upd H l (.lst [.ref p, .ref q]) = H := by
        funext x
        by_cases hx : x = l
        · subst hx
          rw [upd_same, h4]
        · rw [upd_ne hx]
      rw [e] at S'
      exact h p q G0 H0 G σ H D S' X k
def strip : D → D
  | .pin _ d => d
  | d => d
theorem Rp.strip {G : Hp} {v : V} {d : D} (r : Rp K G v d) : Rp K G v (Y.strip d) := by
  cases r with
  | pin h => exact h
  | non => exact .non
  | bl b => exact .bl b
  | int i => exact .int i
  | str x => exact .str x
  | ty n => exact .ty n
  | cls C => exact .cls C
  | tup h r => exact .tup h r
  | lst h r => exact .lst h r
  | fz h r => exact .fz h r
  | exc h hd => exact .exc h hd
  | dk0 h => exact .dk0 h
theorem Rps.strip {G : Hp} : ∀ {vs : List V} {ds : List D}, Rps K G vs ds → Rps K G vs (ds.map Y.strip)
  | _, _, .nil => .nil
  | _, _, .cons h r => .cons h.strip (Rps.strip r)
/-- what is handed over may be pinned -/
theorem e_callU {f : FSpec} {t : TA} {R : Res → Prop} {dvs : List V} {dds : List D} (hd : ∀ G, Rps K G dvs dds) (h : tVs K Ex E t ρ fun ds => f (ds.map strip ++ dds) R fun _ => False) : tE K Ex E (tCall (spD K f) dvs E0 t) ρ R :=
  fun G0 H0 G σ H Q S X k => h G0 H0 G σ H _ S X fun ds hf vs G1 H1 e1 r1 =>
    ⟨G1, ds.map strip ++ dds, R, fun _ => False, e1.sub, r1.strip.append (hd G1), hf, fun r hr v G2 H2 e2 r2 => k r hr v G2 H2 (e1.trans e2) (r2.from fun l n => e1.hs.free n), fun c hc _ _ _ _ => hc.elim⟩
theorem s_stripVal {t : TS} {i : Nat} {d e : D} (hi : ρ[i]? = some (.val d)) (he : strip d = e) (h : tS K Ex E t (ρ.set i (.val e)) De) : tS K Ex E t ρ De := fun G0 H0 G σ H D S X k => by
  subst he
  obtain ⟨v, h1, h2⟩ := S.val i _ hi
  have S' := S.setVal (i := i) (v := v) (d := strip d) h2.strip
  have e : σ.set i (some v) = σ := by
    obtain ⟨hl, hg⟩ := List.getElem?_eq_some_iff.mp h1
    rw [← hg, List.set_getElem_self]
  rw [e] at S'
  exact h G0 H0 G σ H D S' X k
theorem s_unpinOwn {t : TS} {i : Nat} {ds es : List D} {ρ' : List Slot} (hi : ρ[i]? = some (.own ds)) (he : ds.map strip = es) (hs : SS ρ i (.own es) ρ') (h : tS K Ex E t ρ' De) : tS K Ex E t ρ De := fun G0 H0 G σ H D S X k => by
  rw [hs.eq] at h
  subst he
  obtain ⟨l, xs, h1, h2, h3, h4, h5⟩ := S.own i _ hi
  have S' := S.chg hi h1 (ys := xs) (es := ds.map strip) h5.strip
  have e : upd H l (.lst xs) = H := by
    funext x
    by_cases hx : x = l
    · subst hx
      rw [upd_same, h4]
    · rw [upd_ne hx]
  rw [e] at S'
  exact h G0 H0 G σ H D S' X k
def dropL (ρ : List Slot) : List Nat → List Slot
  | [] => ρ
  | i :: r => dropL (ρ.set i .emp) r
theorem Sig.dropL {G0 H0 G : Hp} {σ : L2.St} {H : Hp} : ∀ (r : List Nat) {ρ : List Slot}, Sig K G0 H0 G ρ σ H → Sig K G0 H0 G (Y.dropL ρ r) σ H
  | [], _, S => S
  | i :: r, _, S => Sig.dropL r (S.drop i)
/-- xs = [e0, e1]; block; xs[0].append(None); xs[1].clear(); rest -/
theorem s_nested {i : Nat} {t0 t1 : TE} {B u : TS} (hi : i < ρ.length)
    (h : tE K Ex E t0 ρ fun r0 => ∃ ds0, r0 = .own ds0 ∧ ds0.length < sizeLine ∧ tE K Ex E t1 ρ fun r1 => ∃ ds1, r1 = .own ds1 ∧
      ∀ l p0 p1 : Addr, (∀ q, Pinned ρ q → ¬ q ∈ [l, p0, p1]) →
        tS K Ex E B (ρ.set i (.val (.pin l (.lst [.lst ds0, .lst ds1])))) { nx := fun ρ1 => ∃ (r : List Nat) (ρ' : List Slot), dropL ρ1 r = ρ' ∧ (∃ d, ρ'[i]? = some (.val (.pin l d))) ∧ (∀ j s, i ≠ j → ρ'[j]? = some s → FreS [l, p0, p1] s) ∧ tS K Ex E u (ρ'.set i .emp) De, rt := fun _ => False }) :
    tS K Ex E (tSeq (tAsg (tLst (tCons t0 (tCons t1 tNil))) (gName i)) (tSeq B (tSeq (tDrop (tBM K "list" rAppend (tOp (rIx K) (tVar i) (tC (.int 0))) (tCons (tC .non) tNil)))
      (tSeq (tDrop (tBM0 K "list" rClear (tOp (rIx K) (tVar i) (tC (.int 1))))) u)))) ρ De := by
  intro G0 H0 G σ H D S X k
  refine h G0 H0 G σ H _ S X fun r0 ⟨ds0, e0, len0, h1⟩ v0 G1 H1 e1 r1 => ?_
  subst e0
  obtain ⟨p0, xs0, rfl, a1, a2, a3, a4⟩ := r1
  refine h1 G0 H0 G1 σ H1 _ (S.step e1) X fun r1 ⟨ds1, e1', hb⟩ v1 G2 H2 e2 r2 => ?_
  subst e1'
  obtain ⟨p1, xs1, rfl, b1, b2, b3, b4⟩ := r2
  refine ⟨Nat.le_of_ble_eq_true rfl, fun l nl => ?_⟩
  have S2 := (S.step e1).step e2
  have hp0 : H2 p0 = some (.lst xs0) := e2.hs _ _ a3
  have gp0 : G2 p0 = none := e2.new p0 xs0 a3 a2
  have gl : G2 l = none := e2.sub.free nl
  have n01 : p0 ≠ p1 := fun z => by
    rw [z, b1] at a3
    cases a3
  have nl0 : l ≠ p0 := fun z => by
    rw [z, hp0] at nl
    cases nl
  have nl1 : l ≠ p1 := fun z => by
    rw [z, b3] at nl
    cases nl
  have z0 : H0 p0 = none := S.ev.hs.free a1
  have z1 : H0 p1 = none := (S.step e1).ev.hs.free b1
  have zl : H0 l = none := S2.ev.hs.free nl
  obtain ⟨H3, eH3⟩ : ∃ H3, upd H2 l (.lst [.ref p0, .ref p1]) = H3 := ⟨_, rfl⟩
  obtain ⟨G3, eG3⟩ : ∃ G3, upd (upd (upd G2 p0 (.lst xs0)) p1 (.lst xs1)) l (.lst [.ref p0, .ref p1]) = G3 := ⟨_, rfl⟩
  have g3l : G3 l = some (.lst [.ref p0, .ref p1]) := by rw [← eG3, upd_same]
  have g31 : G3 p1 = some (.lst xs1) := by rw [← eG3, upd_ne nl1.symm, upd_same]
  have g30 : G3 p0 = some (.lst xs0) := by rw [← eG3, upd_ne nl0.symm, upd_ne n01, upd_same]
  have g3o : ∀ b, b ≠ l → b ≠ p0 → b ≠ p1 → G3 b = G2 b := fun b k1 k2 k3 => by rw [← eG3, upd_ne k1, upd_ne k3, upd_ne k2]
  have h3l : H3 l = some (.lst [.ref p0, .ref p1]) := by rw [← eH3, upd_same]
  have h3o : ∀ b, b ≠ l → H3 b = H2 b := fun b k1 => by rw [← eH3, upd_ne k1]
  have sG : Same G2 G3 := fun b o e => by
    rw [g3o b (ne_of_none e gl) (ne_of_none e gp0) (ne_of_none e b2)]
    exact e
  have sH : Same H2 H3 := fun b o e => by
    rw [h3o b (ne_of_none e nl)]
    exact e
  have sub3 : Same G3 H3 := fun b o e => by
    by_cases k1 : b = l
    · subst k1
      rw [g3l] at e
      rw [h3l]
      exact e
    · rw [h3o b k1]
      by_cases k2 : b = p0
      · subst k2
        rw [g30] at e
        rw [hp0]
        exact e
      · by_cases k3 : b = p1
        · subst k3
          rw [g31] at e
          rw [b3]
          exact e
        · rw [g3o b k1 k2 k3] at e
          exact e2.sub _ _ e
  have S3 : Sig K G0 H0 G3 ρ σ H3 := by
    refine ⟨⟨S2.ev.hs.trans sH, S2.ev.gs.trans sG, sub3, fun b xs e g => ?_⟩, S2.len, fun j d hj => ?_, fun j ds hj => ?_, S2.inj⟩
    · rw [g3o b (ne_of_none e zl) (ne_of_none e z0) (ne_of_none e z1)]
      exact S2.ev.new b xs e g
    · obtain ⟨v, k1, k2⟩ := S2.val j d hj
      exact ⟨v, k1, k2.mono sG⟩
    · obtain ⟨m, xs, k1, k2, k3, k4, k5⟩ := S.own j ds hj
      obtain ⟨m', xs', q1, q2, q3, q4, q5⟩ := S2.own j ds hj
      rw [k1] at q1
      have em := V.ref.inj (Option.some.inj (Option.some.inj q1))
      subst em
      refine ⟨m, xs', k1, q2, ?_, by rw [h3o m (ne_of_none q4 nl)]; exact q4, q5.mono sG⟩
      rw [g3o m (ne_of_none q4 nl) (ne_of_none k4 a1) (ne_of_none (e1.hs _ _ k4) b1)]
      exact q3
  have S4 := S3.setVal (i := i) (v := .ref l) (d := .pin l (.lst [.lst ds0, .lst ds1])) (.pin (.lst g3l (.cons (.lst g30 ((a4.mono e2.gs).mono sG)) (.cons (.lst g31 (b4.mono sG)) .nil))))
  obtain ⟨HR, SR, le⟩ := S4.root
  have pins : ∀ q, Pinned ρ q → ¬ q ∈ [l, p0, p1] := fun q hq hm => by
    have hs : ∃ xs, H q = some (.lst xs) := by
      rcases hq with ⟨j, ds, es, hj, hm⟩ | ⟨j, es, hj⟩
      · obtain ⟨m, xs, k1, k2, k3, k4, k5⟩ := S.own j ds hj
        obtain ⟨v, rv⟩ := Rp.mem k5 hm
        obtain ⟨_, rv⟩ := rv.inv_pin
        obtain ⟨a, ys, e, g, _⟩ := rv.inv_lst
        have e' := V.ref.inj e
        subst e'
        exact ⟨ys, S.ev.sub _ _ g⟩
      · obtain ⟨v, k1, rv⟩ := S.val j _ hj
        obtain ⟨_, rv⟩ := rv.inv_pin
        obtain ⟨a, ys, e, g, _⟩ := rv.inv_lst
        have e' := V.ref.inj e
        subst e'
        exact ⟨ys, S.ev.sub _ _ g⟩
    obtain ⟨xs, hs⟩ := hs
    simp only [List.mem_cons, List.not_mem_nil, or_false] at hm
    rcases hm with rfl | rfl | rfl
    · rw [e2.hs _ _ (e1.hs _ _ hs)] at nl
      cases nl
    · rw [hs] at a1
      cases a1
    · rw [e1.hs _ _ hs] at b1
      cases b1
  rw [eH3]
  refine hb l p0 p1 pins G3 HR G3 _ H3 _ SR (fun c ρ' hc G' σ' H' dx S' hd => X c ρ' hc G' σ' H' dx (S'.up S4.ev le) hd) ⟨fun ρ1 G' σ' H' ⟨dl, ρ', edl, ⟨d, hi'⟩, fr, hu⟩ S1' => ?_, fun _ _ _ _ z => z.elim, fun _ _ _ _ z => z.elim, fun _ _ _ _ z => z.elim⟩
  have S' := S1'.dropL dl
  rw [edl] at S'
  have U := S'.up S4.ev le
  have gl' : G' l = some (.lst [.ref p0, .ref p1]) := S'.ev.gs _ _ g3l
  have g0' : G' p0 = some (.lst xs0) := S'.ev.gs _ _ g30
  have g1' : G' p1 = some (.lst xs1) := S'.ev.gs _ _ g31
  have hl' := S'.ev.sub _ _ gl'
  have h0' := S'.ev.sub _ _ g0'
  have h1' := S'.ev.sub _ _ g1'
  obtain ⟨v, vi, vr⟩ := S'.val i _ hi'
  obtain ⟨rfl, _⟩ := vr.inv_pin
  refine ⟨_, vi, .inl ⟨l, [.ref p0, .ref p1], 0, .ref p0, rfl, rfl, .inl (.inl hl'), atI_nat (j := 0) rfl, ?_⟩⟩
  refine ⟨.inl ⟨rfl, xs0, .inl (.inl h0')⟩, p0, xs0, .non, rfl, rfl, h0', by rw [a4.length]; exact len0, ?_⟩
  have hl4 : upd H' p0 (.lst (xs0 ++ [.non])) l = some (.lst [.ref p0, .ref p1]) := by rw [upd_ne nl0]; exact hl'
  have h14 : upd H' p0 (.lst (xs0 ++ [.non])) p1 = some (.lst xs1) := by rw [upd_ne n01.symm]; exact h1'
  refine ⟨_, vi, .inl ⟨l, [.ref p0, .ref p1], 1, .ref p1, rfl, rfl, .inl (.inl hl4), atI_nat (j := 1) rfl, ?_⟩⟩
  refine ⟨.inl ⟨rfl, xs1, .inl (.inl h14)⟩, p1, xs1, rfl, rfl, h14, ?_⟩
  obtain ⟨H5, eH5⟩ : ∃ H5, upd (upd H' p0 (.lst (xs0 ++ [.non]))) p1 (.lst []) = H5 := ⟨_, rfl⟩
  have h5o : ∀ b, b ≠ p0 → b ≠ p1 → H5 b = H' b := fun b k1 k2 => by rw [← eH5, upd_ne k2, upd_ne k1]
  have G5 : ∃ G5 : Hp, (∀ b, ¬ b ∈ [l, p0, p1] → G5 b = G' b) ∧ (∀ b, b ∈ [l, p0, p1] → G5 b = none) := ⟨fun b => if b ∈ [l, p0, p1] then none else G' b, fun b hb => if_neg hb, fun b hb => if_pos hb⟩
  obtain ⟨G5, g5o, g5n⟩ := G5
  have mem3 : ∀ b, ¬ b ∈ [l, p0, p1] ↔ b ≠ l ∧ b ≠ p0 ∧ b ≠ p1 := fun b => by
    simp only [List.mem_cons, List.not_mem_nil, or_false, not_or, ne_eq]
  have lists : ∀ p ∈ [l, p0, p1], ∃ xs, G' p = some (.lst xs) := fun p hp => by
    simp only [List.mem_cons, List.not_mem_nil, or_false] at hp
    rcases hp with rfl | rfl | rfl
    · exact ⟨_, gl'⟩
    · exact ⟨_, g0'⟩
    · exact ⟨_, g1'⟩
  have nj : ∀ (m : Nat) (s : Slot), s ≠ .emp → (ρ'.set i .emp)[m]? = some s → i ≠ m ∧ ρ'[m]? = some s := fun m s hs hm => by
    by_cases z : i = m
    · subst z
      by_cases hlt : i < ρ'.length
      · rw [get_set_eq hlt] at hm
        exact absurd (Option.some.inj hm).symm hs
      · rw [List.getElem?_eq_none (by rw [List.length_set]; omega)] at hm
        cases hm
    · rw [get_set_ne z] at hm
      exact ⟨z, hm⟩
  have S5 : Sig K G0 H0 G5 (ρ'.set i .emp) σ' H5 := by
    refine ⟨⟨fun b o e => ?_, fun b o e => ?_, fun b o e => ?_, fun b xs e g => ?_⟩, by rw [List.length_set]; exact U.len, fun j d hj => ?_, fun j ds hj => ?_, fun j m ds es a hj hm q1 q2 => ?_⟩
    · rw [h5o b (ne_of_none e z0) (ne_of_none e z1)]
      exact U.ev.hs _ _ e
    · have e' := S2.ev.gs _ _ e
      rw [g5o b ((mem3 b).mpr ⟨ne_of_none e' gl, ne_of_none e' gp0, ne_of_none e' b2⟩)]
      exact U.ev.gs _ _ e
    · by_cases hb : b ∈ [l, p0, p1]
      · rw [g5n b hb] at e
        cases e
      · obtain ⟨k1, k2, k3⟩ := (mem3 b).mp hb
        rw [g5o b hb] at e
        rw [h5o b k2 k3]
        exact U.ev.sub _ _ e
    · by_cases hb : b ∈ [l, p0, p1]
      · exact g5n b hb
      · rw [g5o b hb]
        exact U.ev.new b xs e g
    · obtain ⟨nz, hj'⟩ := nj j (.val d) (fun z => nomatch z) hj
      obtain ⟨v, k1, k2⟩ := U.val j d hj'
      exact ⟨v, k1, fre_rp lists g5o k2 (fr j _ nz hj')⟩
    · obtain ⟨nz, hj'⟩ := nj j (.own ds) (fun z => nomatch z) hj
      obtain ⟨m, xs, k1, k2, k3, k4, k5⟩ := U.own j ds hj'
      have hb : ¬ m ∈ [l, p0, p1] := fun hm => by
        obtain ⟨ys, hy⟩ := lists m hm
        rw [hy] at k3
        cases k3
      obtain ⟨_, c2, c3⟩ := (mem3 m).mp hb
      exact ⟨m, xs, k1, k2, by rw [g5o m hb]; exact k3, by rw [h5o m c2 c3]; exact k4, fre_rps lists g5o k5 (fr j _ nz hj')⟩
    · obtain ⟨_, hj'⟩ := nj j (.own ds) (fun z => nomatch z) hj
      obtain ⟨_, hm'⟩ := nj m (.own es) (fun z => nomatch z) hm
      exact U.inj j m ds es a hj' hm' q1 q2
  show u _ σ' (upd (upd H' p0 (.lst (xs0 ++ [.non]))) p1 (.lst []))
  rw [eH5]
  exact hu G0 H0 G5 σ' H5 D S5 X k
theorem s_nested4 {i : Nat} {t0 t1 : TE} {b1 b2 b3 b4 u : TS} (hi : i < ρ.length)
    (h : tE K Ex E t0 ρ fun r0 => ∃ ds0, r0 = .own ds0 ∧ ds0.length < sizeLine ∧ tE K Ex E t1 ρ fun r1 => ∃ ds1, r1 = .own ds1 ∧
      ∀ l p0 p1 : Addr, (∀ q, Pinned ρ q → ¬ q ∈ [l, p0, p1]) →
        tS K Ex E (tSeq b1 (tSeq b2 (tSeq b3 b4))) (ρ.set i (.val (.pin l (.lst [.lst ds0, .lst ds1])))) { nx := fun ρ1 => ∃ (r : List Nat) (ρ' : List Slot), dropL ρ1 r = ρ' ∧ (∃ d, ρ'[i]? = some (.val (.pin l d))) ∧ (∀ j s, i ≠ j → ρ'[j]? = some s → FreS [l, p0, p1] s) ∧ tS K Ex E u (ρ'.set i .emp) De, rt := fun _ => False }) :
    tS K Ex E (tSeq (tAsg (tLst (tCons t0 (tCons t1 tNil))) (gName i)) (tSeq b1 (tSeq b2 (tSeq b3 (tSeq b4 (tSeq (tDrop (tBM K "list" rAppend (tOp (rIx K) (tVar i) (tC (.int 0))) (tCons (tC .non) tNil)))
      (tSeq (tDrop (tBM0 K "list" rClear (tOp (rIx K) (tVar i) (tC (.int 1))))) u))))))) ρ De := s_nested hi h
theorem pg_tupK {X : Cx} {K : PySem.W.Frag} {pos : Pos} {es : List Expr} {k n : Nat} {t : TGs} (hc : X.calm = true) (h : PGs X es t) (hn : (assignEach es X.env).length = n := by rfl) (hf : List.findIdx? (fun x => x.fst) (assignEach es X.env) = none := by rfl) (hK : X.K = K := by rfl) : PG X (.Tuple es k pos) (gTup K n t) := by
  subst hK
  exact pg_tup hc h hn hf
end
end Y
end

section
namespace Y
open PySem PySem.Spec PyProof.Rows L2
section
variable {K : PySem.W.Frag} {Ex : Value → List Slot → Prop} {E : L2.St → XK} {ρ : List Slot} {R : Res → Prop} {ta tb : TE}
abbrev rMin2 : List V → Hp → VK → Prop := fun xs H Q => ∃ i j, xs = [.int i, .int j] ∧ Q (.int (if j < i then j else i)) H
theorem e_min2 (h : tE K Ex E ta ρ fun a => tE K Ex E tb ρ fun b => ∃ i j, a.dat = .int i ∧ b.dat = .int j ∧ R (.val (.int (min i j)))) : tE K Ex E (tCB rMin2 (tCons ta (tCons tb tNil))) ρ R :=
  e_cb (f := fun ds k => ∃ i j, ds = [.int i, .int j] ∧ k (.int (min i j))) (fun H vs ds Q k r ⟨i, j, e, hk⟩ hq => by
    subst e
    cases r with
    | cons r1 r =>
      cases r with
      | cons r2 r =>
        cases r
        refine ⟨i, j, by rw [r1.inv_int, r2.inv_int], ?_⟩
        have e : (if j < i then j else i) = min i j := by
          split <;> omega
        rw [e]
        exact hq _ _ hk sc_int) (a_cons (h.imp fun r hr => a_cons (hr.imp fun r2 ⟨i, j, h1, h2, h3⟩ => a_nil ⟨i, j, by rw [List.map, List.map, List.map, h1, h2], h3⟩)))
theorem call_sumK {X : Cx} {K : PySem.W.Frag} (hc : X.calm = true) (hK : X.K = K := by rfl) : CallR X (.builtin "sum") (rSum K) := by subst hK; exact cr_sum hc
theorem rps_int : ∀ {vs : List V} {ns : List Int} {G : Hp}, Rps K G vs (ns.map D.int) → vs = ns.map V.int
  | _, [], _, .nil => rfl
  | _, n :: ns, _, .cons h r => by
    rw [List.map_cons, h.inv_int, rps_int r]
theorem e_sum (h : tE K Ex E ta ρ fun a => ∃ ns : List Int, a.dat = .lst (ns.map D.int) ∧ R (.val (.int ns.sum))) : tE K Ex E (tCB (rSum K) (tCons ta tNil)) ρ R :=
  fun G0 H0 G σ H Q S X k => h G0 H0 G σ H _ S X fun a ⟨ns, ea, hr⟩ v G1 H1 e1 r1 => by
    have q := r1.rd e1.sub
    rw [ea] at q
    obtain ⟨p, xs, rfl, hp, rr⟩ := q.inv_lst
    have ex := rps_int rr
    subst ex
    exact ⟨p, ns, rfl, .inl (.inl hp), k _ hr _ G1 H1 e1 (.int _)⟩
/-- a tuple that stands at the top -/
theorem e_c01 {a : Addr} {i j : Int} (q : ∀ G, SqT K G a [.int i, .int j]) (h : R (.val (.tup [.int i, .int j]))) : tE K Ex E (tC (.ref a)) ρ R :=
  fun G0 H0 G σ H Q S X k => k (.val (.tup [.int i, .int j])) h (.ref a) G H (Ev.refl S.ev.sub) (.tup (q G) (.cons (.int i) (.cons (.int j) .nil)))
def rCntB (K : PySem.W.Frag) : V → List V → Hp → VK → Prop := fun x xs H Q => ∃ (bs : List Bool) (k : Bool), Rp K H x (.lst (bs.map D.bl)) ∧ xs = [.bl k] ∧ Q (.int ((bs.count k : Nat) : Int)) H
theorem countIn_bools (k : Bool) : ∀ bs : List Bool, countIn (.bool k) (pyAll (bs.map D.bl)) = ((bs.count k : Nat) : Int)
  | [] => rfl
  | b :: bs => by
    have ih := countIn_bools k bs
    rw [List.map_cons, pyAll, List.count_cons]
    show (if same (PyData.bool b) (PyData.bool k) = true then 1 else 0) + countIn (.bool k) (pyAll (bs.map D.bl)) = _
    rw [ih]
    have e : same (PyData.bool b) (PyData.bool k) = (b == k) := by cases b <;> cases k <;> rfl
    rw [e]
    cases b == k
    · show (0 : Int) + _ = _
      simp
    · show (1 : Int) + _ = _
      simp
      omega
theorem all_bools : ∀ bs : List Bool, (pyAll (bs.map D.bl)).all Shape.bool.has = true
  | [] => rfl
  | b :: bs => all_bools bs
theorem plain_bls : ∀ l : List Bool, plainAll (l.map D.bl) = true
  | [] => rfl
  | s :: l => plain_bls l
theorem mt_lcountB {X : Cx} : MtR X "list.count" (rCntB X.K) := by
  intro pins s σ H x xs v us Q I rx r ⟨bs, k, rp, e2, q⟩
  subst e2
  obtain ⟨u, rfl, ru⟩ := vals1 r
  obtain ⟨as, rd⟩ := Dp.reads I _ x v (rp.dp (by rw [D.plain]; exact plain_bls bs)) rx
  have eu : u = .bool k := ru
  subst eu
  rw [D.py] at rd
  cases rd with
  | list h1 h2 h3 h4 =>
    refine PyProof.Rows.count_list_bools (l := _) ⟨_, h1, h2, _, h3⟩ h4 (all_bools bs) ?_
    rw [countIn_bools]
    exact ⟨.int _, H, I.kept fun _ _ z => z, ⟨_, rfl⟩, q⟩
theorem e_index {to : TE} (h : tE K Ex E to ρ fun a => ∃ bs : List Bool, a.dat = .lst (bs.map D.bl) ∧ tE K Ex E tb ρ fun b => ∃ j : Nat, b.dat = .bl true ∧ bs[j]? = some true ∧ (∀ m, m < j → bs[m]? = some false) ∧ R (.val (.int (j : Int)))) :
    tE K Ex E (tBM K "list" (rIndex K) to (tCons tb tNil)) ρ R := fun G0 H0 G σ H Q S X k =>
  h G0 H0 G σ H _ S X fun a ⟨bs, ea, hb⟩ v G1 H1 e1 r1 => by
    have q := r1.rd e1.sub
    rw [ea] at q
    obtain ⟨p, xs, rfl, hp, rr⟩ := q.inv_lst
    have ex := rps_bl rr
    subst ex
    refine ⟨.inl ⟨rfl, _, .inl (.inl hp)⟩, hb G0 H0 G1 σ H1 _ (S.step e1) X fun b ⟨j, eb, hj, hm, hr⟩ u G2 H2 e2 r2 => ?_⟩
    have q2 := r2.rd e2.sub
    rw [eb] at q2
    rw [q2.inv_bl]
    refine ⟨p, bs.map V.bl, .bl true, j, .bl true, rfl, rfl, .inl (.inl (e2.hs _ _ hp)), rfl, ?_, by rw [List.getElem?_map, hj]; rfl, rfl, fun m z hm' hz => ?_, k _ hr _ G2 H2 (e1.trans e2) (.int _)⟩
    · rw [List.all_eq_true]
      intro x hx
      obtain ⟨b, _, rfl⟩ := List.mem_map.mp hx
      rfl
    · rw [List.getElem?_map, hm m hm'] at hz
      have z' := Option.some.inj hz
      subst z'
      rfl
theorem e_count {to : TE} (h : tE K Ex E to ρ fun a => ∃ bs : List Bool, a.dat = .lst (bs.map D.bl) ∧ tE K Ex E tb ρ fun b => ∃ k : Bool, b.dat = .bl k ∧ R (.val (.int ((bs.count k : Nat) : Int)))) :
    tE K Ex E (tBM K "list" (rCntB K) to (tCons tb tNil)) ρ R := fun G0 H0 G σ H Q S X k =>
  h G0 H0 G σ H _ S X fun a ⟨bs, ea, hb⟩ v G1 H1 e1 r1 => by
    have q := r1.rd e1.sub
    rw [ea] at q
    obtain ⟨p, xs, rfl, hp, rr⟩ := q.inv_lst
    refine ⟨.inl ⟨rfl, _, .inl (.inl hp)⟩, hb G0 H0 G1 σ H1 _ (S.step e1) X fun b ⟨j, eb, hr⟩ u G2 H2 e2 r2 => ?_⟩
    have q2 := r2.rd e2.sub
    rw [eb] at q2
    rw [q2.inv_bl]
    exact ⟨bs, j, .lst (e2.hs _ _ hp) (rr.mono e2.hs), rfl, k _ hr _ G2 H2 (e1.trans e2) (.int _)⟩
theorem sl_tAK {X : Cx} {K : PySem.W.Frag} (hK : X.K = K := by rfl) : SlR X (rSlA K) := by subst hK; exact sl_tupA
theorem e_slT {tl th : TO} (h : tE K Ex E ta ρ fun a => tOo K Ex E tl ρ fun lo => tOo K Ex E th ρ fun hi => ∃ ds, a.dat = .tup ds ∧ R (.val (.tup (cutD ds lo hi)))) : tE K Ex E (tSl (rSlA K) ta tl th) ρ R :=
  fun G0 H0 G σ H Q S X k => h G0 H0 G σ H _ S X fun a ha v G1 H1 e1 r1 => ha G0 H0 G1 σ H1 _ (S.step e1) X fun lo hlo G2 H2 e2 => hlo G0 H0 G2 σ H2 _ ((S.step e1).step e2) X fun hi ⟨ds, ea, hr⟩ G3 H3 e3 => by
    have e := (e1.trans e2).trans e3
    have r1 := (r1.step e2).step e3
    cases a with
    | own _ => cases ea
    | bor _ => cases ea
    | val d =>
      have ed : d = .tup ds := ea
      subst ed
      obtain ⟨p, xs, rfl, hp, rr⟩ := Rp.inv_tup (show Rp K G3 v (.tup ds) from r1)
      refine ⟨p, xs, rfl, same_seqT e3.sub hp, fun ⟨w1, w2⟩ => ?_, fun _ np0 nn => ?_⟩
      · refine k _ hr _ G3 H3 e ?_
        have z : cutD ds lo hi = ds := by
          unfold cutD
          rw [← rr.length, w1, w2, List.drop_zero, Nat.sub_zero, rr.length, List.take_length]
        rw [z]
        exact .tup hp rr
      · exact k _ hr _ (upd G3 np0 _) _ (e.trans (Ev.laid e3.sub nn)) (.tup (.inl (.inl upd_same)) ((rr.cut lo hi).mono (Ev.laid e3.sub nn).gs))
end
end Y
end

section
namespace Sh
open PySem PySem.Spec PyProof.Rows L2 Y
abbrev fs_none : FSpec := fun _ _ _ => False
def isWholeD : D → Bool
  | .int _ => true
  | _ => false
abbrev fs_is_whole : FSpec := fun ds R _ => ∃ d, ds = [d] ∧ (tyD d).isSome = true ∧ R (.val (.bl (isWholeD d)))
theorem whole_of {x : D} (h : isWholeD x = true) : ∃ a, x = .int a := by
  cases x <;> first | exact ⟨_, rfl⟩ | cases h
abbrev Q2 := Int × Int
abbrev pt (a b : Int) : D := .tup [.int a, .int b]
def toQ (p : Q2) : D := pt p.1 p.2
def ng (a b : Int) : Int := ((Nat.gcd a.natAbs b.natAbs : Nat) : Int)
def low (a b : Int) : Q2 := (a / ng a b, b / ng a b)
theorem ng_pos {a b : Int} (hb : b ≠ 0) : 0 < ng a b := by
  unfold ng
  have h1 : 0 < Nat.gcd a.natAbs b.natAbs := Nat.gcd_pos_of_pos_right _ (by omega)
  omega
theorem ng_le {a b : Int} (hb : b ≠ 0) : ng a b ≤ (b.natAbs : Int) := by
  unfold ng
  have h2 : Nat.gcd a.natAbs b.natAbs ≤ b.natAbs := Nat.le_of_dvd (by omega) (Nat.gcd_dvd_right _ _)
  omega
/-- in lowest terms -/
theorem low_spec {t u : Int} (hu : 0 < u) : ∃ G : Int, 0 < G ∧ t = G * (low t u).1 ∧ u = G * (low t u).2 ∧ 0 < (low t u).2 ∧ Nat.gcd (low t u).1.natAbs (low t u).2.natAbs = 1 ∧ (low t u).1.natAbs ≤ t.natAbs ∧ (low t u).2.natAbs ≤ u.natAbs := by
  have g0 := ng_pos (a := t) (b := u) (by omega)
  obtain ⟨a, ha⟩ : ng t u ∣ t := by
    unfold ng
    exact Int.ofNat_dvd_left.mpr (Nat.gcd_dvd_left _ _)
  obtain ⟨b, hb⟩ : ng t u ∣ u := by
    unfold ng
    exact Int.ofNat_dvd_left.mpr (Nat.gcd_dvd_right _ _)
  have e1 : t / ng t u = a := by
    conv => lhs; lhs; rw [ha]
    exact Int.mul_ediv_cancel_left _ (by omega)
  have e2 : u / ng t u = b := by
    conv => lhs; lhs; rw [hb]
    exact Int.mul_ediv_cancel_left _ (by omega)
  have b0 : 0 < b := by
    rw [← e2]
    exact Int.ediv_pos_of_pos_of_dvd hu (by omega) ⟨b, hb⟩
  have na : t.natAbs = (ng t u).natAbs * a.natAbs := by rw [← Int.natAbs_mul, ← ha]
  have nb : u.natAbs = (ng t u).natAbs * b.natAbs := by rw [← Int.natAbs_mul, ← hb]
  have ngn : (ng t u).natAbs = Nat.gcd t.natAbs u.natAbs := by
    unfold ng
    omega
  have gp : 0 < (ng t u).natAbs := by omega
  have el : low t u = (a, b) := by
    unfold low
    rw [e1, e2]
  rw [el]
  refine ⟨ng t u, g0, ha, hb, b0, ?_, ?_, ?_⟩
  · show Nat.gcd a.natAbs b.natAbs = 1
    have z : Nat.gcd t.natAbs u.natAbs = (ng t u).natAbs * Nat.gcd a.natAbs b.natAbs := by
      rw [← Nat.gcd_mul_left, ← na, ← nb]
    rw [← ngn] at z
    exact Nat.eq_of_mul_eq_mul_left gp (by omega)
  · show a.natAbs ≤ t.natAbs
    rw [na]
    exact Nat.le_mul_of_pos_left _ gp
  · show b.natAbs ≤ u.natAbs
    rw [nb]
    exact Nat.le_mul_of_pos_left _ gp
theorem low_pos {t u : Int} (hu : 0 < u) : 0 < (low t u).2 := (low_spec (t := t) hu).choose_spec.2.2.2.1
theorem low_sm {t u : Int} {n : Nat} (hu : 0 < u) (st : Sm n t) (su : Sm n u) : Sm n (low t u).1 ∧ Sm n (low t u).2 := by
  obtain ⟨_, _, _, _, _, _, h1, h2⟩ := low_spec (t := t) hu
  exact ⟨Nat.lt_of_le_of_lt h1 st, Nat.lt_of_le_of_lt h2 su⟩
theorem low_one (a : Int) : low a 1 = (a, 1) := by
  have e : ng a 1 = 1 := by
    unfold ng
    rw [show (1 : Int).natAbs = 1 from rfl, Nat.gcd_one_right]
    rfl
  unfold low
  rw [e, Int.ediv_one, Int.ediv_one]
def addQ (p q : Q2) : Q2 := low (p.1 * q.2 + q.1 * p.2) (p.2 * q.2)
def mulQ (p q : Q2) : Q2 := low (p.1 * q.1) (p.2 * q.2)
def ltQ (p q : Q2) : Prop := p.1 * q.2 < q.1 * p.2
instance {p q : Q2} : Decidable (ltQ p q) := by unfold ltQ; infer_instance
/-- a part that is not too great -/
structure Pt (n : Nat) (p : Q2) : Prop where
  pos : 0 < p.2
  s1 : Sm n p.1
  s2 : Sm n p.2
theorem Pt.up {n m : Nat} {p : Q2} (h : Pt n p) (k : n ≤ m) : Pt m p := ⟨h.pos, Sm.le h.s1 k, Sm.le h.s2 k⟩
theorem add_pt {p q : Q2} {n m : Nat} (hp : Pt n p) (hq : Pt m q) : Pt (n + m + 1) (addQ p q) := by
  have u : 0 < p.2 * q.2 := Int.mul_pos hp.pos hq.pos
  have s := low_sm u (Sm.add (Sm.mul hp.s1 hq.s2) (Sm.le (Sm.mul hq.s1 hp.s2) (by omega))) (Sm.le (Sm.mul hp.s2 hq.s2) (show n + m ≤ n + m + 1 by omega))
  exact ⟨low_pos u, s.1, s.2⟩
theorem mul_pt {p q : Q2} {n m : Nat} (hp : Pt n p) (hq : Pt m q) : Pt (n + m) (mulQ p q) := by
  have u : 0 < p.2 * q.2 := Int.mul_pos hp.pos hq.pos
  have s := low_sm u (Sm.mul hp.s1 hq.s1) (Sm.mul hp.s2 hq.s2)
  exact ⟨low_pos u, s.1, s.2⟩
theorem int_pt {a : Int} {n : Nat} (h : Sm n a) (hn : 1 ≤ n) : Pt n (a, 1) := ⟨show (0 : Int) < 1 by decide, h, by
  have : (2 : Nat) ^ 1 ≤ 2 ^ n := Nat.pow_le_pow_right (by decide) hn
  show (1 : Int).natAbs < 2 ^ n
  have e : (1 : Int).natAbs = 1 := rfl
  omega⟩
abbrev fs_reduced : FSpec := fun ds R Ex => ∃ a b : Int, ds = [.int a, .int b] ∧ Sm 900 b ∧ 0 < b ∧ R (.val (toQ (low a b)))
abbrev fs_part_of (C : Addr) : FSpec := fun ds R Ex => ∃ a b : Int, ds = [.int a, .int b] ∧ Sm 900 b ∧ 0 < b ∧ R (.val (toQ (low a b)))
abbrev fs_op2 (f : Q2 → Q2 → Q2) : FSpec := fun ds R _ => ∃ p q : Q2, ds = [toQ p, toQ q] ∧ Pt 400 p ∧ Pt 400 q ∧ R (.val (toQ (f p q)))
abbrev fs_is_more : FSpec := fun ds R _ => ∃ p q : Q2, ds = [toQ p, toQ q] ∧ Pt 400 p ∧ Pt 400 q ∧ R (.val (.bl (decide (ltQ q p))))
def lesQ (p q : Q2) : Q2 := if ltQ q p then q else p
def greQ (p q : Q2) : Q2 := if ltQ p q then q else p
/-! ### items -/
def isSizeD : D → Bool
  | .int n => decide (0 ≤ n) && decide (n ≤ 1000)
  | _ => false
def isWeightD : D → Bool
  | .int n => decide (0 ≤ n) && decide (n ≤ 20)
  | _ => false
def leI : D → D → Bool
  | .int x, .int y => decide (x ≤ y)
  | _, _ => false
def sizesL (a b c d e : D) : Bool := isSizeD a && (isSizeD b && (isWeightD d && (isWeightD e && (leI b a && (isNon c || (isSizeD c && leI a c))))))
def isItemD : D → Bool
  | .tup [a, b, c, d, e] => sizesL a b c d e
  | _ => false
def okI : D → Bool
  | .tup xs => xs.all fun x => (tyD x).isSome
  | d => (tyD d).isSome
def isItemsD : D → Bool
  | .lst xs => xs.all isItemD
  | _ => false
def okIs : D → Bool
  | .lst xs => xs.all okI && decide (xs.length ≤ 1000)
  | _ => false
abbrev fs_is_size : FSpec := fun ds R _ => ∃ d, ds = [d] ∧ (tyD d).isSome = true ∧ R (.val (.bl (isSizeD d)))
abbrev fs_is_weight : FSpec := fun ds R _ => ∃ d, ds = [d] ∧ (tyD d).isSome = true ∧ R (.val (.bl (isWeightD d)))
abbrev fs_is_sizes : FSpec := fun ds R _ => ∃ d, ds = [d] ∧ okI d = true ∧ R (.val (.bl (isItemD d)))
abbrev fs_look_at (C : Addr) : FSpec := fun ds R Ex => ∃ d, ds = [d] ∧ okIs d = true ∧ ((isItemsD d = false ∧ False ∧ Ex (.ref C)) ∨ (isItemsD d = true ∧ R (.val .non)))
/-- an item -/
structure It where
  w : Int
  l : Int
  m : Option Int
  g : Int
  s : Int
def mD : Option Int → D
  | none => .non
  | some k => .int k
def itD (i : It) : D := .tup [.int i.w, .int i.l, mD i.m, .int i.g, .int i.s]
structure ItOk (i : It) : Prop where
  l0 : 0 ≤ i.l
  lw : i.l ≤ i.w
  w1 : i.w ≤ 1000
  m0 : ∀ k, i.m = some k → i.w ≤ k ∧ k ≤ 1000
  g0 : 0 ≤ i.g
  g1 : i.g ≤ 20
  s0 : 0 ≤ i.s
  s1 : i.s ≤ 20
theorem it_ok {i : It} (h : ItOk i) : isItemD (itD i) = true ∧ okI (itD i) = true := by
  obtain ⟨w, l, m, g, s⟩ := i
  obtain ⟨l0, lw, w1, m0, g0, g1, s0, s1⟩ := h
  simp only at l0 lw w1 m0 g0 g1 s0 s1
  refine ⟨?_, by cases m <;> rfl⟩
  show ((decide (0 ≤ w) && decide (w ≤ 1000)) && ((decide (0 ≤ l) && decide (l ≤ 1000)) && ((decide (0 ≤ g) && decide (g ≤ 20)) && ((decide (0 ≤ s) && decide (s ≤ 20)) && (decide (l ≤ w) && (isNon (mD m) || (isSizeD (mD m) && leI (.int w) (mD m)))))))) = true
  have e : (isNon (mD m) || (isSizeD (mD m) && leI (.int w) (mD m))) = true := by
    cases m with
    | none => rfl
    | some k =>
      have := m0 k rfl
      show (false || ((decide (0 ≤ k) && decide (k ≤ 1000)) && decide (w ≤ k))) = true
      rw [decide_eq_true (by omega), decide_eq_true (by omega), decide_eq_true (by omega)]
      rfl
  rw [e, decide_eq_true (by omega), decide_eq_true (by omega), decide_eq_true (by omega), decide_eq_true (by omega), decide_eq_true (by omega), decide_eq_true (by omega), decide_eq_true (by omega), decide_eq_true (by omega), decide_eq_true (by omega)]
  rfl
def wideQ (i : It) (t : Q2) : Q2 :=
  if t.1 < 0 then (if ltQ (addQ (i.w, 1) (mulQ t (i.s, 1))) (i.l, 1) then (i.l, 1) else addQ (i.w, 1) (mulQ t (i.s, 1)))
  else (match i.m with
    | none => addQ (i.w, 1) (mulQ t (i.g, 1))
    | some k => if ltQ (k, 1) (addQ (i.w, 1) (mulQ t (i.g, 1))) then (k, 1) else addQ (i.w, 1) (mulQ t (i.g, 1)))
abbrev fs_width_at (C : Addr) : FSpec := fun ds R Ex => (∃ d e, ds = [d, e] ∧ okI d = true ∧ isItemD d = false ∧ False ∧ Ex (.ref C)) ∨ (∃ (i : It) (t : Q2), ds = [itD i, toQ t] ∧ ItOk i ∧ Pt 100 t ∧ R (.val (toQ (wideQ i t))))
abbrev fs_shared (C : Addr) : FSpec := fun ds R Ex => ∃ d e, ds = [d, e] ∧ okIs d = true ∧ isItemsD d = false ∧ Ex (.ref C)
abbrev fs_is_shared (C : Addr) : FSpec := fun ds R Ex => ∃ d e f, ds = [d, e, f] ∧ okIs d = true ∧ isItemsD d = false ∧ Ex (.ref C)
/-! ### the law's own -/
abbrev fs_cell_at : FSpec := fun ds R _ => ∃ (ns : List Int) (k : Int), ds = [.fz (ns.map D.int), .int k] ∧ 0 ≤ k ∧ R (.val (.int (ns.getD k.toNat 0)))
abbrev fs_mixed : FSpec := fun ds R _ => ∃ (ns : List Int) (s m : Nat), ds = [.fz (ns.map D.int), .int s, .int m] ∧ ns.length ≤ 63 ∧ s ≤ 1000 ∧ m ≤ 100 ∧ ∀ rows : List Int, rows.length = m → (∀ x ∈ rows, 0 ≤ x) → R (.own (rows.map D.int))
abbrev fs_law_part : FSpec := fun ds R _ => ∃ a b : Int, ds = [.int a, .int b] ∧ 0 < b ∧ Sm 900 b ∧ R (.val (toQ (low a b)))
abbrev fs_law_sizes : FSpec := fun ds R _ => ∃ c : Int, ds = [.int c] ∧ 0 ≤ c ∧ ∀ i, ItOk i → R (.val (itD i))
abbrev fs_law_wide : FSpec := fun ds R _ => ∃ (i : It) (t : Q2), ds = [itD i, toQ t] ∧ ItOk i ∧ Pt 100 t ∧ R (.val (toQ (wideQ i t)))
abbrev fs_law_none : FSpec := fun ds R _ => ∃ (i : It) (n : Int), ds = [itD i, .int n] ∧ ItOk i ∧ 0 ≤ n ∧ ∀ d, isItemD d = false → okI d = true → R (.val d)
abbrev fs_law_alone (C : Addr) : FSpec := fun ds R _ => ds = [.exc C] ∧ R (.val (.bl true))
abbrev fs_law_refused : FSpec := fun ds R _ => ∃ (d : D) (i : It) (way turn : Int), ds = [d, itD i, .int way, .int turn] ∧ isItemD d = false ∧ okI d = true ∧ ItOk i ∧ (0 ≤ turn ∧ turn < 2) ∧ R (.val (.bl true))
abbrev fs_law : FSpec := fun ds R _ => ∃ ns : List Int, ds = [.fz (ns.map D.int)] ∧ ns.length ≤ 63 ∧ R (.val (.bl true))
/-- what isinstance tells of an error of the class at C, the one that is called x -/
structure KitX (K : PySem.W.Frag) (C : Addr) (x : Str) (c0 c1 c2 c3 c4 c5 c6 c7 c8 c9 : Addr) : Prop where
  e : ExcC K C
  ve : PySem.W.kitOne K (.ref C) (.type "ValueError") = some true
  k0 : PySem.W.kitOne K (.ref C) (.ref c0) = some (decide (("NoPart" : Str) = x))
  k1 : PySem.W.kitOne K (.ref C) (.ref c1) = some (decide (("NoSpan" : Str) = x))
  k2 : PySem.W.kitOne K (.ref C) (.ref c2) = some (decide (("NoBox" : Str) = x))
  k3 : PySem.W.kitOne K (.ref C) (.ref c3) = some (decide (("NoText" : Str) = x))
  k4 : PySem.W.kitOne K (.ref C) (.ref c4) = some (decide (("NoItem" : Str) = x))
  k5 : PySem.W.kitOne K (.ref C) (.ref c5) = some (decide (("NoName" : Str) = x))
  k6 : PySem.W.kitOne K (.ref C) (.ref c6) = some (decide (("NoWish" : Str) = x))
  k7 : PySem.W.kitOne K (.ref C) (.ref c7) = some (decide (("NoChange" : Str) = x))
  k8 : PySem.W.kitOne K (.ref C) (.ref c8) = some (decide (("NoRow" : Str) = x))
  k9 : PySem.W.kitOne K (.ref C) (.ref c9) = some (decide (("TooMany" : Str) = x))
def noneL (i : It) : List D :=
  [D.non, D.lst [D.int i.w, D.int i.l, mD i.m, D.int i.g, D.int i.s], D.tup ([D.int i.w, D.int i.l, mD i.m, D.int i.g, D.int i.s] ++ [D.int 0]),
    D.tup (Y.cutD [D.int i.w, D.int i.l, mD i.m, D.int i.g, D.int i.s] none (some 4)), D.tup [D.int (-1), D.int (-1), D.non, D.int 0, D.int 0]] ++
  [D.tup [D.int 1001, D.int 0, D.non, D.int 0, D.int 0], D.tup [D.int 5, D.int 6, D.non, D.int 0, D.int 0], D.tup [D.int 5, D.int 0, D.int 4, D.int 0, D.int 0], D.tup [D.int 5, D.int 0, D.int 1001, D.int 0, D.int 0]] ++
  [D.tup [D.int i.w, D.int i.l, mD i.m, D.int 21, D.int i.s], D.tup [D.int i.w, D.int i.l, mD i.m, D.int i.g, D.int (-1)], D.dk0, D.lst []] ++
  [D.tup [D.int i.w, D.int i.l, mD i.m, D.int (-1), D.int i.s]] ++
  [D.tup [D.int i.w, D.int i.l, mD i.m, D.int i.g, D.int 21], D.tup [D.int i.w, D.int i.l, D.lst [D.int 9], D.int i.g, D.int i.s]] ++
  [D.tup [D.bl true, D.int 0, D.non, D.int 0, D.int 0], D.tup [D.int 5, D.bl false, D.non, D.int 0, D.int 0], D.tup [D.int 5, D.int 0, D.non, D.bl true, D.int 0], D.tup [D.int 5, D.int 0, D.bl true, D.int 0, D.int 0]] ++
  [D.tup [D.str (Str.ofString "5"), D.int 0, D.non, D.int 0, D.int 0], D.tup [D.int 5, D.non, D.non, D.int 0, D.int 0], D.tup [D.int 5, D.int 0, D.non, D.int 0, D.non], D.tup [D.int 5, D.int 0, D.str (Str.ofString "9"), D.int 0, D.int 0], D.tup []]
theorem mD_ty (m : Option Int) : (tyD (mD m)).isSome = true := by cases m <;> rfl
theorem ok5 (a b c e f : D) : (tyD a).isSome = true → (tyD b).isSome = true → (tyD c).isSome = true → (tyD e).isSome = true → (tyD f).isSome = true → okI (.tup [a, b, c, e, f]) = true := fun h1 h2 h3 h4 h5 => by
  show ((tyD a).isSome && ((tyD b).isSome && ((tyD c).isSome && ((tyD e).isSome && ((tyD f).isSome && true))))) = true
  rw [h1, h2, h3, h4, h5]
  rfl
theorem noneL_no (i : It) : ∀ d ∈ noneL i, isItemD d = false ∧ okI d = true := by
  obtain ⟨w, l, m, g, s⟩ := i
  have tm := mD_ty m
  intro d hd
  unfold noneL at hd
  simp only [List.mem_append, List.mem_cons, List.not_mem_nil, or_false] at hd
  have wrong : ∀ a b c e f : D, (isWeightD e = false ∨ isWeightD f = false ∨ (isNon c = false ∧ isSizeD c = false)) → isItemD (.tup [a, b, c, e, f]) = false := fun a b c e f h => by
    show sizesL a b c e f = false
    unfold sizesL
    rcases h with h | h | ⟨h1, h2⟩
    · rw [h]
      simp
    · rw [h]
      simp
    · rw [h1, h2]
      simp
  rcases hd with (((((((((rfl | rfl | rfl | rfl | rfl) | rfl | rfl | rfl | rfl) | rfl | rfl | rfl | rfl) | rfl) | rfl | rfl) | rfl | rfl | rfl | rfl) | rfl | rfl | rfl | rfl | rfl))) <;> first
    | exact ⟨rfl, rfl⟩
    | exact ⟨by decide, by decide⟩
    | exact ⟨wrong _ _ _ _ _ (by first | exact .inl rfl | exact .inr (.inl rfl) | exact .inr (.inr ⟨rfl, rfl⟩)), ok5 _ _ _ _ _ rfl rfl (by first | exact tm | rfl) rfl rfl⟩
    | (cases m <;> exact ⟨rfl, rfl⟩)
end Sh
end

section
namespace Y
open PySem PySem.Spec PyProof.Rows L2
/-! ### more rules: what is never reached; not of a list; a range down; a list of lists of one's own -/
section
variable {K : PySem.W.Frag} {Ex : Value → List Slot → Prop} {E : L2.St → XK} {ρ : List Slot} {R : Res → Prop} {De : DE}
theorem pe_notTK {X : Cx} {K : PySem.W.Frag} {a : Expr} {ta : TE} {pos : Pos} (ha : PE X a ta) (hK : X.K = K := by rfl) : PE X (.UnaryOp .Not a pos) (tNotT K ta) := by subst hK; exact pe_notT ha
theorem e_notT {ta : TE} (h : tE K Ex E ta ρ fun a => ∃ c, TrD a.dat c ∧ R (.val (.bl (!c)))) : tE K Ex E (tNotT K ta) ρ R :=
  fun G0 H0 G σ H Q S X k => h G0 H0 G σ H _ S X fun a ⟨c, hd, h1⟩ v G1 H1 e1 r1 => ⟨c, trD_ok (r1.rd e1.sub) hd, k _ h1 _ G1 H1 e1 (.bl _)⟩
def rangeDn (hi : Int) (n : Nat) : List D := (List.range n).map fun (i : Nat) => D.int (hi + ((i : Nat) : Int) * (-1))
theorem rangeDn_len {hi : Int} {n : Nat} : (rangeDn hi n).length = n := by unfold rangeDn; rw [List.length_map, List.length_range]
theorem rangeDn_get {hi : Int} {n i : Nat} {d : D} (h : (rangeDn hi n)[i]? = some d) : i < n ∧ d = .int (hi - (i : Int)) := by
  have hl : i < n := by
    have := (List.getElem?_eq_some_iff.mp h).1
    rw [rangeDn_len] at this
    exact this
  unfold rangeDn at h
  rw [List.getElem?_map, List.getElem?_range hl] at h
  have z := (Option.some.inj h).symm
  rw [z]
  exact ⟨hl, congrArg D.int (show hi + (i : Int) * (-1) = hi - (i : Int) by omega)⟩
theorem walkRd {lo : Int} {n : Nat} {G' : Hp} : Walk (Itc lo (-1) n) (rangeDn lo n).length (fun H => Same G' H) (YD K G' (rangeDn lo n)) := by
  have w := (walk_rangeC (lo := lo) (c := -1) (n := n)).mono (G' := fun H => Same G' H) (Y' := YD K G' (rangeDn lo n)) (fun _ _ => trivial) fun i H x H' hi g y G2 g2 h2 => by
    obtain ⟨rfl, e⟩ := y
    refine ⟨.int (lo + (i : Int) * (-1)), G2, ?_, Ev.refl h2, by rw [e]; exact .int _⟩
    unfold rangeDn
    rw [List.getElem?_map, List.getElem?_range hi]
    rfl
  have e : (rangeDn lo n).length = n := rangeDn_len
  rw [e]
  exact w
theorem i_rangeDn {t u v : TE} {R : List D → Prop} (h : tE K Ex E t ρ fun a => tE K Ex E u ρ fun b => tE K Ex E v ρ fun c => ∃ i j, a.dat = .int i ∧ b.dat = .int j ∧ c.dat = .int (-1) ∧ (-(2 ^ 62) ≤ i ∧ i < 2 ^ 62 ∧ -(2 ^ 62) ≤ j ∧ j < 2 ^ 62) ∧ R (rangeDn i (i - j).toNat)) : tIt K Ex E (iRng3 (tCons t (tCons u (tCons v tNil)))) ρ R :=
  fun G0 H0 G σ H Q S X k => h G0 H0 G σ H _ S X fun a ha v G1 H1 e1 r1 => ha G0 H0 G1 σ H1 _ (S.step e1) X fun b hb u G2 H2 e2 r2 => hb G0 H0 G2 σ H2 _ ((S.step e1).step e2) X fun c ⟨i, j, h1, h2, h3, ⟨b1, b2, b3, b4⟩, hr⟩ u G3 H3 e3 r3 => by
    have q := ((r1.step e2).step e3).rd e3.sub
    rw [h1] at q
    have q2 := (r2.step e3).rd e3.sub
    rw [h2] at q2
    have q3 := r3.rd e3.sub
    rw [h3] at q3
    exact ⟨i, j, -1, _, by rw [q.inv_int, q2.inv_int, q3.inv_int], RgC.neg b1 b2 b3 b4, k _ hr _ G3 H3 ((e1.trans e2).trans e3) walkRd⟩
end
/-! lists within a list of one's own: the slot holds bare places, behind the slots stand the lists -/
section
variable {K : PySem.W.Frag} {G0 H0 G : Hp} {σ : L2.St} {H : Hp} {ρ : List Slot}
abbrev ghS (dss : List (List D)) : List Slot := dss.map Slot.own
abbrev ghV (ps : List Addr) : L2.St := ps.map fun p => some (V.ref p)
theorem Sig.preN : ∀ {s : List Slot} {x : L2.St}, x.length = s.length → Sig K G0 H0 G (ρ ++ s) (σ ++ x) H → Sig K G0 H0 G ρ σ H := by
  intro s
  induction s generalizing ρ σ with
  | nil =>
    intro x hx S
    cases x with
    | nil => rwa [List.append_nil, List.append_nil] at S
    | cons a b => simp at hx
  | cons a b ih =>
    intro x hx S
    cases x with
    | nil => simp at hx
    | cons c d =>
      have e1 : ρ ++ a :: b = (ρ ++ [a]) ++ b := by simp
      have e2 : σ ++ c :: d = (σ ++ [c]) ++ d := by simp
      rw [e1, e2] at S
      exact (ih (by simpa using hx) S).pre
def SigN (K : PySem.W.Frag) (G0 H0 G : Hp) (i : Nat) (ρ : List Slot) (dss : List (List D)) (σ : L2.St) (H : Hp) : Prop :=
  i < ρ.length ∧ ∃ ps : List Addr, ps.length = dss.length ∧ Sig K G0 H0 G (ρ.set i (.own (ps.map D.cls)) ++ ghS dss) (σ ++ ghV ps) H
def lendS (ρ : List Slot) : List Slot := ρ.map fun | .own ds => .val (.lst ds) | s => s
theorem get_app {α : Type} {l m : List α} {i : Nat} {x : α} (h : l[i]? = some x) : (l ++ m)[i]? = some x := by
  rw [List.getElem?_append_left (List.getElem?_eq_some_iff.mp h).1]
  exact h
theorem set_app {α : Type} {l m : List α} {i : Nat} {x : α} (h : i < l.length) : (l ++ m).set i x = l.set i x ++ m := List.set_append_left _ _ h
variable {i : Nat} {dss : List (List D)}
theorem SigN.start (S : Sig K G0 H0 G ρ σ H) (hi : ρ[i]? = some (.own [])) : SigN K G0 H0 G i ρ [] σ H := by
  refine ⟨(List.getElem?_eq_some_iff.mp hi).1, [], rfl, ?_⟩
  have e : ρ.set i (.own []) = ρ := by
    obtain ⟨hl, hg⟩ := List.getElem?_eq_some_iff.mp hi
    rw [← hg, List.set_getElem_self]
  show Sig K G0 H0 G (ρ.set i (.own []) ++ []) (σ ++ []) H
  rw [e, List.append_nil, List.append_nil]
  exact S
theorem SigN.step {G' H' : Hp} (S : SigN K G0 H0 G i ρ dss σ H) (e : Ev G H G' H') : SigN K G0 H0 G' i ρ dss σ H' := by
  obtain ⟨hi, ps, hl, S⟩ := S
  exact ⟨hi, ps, hl, S.step e⟩
theorem SigN.ev (S : SigN K G0 H0 G i ρ dss σ H) : Ev G0 H0 G H := by
  obtain ⟨hi, ps, hl, S⟩ := S
  exact S.ev
theorem SigN.len (S : SigN K G0 H0 G i ρ dss σ H) : σ.length = ρ.length := by
  obtain ⟨hi, ps, hl, S⟩ := S
  have := S.len
  simp only [List.length_append, List.length_set, List.length_map, hl] at this
  omega
theorem SigN.setVal {j : Nat} {v : V} {d : D} (S : SigN K G0 H0 G i ρ dss σ H) (hj : j ≠ i) (hl : j < ρ.length) (r : Rp K G v d) : SigN K G0 H0 G i (ρ.set j (.val d)) dss (σ.set j (some v)) H := by
  have ln := S.len
  obtain ⟨hi, ps, hp, S⟩ := S
  refine ⟨by rw [List.length_set]; exact hi, ps, hp, ?_⟩
  have q := S.setVal (i := j) r
  rw [set_app (by rw [List.length_set]; exact hl), set_app (by omega), List.set_comm _ _ (Ne.symm hj)] at q
  exact q
theorem SigN.out (S : SigN K G0 H0 G i ρ dss σ H) {j : Nat} {d : D} (hj : j ≠ i) (h : ρ[j]? = some (.val d)) : ∃ v, σ[j]? = some (some v) ∧ Rp K G v d := by
  have ln := S.len
  obtain ⟨hi, ps, hp, S⟩ := S
  obtain ⟨v, h1, h2⟩ := S.val j d (get_app (by rw [get_set_ne (Ne.symm hj)]; exact h))
  refine ⟨v, ?_, h2⟩
  rw [List.getElem?_append_left (by rw [ln]; exact (List.getElem?_eq_some_iff.mp h).1)] at h1
  exact h1
/-- the list and what stands in it -/
theorem SigN.lists (S : SigN K G0 H0 G i ρ dss σ H) : ∃ (l : Addr) (ps : List Addr), ps.length = dss.length ∧ σ[i]? = some (some (.ref l)) ∧ H0 l = none ∧ G l = none ∧ H l = some (.lst (ps.map V.ref)) ∧
    (∀ (j : Nat) (p : Addr) (ds : List D), ps[j]? = some p → dss[j]? = some ds → H0 p = none ∧ G p = none ∧ p ≠ l ∧ ∃ xs, H p = some (.lst xs) ∧ Rps K G xs ds) ∧
    Sig K G0 H0 G (ρ.set i (.own (ps.map D.cls)) ++ ghS dss) (σ ++ ghV ps) H := by
  have ln := S.len
  obtain ⟨hi, ps, hp, S⟩ := S
  have gi : (ρ.set i (.own (ps.map D.cls)) ++ ghS dss)[i]? = some (.own (ps.map D.cls)) := get_app (get_set_eq hi)
  obtain ⟨l, xs, h1, h2, h3, h4, h5⟩ := S.own i _ gi
  have h1' := h1
  rw [List.getElem?_append_left (by omega)] at h1
  have ex : xs = ps.map V.ref := by
    clear h1 h1' h2 h3 h4 gi S hp
    induction ps generalizing xs with
    | nil => cases h5; rfl
    | cons p r ih =>
      cases h5 with
      | cons a b => rw [List.map_cons, a.inv_cls, ih _ b]
  subst ex
  refine ⟨l, ps, hp, h1, h2, h3, h4, fun j p ds hj hd => ?_, S⟩
  have gj : (ρ.set i (.own (ps.map D.cls)) ++ ghS dss)[ρ.length + j]? = some (.own ds) := by
    rw [List.getElem?_append_right (by rw [List.length_set]; omega), List.length_set, Nat.add_sub_cancel_left, List.getElem?_map, hd]
    rfl
  have sj : (σ ++ ghV ps)[ρ.length + j]? = some (some (.ref p)) := by
    rw [List.getElem?_append_right (by omega), ln, Nat.add_sub_cancel_left, List.getElem?_map, hj]
    rfl
  obtain ⟨m, ys, k1, k2, k3, k4, k5⟩ := S.own _ _ gj
  rw [sj] at k1
  have e := V.ref.inj (Option.some.inj (Option.some.inj k1))
  subst e
  refine ⟨k2, k3, fun z => ?_, ys, k4, k5⟩
  subst z
  have := S.inj i (ρ.length + j) _ _ p gi gj h1' sj
  omega
theorem rps_lists {Hx : Hp} : ∀ {ps : List Addr} {dss : List (List D)}, ps.length = dss.length → (∀ (j : Nat) (p : Addr) (ds : List D), ps[j]? = some p → dss[j]? = some ds → ∃ xs, Hx p = some (.lst xs) ∧ Rps K Hx xs ds) → Rps K Hx (ps.map V.ref) (dss.map D.lst)
  | [], [], _, _ => .nil
  | p :: ps, ds :: dss, e, h => by
    obtain ⟨xs, h1, h2⟩ := h 0 p ds rfl rfl
    exact .cons (.lst h1 h2) (rps_lists (by simpa using e) fun j q es hq he => h (j + 1) q es (by simpa using hq) (by simpa using he))
  | [], _ :: _, e, _ => by simp at e
  | _ :: _, [], e, _ => by simp at e
/-- all is shared, for a while -/
theorem SigN.lend (S : SigN K G0 H0 G i ρ dss σ H) : Sig K H H H (lendS (ρ.set i (.own (dss.map D.lst)))) σ H := by
  have ln := S.len
  have hi := S.1
  obtain ⟨l, ps, hp, h1, h2, h3, h4, h5, S'⟩ := S.lists
  refine ⟨Ev.refl (Same.refl _), by unfold lendS; rw [List.length_map, List.length_set]; exact ln, fun j d h => ?_, fun j ds h => ?_, fun j k ds es m h => ?_⟩
  · unfold lendS at h
    rw [List.getElem?_map] at h
    by_cases hj : i = j
    · subst hj
      rw [get_set_eq hi] at h
      have z := Slot.val.inj (Option.some.inj h)
      subst z
      refine ⟨_, h1, .lst h4 (rps_lists hp fun j p ds hj hd => ?_)⟩
      obtain ⟨_, _, _, xs, k1, k2⟩ := h5 j p ds hj hd
      exact ⟨xs, k1, k2.mono S.ev.sub⟩
    · rw [get_set_ne hj] at h
      cases e : ρ[j]? with
      | none => rw [e] at h; cases h
      | some s =>
        rw [e] at h
        have lj : j < σ.length := by
          rw [ln]
          exact (List.getElem?_eq_some_iff.mp e).1
        have ge : (ρ.set i (.own (ps.map D.cls)) ++ ghS dss)[j]? = some s := get_app (by rw [get_set_ne hj]; exact e)
        cases s with
        | emp => cases h
        | val d' =>
          have z := Slot.val.inj (Option.some.inj h)
          subst z
          obtain ⟨v, k1, k2⟩ := S'.val j _ ge
          rw [List.getElem?_append_left lj] at k1
          exact ⟨v, k1, k2.mono S.ev.sub⟩
        | own ds =>
          have z := Slot.val.inj (Option.some.inj h)
          subst z
          obtain ⟨m, xs, k1, k2, k3, k4, k5⟩ := S'.own j _ ge
          rw [List.getElem?_append_left lj] at k1
          exact ⟨_, k1, .lst k4 (k5.mono S.ev.sub)⟩
  · exfalso
    unfold lendS at h
    rw [List.getElem?_map] at h
    cases e : (ρ.set i (.own (dss.map D.lst)))[j]? with
    | none => rw [e] at h; cases h
    | some s => rw [e] at h; cases s <;> cases h
  · exfalso
    unfold lendS at h
    rw [List.getElem?_map] at h
    cases e : (ρ.set i (.own (dss.map D.lst)))[j]? with
    | none => rw [e] at h; cases h
    | some s => rw [e] at h; cases s <;> cases h
/-- the last one within gets an item -/
theorem SigN.appLast {es : List D} {v : V} {d : D} (S : SigN K G0 H0 G i ρ (dss ++ [es]) σ H) (r : Rp K G v d) : ∃ (l p : Addr) (qs : List V) (xs : List V), σ[i]? = some (some (.ref l)) ∧ H l = some (.lst (qs ++ [.ref p])) ∧ H p = some (.lst xs) ∧ xs.length = es.length ∧ SigN K G0 H0 G i ρ (dss ++ [es ++ [d]]) σ (upd H p (.lst (xs ++ [v]))) := by
  have ln := S.len
  have hi := S.1
  obtain ⟨l, ps, hp, h1, h2, h3, h4, h5, S'⟩ := S.lists
  rw [List.length_append, List.length_singleton] at hp
  have lt : dss.length < ps.length := by omega
  have pl : ps[dss.length]? = some ps[dss.length] := List.getElem?_eq_getElem lt
  have dl : (dss ++ [es])[dss.length]? = some es := by rw [List.getElem?_append_right (Nat.le_refl _), Nat.sub_self]; rfl
  obtain ⟨_, _, _, xs, k1, k2⟩ := h5 _ _ _ pl dl
  have epd : ps = ps.take dss.length ++ [ps[dss.length]] := by
    have := List.take_append_drop dss.length ps
    rw [List.drop_eq_getElem_cons lt, List.drop_eq_nil_of_le (by omega)] at this
    exact this.symm
  have eq4 : ps.map V.ref = (ps.take dss.length).map V.ref ++ [V.ref ps[dss.length]] := by
    conv => lhs; rw [epd]
    rw [List.map_append]
    rfl
  refine ⟨l, ps[dss.length], (ps.take dss.length).map V.ref, xs, h1, by rw [h4, eq4], k1, k2.length, hi, ps, by rw [List.length_append, List.length_singleton]; exact hp, ?_⟩
  have gj : (ρ.set i (.own (ps.map D.cls)) ++ ghS (dss ++ [es]))[ρ.length + dss.length]? = some (.own es) := by
    rw [List.getElem?_append_right (by rw [List.length_set]; omega), List.length_set, Nat.add_sub_cancel_left, List.getElem?_map, dl]
    rfl
  have sj : (σ ++ ghV ps)[ρ.length + dss.length]? = some (some (.ref ps[dss.length])) := by
    rw [List.getElem?_append_right (by omega), ln, Nat.add_sub_cancel_left, List.getElem?_map, pl]
    rfl
  have q := S'.chg gj sj (k2.append (Rps.one r))
  have e : (ρ.set i (.own (ps.map D.cls)) ++ ghS (dss ++ [es])).set (ρ.length + dss.length) (.own (es ++ [d])) = ρ.set i (.own (ps.map D.cls)) ++ ghS (dss ++ [es ++ [d]]) := by
    rw [List.set_append_right _ _ (by rw [List.length_set]; omega), List.length_set, Nat.add_sub_cancel_left]
    unfold ghS
    rw [List.map_append, List.map_append, List.set_append_right _ _ (by rw [List.length_map]; omega), List.length_map, Nat.sub_self]
    rfl
  rw [e] at q
  exact q
/-- a new list goes in -/
theorem SigN.appNew {p : Addr} {xs : List V} {es : List D} (S : SigN K G0 H0 G i ρ dss σ H) (np : H p = none) (r : Rps K G xs es) : ∃ (l : Addr) (qs : List V), σ[i]? = some (some (.ref l)) ∧ l ≠ p ∧ H l = some (.lst qs) ∧ qs.length = dss.length ∧ SigN K G0 H0 G i ρ (dss ++ [es]) σ (upd (upd H p (.lst xs)) l (.lst (qs ++ [.ref p]))) := by
  have ln := S.len
  have hi := S.1
  have ev := S.ev
  obtain ⟨l, ps, hp, h1, h2, h3, h4, h5, S'⟩ := S.lists
  have nlp : l ≠ p := fun z => by
    rw [z, np] at h4
    cases h4
  refine ⟨l, ps.map V.ref, h1, nlp, h4, by rw [List.length_map]; exact hp, hi, ps ++ [p], by rw [List.length_append, List.length_append, hp]; rfl, ?_⟩
  have S1 := S'.step (Ev.own (o := .lst xs) ev.sub np)
  have S2 := Sig.push (xs := xs) (ds := es) S1 (ev.hs.free np) (ev.sub.free np) upd_same r fun j fs hj z => by
    obtain ⟨m, ys, k1, k2, k3, k4, k5⟩ := S'.own j fs hj
    rw [z] at k1
    have e := V.ref.inj (Option.some.inj (Option.some.inj k1))
    subst e
    rw [np] at k4
    cases k4
  have e1 : (ρ.set i (.own (ps.map D.cls)) ++ ghS dss) ++ [Slot.own es] = ρ.set i (.own (ps.map D.cls)) ++ ghS (dss ++ [es]) := by
    unfold ghS
    rw [List.map_append, List.append_assoc]
    rfl
  have e2 : (σ ++ ghV ps) ++ [some (V.ref p)] = σ ++ ghV (ps ++ [p]) := by
    unfold ghV
    rw [List.map_append, List.append_assoc]
    rfl
  rw [e1, e2] at S2
  have gi : (ρ.set i (.own (ps.map D.cls)) ++ ghS (dss ++ [es]))[i]? = some (.own (ps.map D.cls)) := get_app (get_set_eq hi)
  have si : (σ ++ ghV (ps ++ [p]))[i]? = some (some (.ref l)) := get_app h1
  have rc : Rps K G (ps.map V.ref ++ [.ref p]) ((ps ++ [p]).map D.cls) := by
    clear S2 S1 S' h4 h5 hp e1 e2 gi si
    induction ps with
    | nil => exact .cons (.cls p) .nil
    | cons a b ih => exact .cons (.cls a) ih
  have q := S2.chg gi si rc
  rw [set_app (by rw [List.length_set]; exact hi), List.set_set] at q
  exact q
/-- all lists are shared from now on, but the one around them -/
theorem SigN.close (S : SigN K G0 H0 G i ρ dss σ H) : ∃ G', Same G G' ∧ Sig K G0 H0 G' (ρ.set i (.own (dss.map D.lst))) σ H := by
  have ln := S.len
  have hi := S.1
  obtain ⟨l, ps, hp, h1, h2, h3, h4, h5, S'⟩ := S.lists
  have fr : ∀ n, n ≤ dss.length → ∃ G', Same G G' ∧ Sig K G0 H0 G' (ρ.set i (.own (ps.map D.cls)) ++ ((dss.take n).map fun ds => Slot.val (.lst ds)) ++ ghS (dss.drop n)) (σ ++ ghV ps) H := by
    intro n
    induction n with
    | zero => exact fun _ => ⟨G, Same.refl _, by simpa using S'⟩
    | succ n ih =>
      intro hn
      obtain ⟨G1, s1, S1⟩ := ih (by omega)
      have hd : dss.drop n = dss[n] :: dss.drop (n + 1) := List.drop_eq_getElem_cons (by omega)
      have lt : (ρ.set i (.own (ps.map D.cls)) ++ ((dss.take n).map fun ds => Slot.val (.lst ds))).length = ρ.length + n := by
        rw [List.length_append, List.length_set, List.length_map, List.length_take]
        omega
      have gn : (ρ.set i (.own (ps.map D.cls)) ++ ((dss.take n).map fun ds => Slot.val (.lst ds)) ++ ghS (dss.drop n))[ρ.length + n]? = some (.own dss[n]) := by
        rw [List.getElem?_append_right (by omega), lt, Nat.sub_self, hd]
        rfl
      obtain ⟨G2, s2, S2⟩ := S1.freeze gn
      refine ⟨G2, s1.trans s2, ?_⟩
      have e : (ρ.set i (.own (ps.map D.cls)) ++ ((dss.take n).map fun ds => Slot.val (.lst ds)) ++ ghS (dss.drop n)).set (ρ.length + n) (.val (.lst dss[n])) = ρ.set i (.own (ps.map D.cls)) ++ ((dss.take (n + 1)).map fun ds => Slot.val (.lst ds)) ++ ghS (dss.drop (n + 1)) := by
        rw [List.set_append_right _ _ (by omega), lt, Nat.sub_self, hd, List.take_succ_eq_append_getElem (by omega), List.map_append]
        show _ ++ (Slot.val (.lst dss[n]) :: ghS (dss.drop (n + 1))) = _
        simp
      rw [e] at S2
      exact S2
  obtain ⟨G1, s1, S1⟩ := fr dss.length (Nat.le_refl _)
  rw [List.drop_length, List.take_length] at S1
  have S2 : Sig K G0 H0 G1 (ρ.set i (.own (ps.map D.cls)) ++ (dss.map fun ds => Slot.val (.lst ds))) (σ ++ ghV ps) H := by
    have e : ghS [] = [] := rfl
    rw [e, List.append_nil] at S1
    exact S1
  have gi : (ρ.set i (.own (ps.map D.cls)) ++ (dss.map fun ds => Slot.val (.lst ds)))[i]? = some (.own (ps.map D.cls)) := get_app (get_set_eq hi)
  have rl : Rps K G1 (ps.map V.ref) (dss.map D.lst) := by
    refine rps_lists hp fun j p ds hj hd => ?_
    have gj : (ρ.set i (.own (ps.map D.cls)) ++ (dss.map fun ds => Slot.val (.lst ds)))[ρ.length + j]? = some (.val (.lst ds)) := by
      rw [List.getElem?_append_right (by rw [List.length_set]; omega), List.length_set, Nat.add_sub_cancel_left, List.getElem?_map, hd]
      rfl
    have sj : (σ ++ ghV ps)[ρ.length + j]? = some (some (.ref p)) := by
      rw [List.getElem?_append_right (by omega), ln, Nat.add_sub_cancel_left, List.getElem?_map, hj]
      rfl
    obtain ⟨v, k1, k2⟩ := S2.val _ _ gj
    rw [sj] at k1
    have e := Option.some.inj (Option.some.inj k1)
    subst e
    obtain ⟨a, xs, ea, k3, k4⟩ := k2.inv_lst
    have e := V.ref.inj ea
    subst e
    exact ⟨xs, k3, k4⟩
  have q := S2.chg gi (get_app h1) rl
  have eh : upd H l (.lst (ps.map V.ref)) = H := by
    funext x
    by_cases hx : x = l
    · subst hx
      rw [upd_same, h4]
    · rw [upd_ne hx]
  rw [eh, set_app (by rw [List.length_set]; exact hi), List.set_set] at q
  exact ⟨G1, s1, q.preN (by unfold ghV; rw [List.length_map, List.length_map]; exact hp)⟩
end
/-! statements over such a list -/
def tSN (K : PySem.W.Frag) (i : Nat) (tb : TS) (ρ : List Slot) (dss : List (List D)) (P : List Slot → List (List D) → Prop) : Prop :=
  ∀ (G0 H0 G : Hp) (σ : L2.St) (H : Hp) (D : Ends), SigN K G0 H0 G i ρ dss σ H → (∀ ρ' dss' G' σ' H', P ρ' dss' → SigN K G0 H0 G' i ρ' dss' σ' H' → D.nx σ' H') → tb D σ H
section
variable {K : PySem.W.Frag} {E : L2.St → XK} {Ex : Value → List Slot → Prop} {ρ : List Slot} {De : DE} {i : Nat} {dss : List (List D)} {P : List Slot → List (List D) → Prop}
theorem n_if {c : TT} {t u : TS} (h : tT K (fun _ _ => False) E c (lendS (ρ.set i (.own (dss.map D.lst)))) fun b => (b = true → tSN K i t ρ dss P) ∧ (b = false → tSN K i u ρ dss P)) : tSN K i (tIfS c t u) ρ dss P :=
  fun G0 H0 G σ H D S k => h H H H σ H _ S.lend (fun _ _ z => z.elim) fun b hb G1 H1 e1 => by
    have S' := S.step (Ev.join S.ev.sub e1.gs e1.sub)
    cases b with
    | true => exact iteT (hb.1 rfl G0 H0 _ σ H1 D S' k)
    | false => exact iteF (hb.2 rfl G0 H0 _ σ H1 D S' k)
/-- xs[-1].append(y) -/
theorem n_appLast {j : Nat} {es : List D} {d : D} (hj : j ≠ i) (h : ρ[j]? = some (.val d)) (hl : es.length < sizeLine) (q : P ρ (dss ++ [es ++ [d]])) :
    tSN K i (tDrop (tBM K "list" rAppend (tOp (rIx K) (tVar i) (tUn (rU fun i => .int (-i)) (tC (.int 1)))) (tCons (tVar j) tNil))) ρ (dss ++ [es]) P := fun G0 H0 G σ H D S k => by
  obtain ⟨v, h1, h2⟩ := S.out hj h
  obtain ⟨l, p, qs, xs, k1, k2, k3, k4, k5⟩ := S.appLast h2
  refine ⟨_, k1, 1, rfl, .inl ⟨l, qs ++ [.ref p], -1, .ref p, rfl, rfl, .inl (.inl k2), ?_, ?_⟩⟩
  · unfold atI
    have e : ixN (qs ++ [V.ref p]).length (-1) = some qs.length := by
      rw [List.length_append, List.length_singleton]
      unfold ixN
      simp
      omega
    rw [e]
    simp
  · exact ⟨.inl ⟨rfl, xs, .inl (.inl k3)⟩, v, h1, p, xs, v, rfl, rfl, k3, by rw [k4]; exact hl, k _ _ _ _ _ q k5⟩
/-- xs.append([y]) -/
theorem n_appNew {j : Nat} {d : D} (hj : j ≠ i) (h : ρ[j]? = some (.val d)) (hl : dss.length < sizeLine) (q : P ρ (dss ++ [[d]])) :
    tSN K i (tDrop (tBM K "list" rAppend (tVar i) (tCons (tLst (tCons (tVar j) tNil)) tNil))) ρ dss P := fun G0 H0 G σ H D S k => by
  obtain ⟨v, h1, h2⟩ := S.out hj h
  obtain ⟨l0, _, _, hl0, _, _, hH, _⟩ := S.lists
  refine ⟨_, hl0, .inl ⟨rfl, _, .inl (.inl hH)⟩, v, h1, Nat.le_of_ble_eq_true rfl, fun p np => ?_⟩
  obtain ⟨l, qs, k1, k2, k3, k4, k5⟩ := S.appNew np (Rps.one h2)
  rw [hl0] at k1
  have e := V.ref.inj (Option.some.inj (Option.some.inj k1))
  subst e
  exact ⟨l0, qs, .ref p, rfl, rfl, by rw [upd_ne k2]; exact k3, by rw [k4]; exact hl, k _ _ _ _ _ q k5⟩
/-- for a, b in ..: the list in slot i gets lists -/
theorem s_forN {a b : Nat} {wi : TI} {tb : TS} (hi : ρ[i]? = some (.own [])) (ai : a ≠ i) (bi : b ≠ i) (h : tIt K Ex E wi ρ fun ds => ∃ I : Nat → List Slot → List (List D) → Prop, I 0 ρ [] ∧
      (∀ k d ρ' dss, ds[k]? = some d → I k ρ' dss → ∃ d1 d2, d = .tup [d1, d2] ∧ a < ρ'.length ∧ b < ρ'.length ∧ tSN K i tb ((ρ'.set a (.val d1)).set b (.val d2)) dss (I (k + 1))) ∧ ∀ ρ' dss, I ds.length ρ' dss → De.nx (ρ'.set i (.own (dss.map D.lst)))) :
    tS K Ex E (tFor wi (gTup K 2 (gCons (gName a) (gCons (gName b) gNil))) tb) ρ De :=
  fun G0 H0 G σ H D S X k => h G0 H0 G σ H _ S X fun ds ⟨I, h0, hs, hd⟩ J G1 H1 e1 w => by
    obtain ⟨Hr, Sr, hr⟩ := (S.step e1).root
    have ev := (S.step e1).ev
    refine for_it w (fun m σ H => ∃ ρ' dss G', I m ρ' dss ∧ SigN K G1 Hr G' i ρ' dss σ H) ⟨ρ, [], G1, h0, SigN.start Sr hi⟩ (fun m σ H _ ⟨ρ', dss, G', _, S'⟩ => S'.ev.gs.trans S'.ev.sub) (fun m x σ H H' hm ⟨ρ', dss, G', hI, S'⟩ hy => ?_) (fun σ H ⟨ρ', dss, G', hI, S'⟩ => ?_)
    · obtain ⟨d, G3, hd', e3, r3⟩ := hy G' S'.ev.gs S'.ev.sub
      obtain ⟨d1, d2, ed, la, lb, hb⟩ := hs m d ρ' dss hd' hI
      subst ed
      obtain ⟨p, xs, rfl, sq, rr⟩ := r3.inv_tup
      cases rr with
      | cons r1 rr =>
        cases rr with
        | cons r2 rr =>
          cases rr
          have S3 := ((S'.step e3).setVal ai la r1).setVal bi (by rw [List.length_set]; exact lb) r2
          refine ⟨p, _, rfl, same_seqT S3.ev.sub sq, rfl, _, _, rfl, _, _, rfl, rfl, ?_⟩
          exact hb G1 Hr G3 _ H' _ S3 fun ρ2 dss2 G2 σ2 H2 q S2 => ⟨ρ2, dss2, G2, q, S2⟩
    · obtain ⟨G2, sg, S2⟩ := S'.close
      exact k.nx _ G2 σ H (hd ρ' dss hI) (S2.up ev hr)
end
end Y
end

section
namespace Br
open PySem PySem.Spec PyProof.Rows L2 Y Sh
/-! # breaking into lines: the greedy way, and the least of all ways -/
/-- what wishes take in a line -/
def usedI (ws : List Int) (g : Int) : Int := ws.sum + g * max 0 ((ws.length : Int) - 1)
def goesB (ws : List Int) (g : Int) (w : Q2) : Bool := decide (usedI ws g * w.2 ≤ w.1)
theorem used_one (x g : Int) : usedI [x] g = x := by
  unfold usedI
  simp
theorem sum_app (l : List Int) (x : Int) : (l ++ [x]).sum = l.sum + x := by
  induction l with
  | nil => simp
  | cons a r ih => rw [List.cons_append, List.sum_cons, List.sum_cons, ih]; omega
theorem used_app {l : List Int} (h : l ≠ []) (x g : Int) : usedI (l ++ [x]) g = usedI l g + g + x := by
  unfold usedI
  have h1 : 1 ≤ l.length := List.length_pos_iff.mpr h
  rw [sum_app, List.length_append, List.length_singleton]
  have e1 : max 0 (((l.length + 1 : Nat) : Int) - 1) = (l.length : Int) := by omega
  have e2 : max 0 ((l.length : Int) - 1) = (l.length : Int) - 1 := by omega
  rw [e1, e2, Int.mul_sub, Int.mul_one]
  omega
section
variable (g : Int) (w : Q2)
def C : Int → List Int → Nat
  | _, [] => 0
  | u, x :: xs => if (u + g + x) * w.2 ≤ w.1 then C (u + g + x) xs else 1 + C x xs
def hh : List Int → Nat
  | [] => 0
  | x :: xs => 1 + C g w x xs
variable {g w} (g0 : 0 ≤ g) (w0 : 0 < w.2)
include g0 w0
theorem C_mono : ∀ (xs : List Int) (u v : Int), (∀ x ∈ xs, 0 ≤ x) → 0 ≤ u → u ≤ v → C g w u xs ≤ C g w v xs ∧ C g w v xs ≤ C g w u xs + 1
  | [], u, v, _, _, _ => ⟨Nat.le_refl _, Nat.zero_le _⟩
  | x :: xs, u, v, hx, u0, uv => by
    have x0 := hx x List.mem_cons_self
    have hr : ∀ y ∈ xs, 0 ≤ y := fun y hy => hx y (List.mem_cons_of_mem _ hy)
    have m : (u + g + x) * w.2 ≤ (v + g + x) * w.2 := Int.mul_le_mul_of_nonneg_right (by omega) (by omega)
    unfold C
    by_cases hu : (u + g + x) * w.2 ≤ w.1
    · rw [if_pos hu]
      by_cases hv : (v + g + x) * w.2 ≤ w.1
      · rw [if_pos hv]
        exact C_mono xs _ _ hr (by omega) (by omega)
      · rw [if_neg hv]
        have a := C_mono xs x (u + g + x) hr x0 (by omega)
        omega
    · have hv : ¬ (v + g + x) * w.2 ≤ w.1 := fun z => hu (by omega)
      rw [if_neg hu, if_neg hv]
      omega
theorem C_le_h (xs : List Int) (u : Int) (hx : ∀ x ∈ xs, 0 ≤ x) (u0 : 0 ≤ u) : C g w u xs ≤ hh g w xs := by
  cases xs with
  | nil => exact Nat.le_refl _
  | cons y ys =>
    have y0 := hx y List.mem_cons_self
    have hr : ∀ z ∈ ys, 0 ≤ z := fun z hz => hx z (List.mem_cons_of_mem _ hz)
    rw [show C g w u (y :: ys) = (if (u + g + y) * w.2 ≤ w.1 then C g w (u + g + y) ys else 1 + C g w y ys) from rfl, show hh g w (y :: ys) = 1 + C g w y ys from rfl]
    by_cases c : (u + g + y) * w.2 ≤ w.1
    · rw [if_pos c]
      have a := C_mono g0 w0 ys y (u + g + y) hr y0 (by omega)
      omega
    · rw [if_neg c]
      exact Nat.le_refl _
omit w0 in
theorem used_nn : ∀ (l : List Int), (∀ x ∈ l, 0 ≤ x) → 0 ≤ usedI l g := fun l h => by
  have s : 0 ≤ l.sum := by
    induction l with
    | nil => exact Int.le_refl _
    | cons a r ih =>
      have := h a List.mem_cons_self
      have := ih fun x hx => h x (List.mem_cons_of_mem _ hx)
      rw [List.sum_cons]
      omega
  unfold usedI
  have := Int.mul_nonneg g0 (show 0 ≤ max 0 ((l.length : Int) - 1) by omega)
  omega
theorem take_succ {xs : List Int} {e : Nat} {y : Int} {ys : List Int} (h : xs.drop e = y :: ys) : xs.take (e + 1) = xs.take e ++ [y] ∧ xs.drop (e + 1) = ys := by
  have hl : e < xs.length := by
    have := congrArg List.length h
    simp at this
    omega
  rw [List.drop_eq_getElem_cons hl] at h
  obtain ⟨h1, h2⟩ := List.cons.inj h
  rw [List.take_succ_eq_append_getElem hl, h1]
  exact ⟨rfl, h2⟩
/-- where the first e go into a line, the greedy way takes them all -/
theorem C_pre {x : Int} {rest : List Int} (hx : ∀ z ∈ x :: rest, 0 ≤ z) : ∀ e : Nat, 1 ≤ e → e ≤ (x :: rest).length → (e = 1 ∨ goesB ((x :: rest).take e) g w = true) →
    C g w x rest = C g w (usedI ((x :: rest).take e) g) ((x :: rest).drop e) := by
  intro e h1 h2 hf
  induction e with
  | zero => omega
  | succ e ih =>
    by_cases e1 : e = 0
    · subst e1
      show _ = C g w (usedI [x] g) rest
      rw [used_one]
    · have hl : e < (x :: rest).length := by omega
      have hd : (x :: rest).drop e = (x :: rest)[e] :: (x :: rest).drop (e + 1) := List.drop_eq_getElem_cons hl
      have tk := (take_succ g0 w0 hd).1
      have ne : (x :: rest).take e ≠ [] := by
        intro z
        have := congrArg List.length z
        rw [List.length_take] at this
        simp at this
        omega
      have hg : goesB ((x :: rest).take (e + 1)) g w = true := by
        rcases hf with hf | hf
        · omega
        · exact hf
      unfold goesB at hg
      have hg := of_decide_eq_true hg
      rw [tk, used_app ne] at hg
      have y0 : 0 ≤ (x :: rest)[e] := hx _ (List.getElem_mem _)
      have pre : goesB ((x :: rest).take e) g w = true := by
        unfold goesB
        refine decide_eq_true ?_
        have := Int.mul_le_mul_of_nonneg_right (show usedI ((x :: rest).take e) g ≤ usedI ((x :: rest).take e) g + g + (x :: rest)[e] by omega) (show 0 ≤ w.2 by omega)
        omega
      rw [ih (by omega) (by omega) (.inr pre), hd]
      show C g w (usedI ((x :: rest).take e) g) ((x :: rest)[e] :: (x :: rest).drop (e + 1)) = _
      rw [tk, used_app ne]
      conv => lhs; unfold C
      rw [if_pos hg]
/-- the table's item for a beginning, e looked at -/
def DpI (g : Int) (w : Q2) (x : Int) (rest : List Int) (e : Nat) (cur : Nat) : Prop :=
  1 + C g w x rest ≤ cur ∧ (cur = 1 + C g w x rest ∨ (C g w x rest = C g w (usedI ((x :: rest).take e) g) ((x :: rest).drop e) ∧ cur ≤ 1 + hh g w ((x :: rest).drop e)))
theorem dp_one {x : Int} {rest : List Int} (hx : ∀ z ∈ x :: rest, 0 ≤ z) : DpI g w x rest 1 (1 + hh g w rest) := by
  refine ⟨?_, .inr ⟨?_, Nat.le_refl _⟩⟩
  · have := C_le_h g0 w0 rest x (fun z hz => hx z (List.mem_cons_of_mem _ hz)) (hx x List.mem_cons_self)
    omega
  · show _ = C g w (usedI [x] g) rest
    rw [used_one]
theorem dp_step {x : Int} {rest : List Int} (hx : ∀ z ∈ x :: rest, 0 ≤ z) {e cur : Nat} (h1 : 1 ≤ e) (h2 : e < (x :: rest).length) (h : DpI g w x rest e cur) :
    DpI g w x rest (e + 1) (if goesB ((x :: rest).take (e + 1)) g w = true then min cur (1 + hh g w ((x :: rest).drop (e + 1))) else cur) := by
  obtain ⟨lo, hi⟩ := h
  have hd : (x :: rest).drop e = (x :: rest)[e] :: (x :: rest).drop (e + 1) := List.drop_eq_getElem_cons h2
  have tk := (take_succ g0 w0 hd).1
  have ne : (x :: rest).take e ≠ [] := by
    intro z
    have := congrArg List.length z
    rw [List.length_take] at this
    simp at this
    omega
  by_cases hg : goesB ((x :: rest).take (e + 1)) g w = true
  · rw [if_pos hg]
    have ep := C_pre g0 w0 hx (e + 1) (by omega) (by omega) (.inr hg)
    have le := C_le_h g0 w0 ((x :: rest).drop (e + 1)) (usedI ((x :: rest).take (e + 1)) g) (fun z hz => hx z (List.mem_of_mem_drop hz)) (used_nn g0 _ fun z hz => hx z (List.mem_of_mem_take hz))
    refine ⟨by omega, .inr ⟨ep, by omega⟩⟩
  · rw [if_neg hg]
    refine ⟨lo, .inl ?_⟩
    rcases hi with hi | ⟨e1, e2⟩
    · exact hi
    · have hn : ¬ (usedI ((x :: rest).take e) g + g + (x :: rest)[e]) * w.2 ≤ w.1 := fun z => hg (by
        unfold goesB
        rw [tk, used_app ne]
        exact decide_eq_true z)
      rw [hd] at e1 e2
      have e3 : C g w (usedI ((x :: rest).take e) g) ((x :: rest)[e] :: (x :: rest).drop (e + 1)) = hh g w ((x :: rest)[e] :: (x :: rest).drop (e + 1)) := by
        unfold C hh
        rw [if_neg hn]
      omega
omit g0 w0 in
theorem dp_end {x : Int} {rest : List Int} {cur : Nat} (h : DpI g w x rest (x :: rest).length cur) : cur = hh g w (x :: rest) := by
  obtain ⟨lo, hi⟩ := h
  show cur = 1 + C g w x rest
  rcases hi with hi | ⟨e1, e2⟩
  · exact hi
  · rw [List.drop_length] at e1 e2
    have e3 : C g w (usedI ((x :: rest).take (x :: rest).length) g) [] = 0 := by unfold C; rfl
    have e4 : hh g w [] = 0 := rfl
    omega
end
/-! the lines themselves -/
section
variable (ws : List Int) (g : Int) (w : Q2)
def wi (k : Nat) : Int := ws.getD k 0
def stp (st : List (List Nat) × List Nat) (k : Nat) : List (List Nat) × List Nat :=
  if st.2 ≠ [] ∧ goesB ((st.2 ++ [k]).map (wi ws)) g w = false then (st.1 ++ [st.2], [k]) else (st.1, st.2 ++ [k])
def fl : Nat → List (List Nat) × List Nat
  | 0 => ([], [])
  | n + 1 => stp ws g w (fl n) n
def outL (st : List (List Nat) × List Nat) : List (List Nat) := if st.2 = [] then st.1 else st.1 ++ [st.2]
def brk : List (List Nat) := outL (fl ws g w ws.length)
theorem fl_ne : ∀ n, 0 < n → (fl ws g w n).2 ≠ []
  | 0, h => absurd h (by decide)
  | n + 1, _ => by
    show (stp ws g w (fl ws g w n) n).2 ≠ []
    unfold stp
    split
    · exact fun z => by cases z
    · exact fun z => by
        have := congrArg List.length z
        simp at this
theorem fl_lt : ∀ n, (∀ l ∈ (fl ws g w n).1, l ≠ [] ∧ l.length ≤ n ∧ ∀ k ∈ l, k < n) ∧ (fl ws g w n).2.length ≤ n ∧ (∀ k ∈ (fl ws g w n).2, k < n) ∧ (fl ws g w n).1.length + (if n = 0 then 0 else 1) ≤ n
  | 0 => ⟨fun l hl => (nomatch hl), Nat.le_refl _, fun k hk => (nomatch hk), Nat.le_refl _⟩
  | n + 1 => by
    obtain ⟨a, b, c, d⟩ := fl_lt n
    have e : fl ws g w (n + 1) = stp ws g w (fl ws g w n) n := rfl
    rw [e]
    unfold stp
    split
    · rename_i hc
      refine ⟨fun l hl => ?_, by show 1 ≤ n + 1; omega, fun k hk => ?_, ?_⟩
      · rcases List.mem_append.mp hl with hl | hl
        · exact ⟨(a l hl).1, by have := (a l hl).2.1; omega, fun k hk => by have := (a l hl).2.2 k hk; omega⟩
        · rw [List.mem_singleton] at hl
          subst hl
          exact ⟨hc.1, by omega, fun k hk => by have := c k hk; omega⟩
      · rw [List.mem_singleton.mp hk]
        omega
      · have n0 : n ≠ 0 := fun z => by
          subst z
          exact hc.1 rfl
        rw [if_neg n0] at d
        rw [if_neg (by omega)]
        show ((fl ws g w n).1 ++ [(fl ws g w n).2]).length + 1 ≤ n + 1
        rw [List.length_append, List.length_singleton]
        omega
    · refine ⟨fun l hl => ⟨(a l hl).1, by have := (a l hl).2.1; omega, fun k hk => by have := (a l hl).2.2 k hk; omega⟩, ?_, fun k hk => ?_, ?_⟩
      · show ((fl ws g w n).2 ++ [n]).length ≤ n + 1
        rw [List.length_append, List.length_singleton]
        omega
      · rcases List.mem_append.mp hk with hk | hk
        · have := c k hk
          omega
        · rw [List.mem_singleton.mp hk]
          omega
      · rw [if_neg (by omega)]
        show (fl ws g w n).1.length + 1 ≤ n + 1
        split at d <;> omega
theorem brk_lt : (brk ws g w).length ≤ ws.length ∧ ∀ l ∈ brk ws g w, l ≠ [] ∧ l.length ≤ ws.length ∧ ∀ k ∈ l, k < ws.length := by
  obtain ⟨a, b, c, d⟩ := fl_lt ws g w ws.length
  unfold brk outL
  split
  · exact ⟨by omega, a⟩
  · rename_i h
    refine ⟨?_, fun l hl => ?_⟩
    · rw [List.length_append, List.length_singleton]
      by_cases n0 : ws.length = 0
      · exfalso
        rw [n0] at h
        exact h rfl
      · rw [if_neg n0] at d
        exact d
    · rcases List.mem_append.mp hl with hl | hl
      · exact a l hl
      · rw [List.mem_singleton.mp hl]
        exact ⟨h, b, c⟩
variable {ws g w} 
theorem brk_len : (brk ws g w).length = hh g w ws := by
  have key : ∀ n, 0 < n → n ≤ ws.length → (fl ws g w n).1.length + 1 + C g w (usedI ((fl ws g w n).2.map (wi ws)) g) (ws.drop n) = hh g w ws := by
    intro n h0 hn
    induction n with
    | zero => omega
    | succ n ih =>
      have hl : n < ws.length := by omega
      have hd : ws.drop n = ws[n] :: ws.drop (n + 1) := List.drop_eq_getElem_cons hl
      have wn : wi ws n = ws[n] := by
        unfold wi
        rw [List.getD_eq_getElem?_getD, List.getElem?_eq_getElem hl]
        rfl
      by_cases n0 : n = 0
      · subst n0
        have e : fl ws g w 1 = ([], [0]) := by
          show stp ws g w ([], []) 0 = _
          unfold stp
          rw [if_neg fun z => z.1 rfl]
          rfl
        rw [e]
        show 0 + 1 + C g w (usedI [wi ws 0] g) (ws.drop 1) = _
        rw [used_one, wn]
        rw [List.drop_zero] at hd
        conv => rhs; rw [hd]
        show _ = 1 + C g w ws[0] (ws.drop 1)
        omega
      · have ih := ih (by omega) (by omega)
        have ne := fl_ne ws g w n (by omega)
        have ne2 : (fl ws g w n).2.map (wi ws) ≠ [] := fun z => ne (List.map_eq_nil_iff.mp z)
        rw [hd] at ih
        have e : fl ws g w (n + 1) = stp ws g w (fl ws g w n) n := rfl
        have hm : ((fl ws g w n).2 ++ [n]).map (wi ws) = (fl ws g w n).2.map (wi ws) ++ [ws[n]] := by
          rw [List.map_append]
          show _ ++ [wi ws n] = _
          rw [wn]
        rw [e]
        unfold stp
        by_cases hg : goesB (((fl ws g w n).2 ++ [n]).map (wi ws)) g w = true
        · rw [if_neg fun z => by rw [hg] at z; cases z.2]
          have hg' := hg
          unfold goesB at hg'
          have hg' := of_decide_eq_true hg'
          rw [hm, used_app ne2] at hg'
          unfold C at ih
          rw [if_pos hg'] at ih
          show (fl ws g w n).1.length + 1 + C g w (usedI (((fl ws g w n).2 ++ [n]).map (wi ws)) g) (ws.drop (n + 1)) = _
          rw [hm, used_app ne2]
          exact ih
        · have hf : goesB (((fl ws g w n).2 ++ [n]).map (wi ws)) g w = false := by simpa using hg
          rw [if_pos ⟨ne, hf⟩]
          have hg' : ¬ (usedI ((fl ws g w n).2.map (wi ws)) g + g + ws[n]) * w.2 ≤ w.1 := fun z => hg (by
            unfold goesB
            rw [hm, used_app ne2]
            exact decide_eq_true z)
          unfold C at ih
          rw [if_neg hg'] at ih
          show ((fl ws g w n).1 ++ [(fl ws g w n).2]).length + 1 + C g w (usedI [wi ws n] g) (ws.drop (n + 1)) = _
          rw [used_one, wn, List.length_append, List.length_singleton]
          omega
  by_cases n0 : ws.length = 0
  · have e : ws = [] := List.length_eq_zero_iff.mp n0
    subst e
    rfl
  · have k := key ws.length (by omega) (Nat.le_refl _)
    rw [List.drop_length] at k
    unfold brk outL
    rw [if_neg (fl_ne ws g w ws.length (by omega)), List.length_append, List.length_singleton]
    have e : C g w (usedI ((fl ws g w ws.length).2.map (wi ws)) g) [] = 0 := by unfold C; rfl
    omega
end
end Br
end

section
namespace Br
open PySem PySem.Spec PyProof.Rows L2 Y Sh
/-! # the promises of k31's defs -/
structure WsOk (ws : List Int) (g : Int) : Prop where
  len : ws.length ≤ 60
  it : ∀ x ∈ ws, 0 ≤ x ∧ x ≤ 1000
  g0 : 0 ≤ g
  g1 : g ≤ 1000
structure WdOk (w : Q2) : Prop where
  p : Pt 60 w
  n : 0 ≤ w.1
def natD (k : Nat) : D := .int (k : Int)
def lnD (l : List Nat) : D := .lst (l.map natD)
abbrev fs_taken : FSpec := fun ds R _ => ∃ (ws : List Int) (g : Int), ds = [.lst (ws.map D.int), .int g] ∧ WsOk ws g ∧ ws ≠ [] ∧ R (.val (.int (usedI ws g)))
abbrev fs_goes : FSpec := fun ds R _ => ∃ (ws : List Int) (g : Int) (w : Q2), ds = [.lst (ws.map D.int), .int g, toQ w] ∧ WsOk ws g ∧ WdOk w ∧ R (.val (.bl (goesB ws g w)))
abbrev fs_wishes_of : FSpec := fun ds R _ => ∃ (l : List Nat) (ws : List Int), ds = [.lst (l.map natD), .lst (ws.map D.int)] ∧ l.length ≤ 100 ∧ (∀ k ∈ l, k < ws.length) ∧ R (.own ((l.map (wi ws)).map D.int))
abbrev fs_broken : FSpec := fun ds R _ => ∃ (ws : List Int) (g : Int) (w : Q2), ds = [.lst (ws.map D.int), .int g, toQ w] ∧ WsOk ws g ∧ ws.length ≤ 59 ∧ WdOk w ∧ R (.own ((brk ws g w).map lnD))
abbrev fs_fewest : FSpec := fun ds R _ => ∃ (ws : List Int) (g : Int) (w : Q2), ds = [.lst (ws.map D.int), .int g, toQ w] ∧ WsOk ws g ∧ ws.length ≤ 59 ∧ WdOk w ∧ R (.val (.int ((brk ws g w).length : Int)))
theorem sum_b : ∀ ws : List Int, (∀ x ∈ ws, 0 ≤ x ∧ x ≤ 1000) → 0 ≤ ws.sum ∧ ws.sum ≤ 1000 * (ws.length : Int)
  | [], _ => ⟨Int.le_refl _, Int.le_refl _⟩
  | x :: r, h => by
    have a := h x List.mem_cons_self
    have b := sum_b r fun y hy => h y (List.mem_cons_of_mem _ hy)
    rw [List.sum_cons, List.length_cons]
    omega
theorem used_ne {ws : List Int} (h : ws ≠ []) (g : Int) : ws.sum + g * ((ws.length : Int) - 1) = usedI ws g := by
  have h1 : 1 ≤ ws.length := List.length_pos_iff.mpr h
  unfold usedI
  rw [show max 0 ((ws.length : Int) - 1) = (ws.length : Int) - 1 by omega]
theorem used_b {ws : List Int} {g : Int} (h : WsOk ws g) : 0 ≤ usedI ws g ∧ usedI ws g ≤ 120000 := by
  have s := sum_b ws h.it
  have l := h.len
  have g0 := h.g0
  have g1 := h.g1
  unfold usedI
  have m0 : 0 ≤ max 0 ((ws.length : Int) - 1) := by omega
  have m1 : max 0 ((ws.length : Int) - 1) ≤ 60 := by omega
  have a := Int.mul_nonneg g0 m0
  have b : g * max 0 ((ws.length : Int) - 1) ≤ 1000 * 60 := Int.mul_le_mul g1 m1 m0 (by decide)
  omega
theorem used_sm {ws : List Int} {g : Int} (h : WsOk ws g) : Sm 20 (usedI ws g) := by
  have := used_b h
  unfold Sm
  omega
theorem wi_get {ws : List Int} {k : Nat} (h : k < ws.length) : ws[k]? = some (wi ws k) := by
  unfold wi
  rw [List.getD_eq_getElem?_getD, List.getElem?_eq_getElem h]
  rfl
theorem wi_mem {ws : List Int} {k : Nat} (h : k < ws.length) : wi ws k ∈ ws := List.mem_of_getElem? (wi_get h)
theorem at_wi {ws : List Int} {k : Nat} (h : k < ws.length) : atI (ws.map D.int) (k : Int) = some (.int (wi ws k)) := atI_nat (by rw [List.getElem?_map, wi_get h]; rfl)
theorem ws_map {ws : List Int} {g : Int} (h : WsOk ws g) {l : List Nat} (hl : l.length ≤ 60) (hk : ∀ k ∈ l, k < ws.length) : WsOk (l.map (wi ws)) g :=
  ⟨by rw [List.length_map]; exact hl, fun x hx => by
    obtain ⟨k, hm, rfl⟩ := List.mem_map.mp hx
    exact h.it _ (wi_mem (hk k hm)), h.g0, h.g1⟩
theorem at_last {α : Type} (l : List α) (x : α) : atI (l ++ [x]) (-1) = some x := by
  have e : ixN (l ++ [x]).length (-1) = some l.length := by
    rw [List.length_append, List.length_singleton]
    unfold ixN
    simp
    omega
  unfold atI
  rw [e]
  simp
end Br
end

section
namespace K31
open PySem PySem.Spec PyProof.Rows L2 Y Sh
def topS (i : Nat) : Stmt := PySem.Challenge.pw_widthwise_k31_lines_broken.main.body.getD i (.Pass ⟨0, 0, 0, 0⟩)
abbrev s_is_whole : Stmt := topS 5
abbrev NM_is_whole : List Str := ["thing"]
theorem sc_is_whole : FnScope NM_is_whole ["thing"] (defScope s_is_whole) := ⟨rfl, rfl, rfl, by decide +kernel, rfl, by decide +kernel, by decide +kernel⟩
abbrev s_part_of : Stmt := topS 6
abbrev NM_part_of : List Str := ["top", "bottom"]
theorem sc_part_of : FnScope NM_part_of ["top", "bottom"] (defScope s_part_of) := ⟨rfl, rfl, rfl, by decide +kernel, rfl, by decide +kernel, by decide +kernel⟩
abbrev s_reduced : Stmt := topS 7
abbrev NM_reduced : List Str := ["top", "bottom", "divisor"]
theorem sc_reduced : FnScope NM_reduced ["top", "bottom"] (defScope s_reduced) := ⟨rfl, rfl, rfl, by decide +kernel, rfl, by decide +kernel, by decide +kernel⟩
abbrev s_is_more : Stmt := topS 8
abbrev NM_is_more : List Str := ["one", "other"]
theorem sc_is_more : FnScope NM_is_more ["one", "other"] (defScope s_is_more) := ⟨rfl, rfl, rfl, by decide +kernel, rfl, by decide +kernel, by decide +kernel⟩
abbrev s_broken : Stmt := topS 10
abbrev NM_broken : List Str := ["wishes", "gap", "width", "first", "behind"]
theorem sc_broken : FnScope NM_broken ["wishes", "gap", "width"] (defScope s_broken) := ⟨rfl, rfl, rfl, by decide +kernel, rfl, by decide +kernel, by decide +kernel⟩
abbrev s_goes_into : Stmt := topS 11
abbrev NM_goes_into : List Str := ["wishes", "gap", "width"]
theorem sc_goes_into : FnScope NM_goes_into ["wishes", "gap", "width"] (defScope s_goes_into) := ⟨rfl, rfl, rfl, by decide +kernel, rfl, by decide +kernel, by decide +kernel⟩
abbrev s_fewest : Stmt := topS 12
abbrev NM_fewest : List Str := ["wishes", "gap", "width"]
theorem sc_fewest : FnScope NM_fewest ["wishes", "gap", "width"] (defScope s_fewest) := ⟨rfl, rfl, rfl, by decide +kernel, rfl, by decide +kernel, by decide +kernel⟩
abbrev s_line_pairs : Stmt := topS 13
abbrev NM_line_pairs : List Str := ["wishes", "gap", "width", "whole", "found", "first", "taken", "at", "wish"]
theorem sc_line_pairs : FnScope NM_line_pairs ["wishes", "gap", "width"] (defScope s_line_pairs) := ⟨rfl, rfl, rfl, by decide +kernel, rfl, by decide +kernel, by decide +kernel⟩
abbrev s__taken : Stmt := topS 14
abbrev NM__taken : List Str := ["wishes", "gap"]
theorem sc__taken : FnScope NM__taken ["wishes", "gap"] (defScope s__taken) := ⟨rfl, rfl, rfl, by decide +kernel, rfl, by decide +kernel, by decide +kernel⟩
abbrev s__law_cell_at : Stmt := topS 16
abbrev NM__law_cell_at : List Str := ["_law_script", "_law_k"]
theorem sc__law_cell_at : FnScope NM__law_cell_at ["_law_script", "_law_k"] (defScope s__law_cell_at) := ⟨rfl, rfl, rfl, by decide +kernel, rfl, by decide +kernel, by decide +kernel⟩
abbrev s__law_mixed : Stmt := topS 17
abbrev NM__law_mixed : List Str := ["_law_script", "_law_start", "_law_many", "_law_k", "_law_found", "_law_more"]
theorem sc__law_mixed : FnScope NM__law_mixed ["_law_script", "_law_start", "_law_many"] (defScope s__law_mixed) := ⟨rfl, rfl, rfl, by decide +kernel, rfl, by decide +kernel, by decide +kernel⟩
abbrev s__law_part : Stmt := topS 18
abbrev NM__law_part : List Str := ["_law_top", "_law_bottom", "_law_one", "_law_other"]
theorem sc__law_part : FnScope NM__law_part ["_law_top", "_law_bottom"] (defScope s__law_part) := ⟨rfl, rfl, rfl, by decide +kernel, rfl, by decide +kernel, by decide +kernel⟩
abbrev s__law_sum : Stmt := topS 19
abbrev NM__law_sum : List Str := ["_law_one", "_law_other"]
theorem sc__law_sum : FnScope NM__law_sum ["_law_one", "_law_other"] (defScope s__law_sum) := ⟨rfl, rfl, rfl, by decide +kernel, rfl, by decide +kernel, by decide +kernel⟩
abbrev s__law_goes : Stmt := topS 20
abbrev NM__law_goes : List Str := ["_law_wishes", "_law_gap", "_law_width_here"]
theorem sc__law_goes : FnScope NM__law_goes ["_law_wishes", "_law_gap", "_law_width_here"] (defScope s__law_goes) := ⟨rfl, rfl, rfl, by decide +kernel, rfl, by decide +kernel, by decide +kernel⟩
abbrev s__law_broken : Stmt := topS 21
abbrev NM__law_broken : List Str := ["_law_wishes", "_law_gap", "_law_width_here", "_law_found", "_law_line", "_law_k", "_law_one", "_law_some"]
theorem sc__law_broken : FnScope NM__law_broken ["_law_wishes", "_law_gap", "_law_width_here"] (defScope s__law_broken) := ⟨rfl, rfl, rfl, by decide +kernel, rfl, by decide +kernel, by decide +kernel⟩
abbrev s__law_fewest : Stmt := topS 22
abbrev NM__law_fewest : List Str := ["_law_wishes", "_law_gap", "_law_width_here", "_law_least", "_law_begin", "_law_end"]
theorem sc__law_fewest : FnScope NM__law_fewest ["_law_wishes", "_law_gap", "_law_width_here"] (defScope s__law_fewest) := ⟨rfl, rfl, rfl, by decide +kernel, rfl, by decide +kernel, by decide +kernel⟩
abbrev s__law_width : Stmt := topS 23
abbrev NM__law_width : List Str := ["_law_wishes", "_law_gap", "_law_cell", "_law_many", "_law_begin", "_law_some", "_law_full", "_law_near", "_law_found"]
theorem sc__law_width : FnScope NM__law_width ["_law_wishes", "_law_gap", "_law_cell"] (defScope s__law_width) := ⟨rfl, rfl, rfl, by decide +kernel, rfl, by decide +kernel, by decide +kernel⟩
abbrev s_law : Stmt := topS 24
abbrev NM_law : List Str := ["_law_script", "_law_cells", "_law_cell", "_law_wishes", "_law_gap", "_law_k", "_law_width_here", "_law_due", "_law_found", "_law_line", "_law_one", "_law_some", "_law_told", "_law_goes_here"]
theorem sc_law : FnScope NM_law ["_law_script"] (defScope s_law) := ⟨rfl, rfl, rfl, by decide +kernel, rfl, by decide +kernel, by decide +kernel⟩
end K31
end

section
set_option maxHeartbeats 4000000
open PySem PySem.Spec PyProof.Rows L2 Y
local macro_rules | `(tactic| walk_at "yE") => `(tactic| first
  | ((with_reducible show tE _ _ _ (tOp _ _ _) _ _); first
    | (with_reducible refine e_ix ?_)
    | (with_reducible refine e_add ?_)
    | (with_reducible refine e_catA ?_)
    | (with_reducible refine e_sub ?_)
    | (with_reducible refine e_mul ?_)
    | (with_reducible refine e_mod ?_)
    | (with_reducible refine e_fdiv ?_)
    | (with_reducible refine e_pow ?_)
    | (with_reducible refine e_shr ?_)
    | (with_reducible refine e_band ?_)
    | (with_reducible refine e_lt ?_)
    | (with_reducible refine e_le ?_)
    | (with_reducible refine e_gt ?_)
    | (with_reducible refine e_ge ?_)
    | (with_reducible refine e_eq ?_)
    | (with_reducible refine e_ne ?_)
    | (with_reducible refine e_isN ?_)
    | (with_reducible refine e_notN ?_)
    | (with_reducible refine e_isB ?_)
    | (with_reducible refine e_isntB ?_))
  | ((with_reducible show tE _ _ _ (tCB _ _) _ _); first
    | (with_reducible refine e_len ?_)
    | (with_reducible refine e_isX (by with_unfolding_all exact fun _ h => h) ?_)
    | (with_reducible refine e_isInt ?_)
    | (with_reducible refine e_isBool ?_)
    | (with_reducible refine e_isTup ?_)
    | (with_reducible refine e_isStr ?_)
    | (with_reducible refine e_isList ?_)
    | (with_reducible refine e_gcd ?_)
    | (with_reducible refine e_abs ?_)
    | (with_reducible refine e_max2 ?_)
    | (with_reducible refine e_min2 ?_)
    | (with_reducible refine e_intB ?_)
    | (with_reducible refine e_strI ?_)
    | (with_reducible refine e_list ?_)
    | (with_reducible refine e_repr ?_)
    | (with_reducible refine e_tupL ?_)
    | (with_reducible refine e_all ?_))
  | (with_reducible refine e_val (by with_unfolding_all rfl) ?_)
  | (with_reducible refine e_own (by with_unfolding_all rfl) ?_)
  | (with_reducible refine e_int ?_)
  | (with_reducible refine e_bl ?_)
  | (with_reducible refine e_non ?_)
  | (with_reducible refine e_str ?_)
  | (with_reducible refine e_neg ?_)
  | (with_reducible refine e_and ?_)
  | (with_reducible refine e_or ?_)
  | (with_reducible refine e_not ?_)
  | (with_reducible refine e_if ?_)
  | (with_reducible refine e_chainI ?_)
  | (with_reducible refine e_tup ?_)
  | (with_reducible refine e_lst ?_)
  | (with_reducible refine e_dk0 ?_)
  | (with_reducible refine e_sl ?_)
  | (with_reducible refine e_slT ?_)
  | (with_reducible refine e_c01 (by assumption) ?_)
  | (with_reducible refine e_revL ?_))
local macro_rules | `(tactic| walk_at "yS") => `(tactic| first
  | (with_reducible refine s_seq ?_)
  | (with_reducible refine s_if ?_)
  | (with_reducible refine s_retOwn (by with_unfolding_all rfl) ?_)
  | (with_reducible refine s_ret ?_)
  | (with_reducible refine s_retN ?_)
  | (with_reducible refine s_next ?_)
  | (with_reducible refine s_set ?_ (by with_unfolding_all exact Nat.le_of_ble_eq_true rfl))
  | (with_reducible refine s_asgG ?_)
  | (with_reducible refine s_parS ?_ (by with_unfolding_all exact Nat.le_of_ble_eq_true rfl) (by with_unfolding_all exact Nat.le_of_ble_eq_true rfl))
  | (with_reducible refine s_rz ?_)
  | (with_reducible refine s_appendS (by with_unfolding_all rfl) ?_)
  | (with_reducible refine s_expr ?_)
  | ((with_reducible refine s_tryKK ?_); intro W))
local macro_rules | `(tactic| walk_at "yT") => `(tactic| first
  | (with_reducible refine t_test ?_)
  | (with_reducible refine t_tru ?_)
  | (with_reducible refine t_not ?_)
  | (with_reducible refine t_and ?_)
  | (with_reducible refine t_or ?_))
local macro_rules | `(tactic| walk_at "yA") => `(tactic| first
  | (with_reducible refine vs_cons ?_)
  | (with_reducible refine vs_nil ?_)
  | (with_reducible refine a_cons ?_)
  | (with_reducible refine a_nil ?_)
  | (with_reducible refine o_none ?_)
  | (with_reducible refine o_some ?_))
local macro_rules | `(tactic| walk_at "yX") => `(tactic| first
  | ((with_reducible show ∃ _, CmpD _ _ _ ∧ _); first | refine ⟨_, cmpd_int, ?_⟩ | refine ⟨_, cmpd_str, ?_⟩ | refine ⟨_, cmpd_bl, ?_⟩)
  | ((with_reducible show ∃ _ _, _ ∧ ExcC _ _ ∧ _); refine ⟨_, _, rfl, by assumption, by assumption, ?_⟩)
  | (refine ⟨_, _, rfl, rfl, ?_⟩)
  | (refine ⟨_, _, rfl, ?_⟩)
  | (refine ⟨_, rfl, ?_⟩))
local macro_rules | `(tactic| walk_at "yN") => `(tactic| first
  | (with_reducible refine brT ?_)
  | (with_reducible refine brF ?_)
  | (with_reducible refine brT' ?_)
  | (with_reducible refine brF' ?_)
  | ((with_reducible show ((!_) = false → _) ∧ _); first | (refine brA' rfl ?_) | (refine brB' rfl ?_))
  | ((with_reducible show ((!_) = true → _) ∧ _); first | (refine brA rfl ?_) | (refine brB rfl ?_))
  | ((with_reducible show 0 < _ ∧ _); refine ⟨by first | decide | omega, ?_⟩)
  | ((with_reducible show _ ≤ sizeLine ∧ _); refine ⟨small_len (by with_unfolding_all exact Nat.le_of_ble_eq_true rfl), ?_⟩)
  | ((with_reducible show CPow _ _ ∧ _); refine ⟨⟨by decide, by decide, by decide⟩, ?_⟩)
  | ((with_reducible show CDivX _ _ ∧ _); refine ⟨⟨by decide, by decide⟩, ?_⟩)
  | ((with_reducible show 0 ≤ _ ∧ _); refine ⟨by first | decide | omega, ?_⟩)
  | ((with_reducible show _ = D.non ∧ _); refine ⟨rfl, ?_⟩))
local macro_rules | `(tactic| walk_at "yO") => `(tactic| first
  | ((with_reducible show vR _ _); first | (with_reducible refine vr_val ?_) | (with_reducible refine vr_own ?_))
  | ((with_reducible show asgR _ _); first | (with_reducible refine as_val ?_) | (with_reducible refine as_own ?_))
  | ((with_reducible show ∃ _, _); walk_at "yX")
  | ((with_reducible show _ ∧ _); walk_at "yN")
  | ((with_reducible show AddD _ _ _); first | (refine add_int ?_) | (refine add_lst (small_len' (by with_unfolding_all exact Nat.le_of_ble_eq_true rfl)) ?_))
  | ((with_reducible show MulD _ _ _); refine mul_int (by walk_at "mok") ?_)
  | (with_reducible refine ss_go (by with_unfolding_all repeat constructor) ?_)
  | (with_reducible refine g_nameS (by first | trivial | exact List.mem_cons_self | simp) (by with_unfolding_all repeat constructor) ?_)
  | (with_reducible refine g_tup (by with_unfolding_all rfl) ?_)
  | (with_reducible refine gs_cons ?_)
  | (with_reducible refine gs_nil ?_))
local macro_rules | `(tactic| walk_at "y") => `(tactic| first
  | ((with_reducible show tE _ _ _ _ _ _); walk_at "yE")
  | ((with_reducible show tS _ _ _ _ _ _); walk_at "yS")
  | ((with_reducible show tT _ _ _ _ _ _); walk_at "yT")
  | ((with_reducible show tVs _ _ _ _ _ _); walk_at "yA")
  | ((with_reducible show tA _ _ _ _ _ _); walk_at "yA")
  | ((with_reducible show tOo _ _ _ _ _ _); walk_at "yA")
  | walk_at "yO")
local macro_rules | `(tactic| walk_at "z") => `(tactic| (fail_if_success (with_reducible show tS _ _ _ (tSeq (tIfS _ _ _) _) _ _); walk_at "y"))
local macro_rules | `(tactic| walk_at "smb") => `(tactic| first
  | assumption
  | exact (show Sm 64 _ by unfold Sm; decide)
  | (apply Sm.mul <;> walk_at "smb")
  | (apply Sm.add2 <;> walk_at "smb")
  | (apply Sm.sub2 <;> walk_at "smb")
  | (apply Sm.neg <;> walk_at "smb"))
local macro_rules | `(tactic| walk_at "mok") => `(tactic| exact mulOk (by walk_at "smb") (by walk_at "smb") (by decide) (by decide) (by decide))

namespace K31
open PySem PySem.Spec PyProof.Rows L2 Y Sh Br
section
variable {P : Program} {w : World} {K : PySem.W.Frag} {mg : Str → Option Value} {base : Heap} {f : Addr} {fd : FuncData}
theorem ok_is_whole (B : Bl mg) (F : Fun K "is_whole" "is_whole" s_is_whole f fd) : FnOk P w K mg base CX0 1 f fd ["thing"] (spD K fs_is_whole) := by
  refine fn0 F sc_is_whole (fun ds R Ex ⟨d, h, _⟩ => by rw [h]; rfl) fun cdv A outer s H E hr => ⟨_, (pss_one (ps_ret (pe_and (pe_callB (call_isiK (K := K)) (by rfl) B.bIsi (by decide +kernel) (pa_cons (pv 0) (pa_cons (pe_bltn (v := .ty "int") rfl B.bInt (by decide +kernel) rfl) pa_nil))) (pe_one (pe_not (pe_callB (call_isiK (K := K)) (by rfl) B.bIsi (by decide +kernel) (pa_cons (pv 0) (pa_cons (pe_bltn (v := .ty "bool") rfl B.bBool (by decide +kernel) rfl) pa_nil)))))))), fun ds R Ex ⟨d, hd, ht, h⟩ => ?_⟩
  subst hd
  (try dsimp only [cxOf, Cx.nox, Cx.wish]); change tS K _ _ _ [.val (d)] _
  repeat walk_at "y"
  refine ⟨ht, _, rfl, fun hc => ?_, fun hc => ?_⟩
  · repeat walk_at "y"
    refine ⟨ht, _, rfl, ?_⟩
    have e : (!isBoolD d) = isWholeD d := by cases d <;> simp_all [isIntD, isBoolD, isWholeD, Res.dat]
    show R (.val (.bl (!isBoolD d)))
    rw [e]
    exact h
  · have e : isWholeD d = false := by cases d <;> simp_all [isIntD, isBoolD, isWholeD, Res.dat]
    rw [e] at h
    exact h
theorem ok_reduced (B : Bl mg) (i_gcd : mg "gcd" = some (.builtin "math.gcd")) (F : Fun K "reduced" "reduced" s_reduced f fd) : FnOk P w K mg base CX0 1 f fd ["top", "bottom"] (spD K fs_reduced) := by
  refine fn0 F sc_reduced (fun ds R Ex ⟨a, b, h, _⟩ => by rw [h]; rfl) fun cdv A outer s H E hr => ⟨_, (pss_cons (ps_set (i := 2) sc_reduced.nd rfl (by first | exact .inl rfl | exact .inr rfl) (pe_callBfun cr_gcd (by rfl) i_gcd (pa_cons (pv 0) (pa_cons (pv 1) pa_nil))))
      (pss_one (ps_ret (pe_tup (pa_cons (pe_op op_fdivX (pv 0) (pv 2)) (pa_cons (pe_op op_fdivX (pv 1) (pv 2)) pa_nil)))))), fun ds R Ex ⟨a, b, hd, sb, b0, h⟩ => ?_⟩
  subst hd
  have hb : b ≠ 0 := by omega
  have h1 := ng_pos (a := a) hb
  have h2 := ng_le (a := a) hb
  have sg : Sm 900 (ng a b) := by
    unfold Sm at *
    omega
  (try dsimp only [cxOf, Cx.nox, Cx.wish]); change tS K _ _ _ [.val (.int a), .val (.int b), .emp] _
  repeat walk_at "y"
  refine ⟨divOk (show ng a b ≠ 0 by omega) sg (by decide) (by decide), ?_⟩
  repeat walk_at "y"
  refine ⟨divOk (show ng a b ≠ 0 by omega) sg (by decide) (by decide), ?_⟩
  repeat walk_at "y"
  have e : toQ (low a b) = pt (a.fdiv (ng a b)) (b.fdiv (ng a b)) := by
    rw [Int.fdiv_eq_ediv_of_nonneg _ (by omega), Int.fdiv_eq_ediv_of_nonneg _ (by omega)]
    rfl
  rw [e] at h
  exact h
theorem ok_part_of {CP : Addr} (B : Bl mg) (i_gcd : mg "gcd" = some (.builtin "math.gcd")) (d_is_whole : Dfn P w K mg base CX0 "is_whole" ["thing"] 1 fs_is_whole) (d_reduced : Dfn P w K mg base CX0 "reduced" ["top", "bottom"] 1 fs_reduced) (F : FunD K "part_of" "part_of" (defArgs s_part_of) (defBody s_part_of) (defScope s_part_of) [.int 1] [] f fd) : FnOk P w K mg base (L2.CX P w) 2 f fd ["top", "bottom"] (spD K (fs_part_of CP)) := by
  refine fnD F sc_part_of (fun ds R Ex ⟨a, b, h, _⟩ => by rw [h]; rfl) fun cdv A outer s H E hr => ⟨_, (pss_cons (ps_if (PW.pt (pw_or (pt_not (pt_truK (K := K) (pe_dK d_is_whole hr (pa_cons (pv 0) pa_nil)))) (pw_or (pt_not (pt_truK (K := K) (pe_dK d_is_whole hr (pa_cons (pv 1) pa_nil)))) (pw_or1 (pt_cmpR (op_eqK (K := K) hr) (pv 1) pe_int (nomark _)))))) (pss_one ps_never) pss_nil)
      (pss_cons (ps_if (pt_cmpR op_lt (pv 1) pe_int (nomark _)) (pss_one (ps_ret (pe_dK d_reduced hr (pa_cons (pe_un un_neg (pv 0)) (pa_cons (pe_un un_neg (pv 1)) pa_nil))))) pss_nil)
      (pss_one (ps_ret (pe_dK d_reduced hr (pa_cons (pv 0) (pa_cons (pv 1) pa_nil))))))), fun ds R Ex ⟨a, b, hd, sb, b0, h⟩ => ?_⟩
  subst hd
  (try dsimp only [cxOf, Cx.nox, Cx.wish]); change tS K _ _ _ [.val (.int a), .val (.int b)] _
  repeat walk_at "y"
  refine e_call (fun _ => .nil) ?_
  repeat walk_at "y"
  refine ⟨rfl, _, rfl, ?_⟩
  repeat walk_at "y"
  refine e_call (fun _ => .nil) ?_
  repeat walk_at "y"
  refine ⟨rfl, _, rfl, ?_⟩
  repeat walk_at "y"
  refine br2 (fun hb => ?_) fun hb => ?_
  · exact absurd hb (by omega)
  · repeat walk_at "y"
    refine br2 (fun hn => ?_) fun hn => ?_
    · exact absurd hn (by omega)
    · repeat walk_at "y"
      refine e_call (fun _ => .nil) ?_
      repeat walk_at "y"
      exact ⟨sb, b0, h⟩
theorem ok_is_more (B : Bl mg) (F : Fun K "is_more" "is_more" s_is_more f fd) : FnOk P w K mg base CX0 1 f fd ["one", "other"] (spD K fs_is_more) := by
  refine fn0 F sc_is_more (fun ds R Ex ⟨a, b, h, _⟩ => by rw [h]; rfl) fun cdv A outer s H E hr => ⟨_, (pss_one (ps_ret (pe_cmpR op_gt (pe_op op_mulU (pe_ix (ix_K (K := K)) (pv 0) pe_int (fun _ _ => rfl)) (pe_ix (ix_K (K := K)) (pv 1) pe_int (fun _ _ => rfl))) (pe_op op_mulU (pe_ix (ix_K (K := K)) (pv 1) pe_int (fun _ _ => rfl)) (pe_ix (ix_K (K := K)) (pv 0) pe_int (fun _ _ => rfl))) (nomark _)))), fun ds R Ex ⟨p, q, hd, hp, hq, h⟩ => ?_⟩
  subst hd
  have s1 := hp.s1
  have s2 := hp.s2
  have s3 := hq.s1
  have s4 := hq.s2
  (try dsimp only [cxOf, Cx.nox, Cx.wish]); change tS K _ _ _ [.val (toQ p), .val (toQ q)] _
  repeat walk_at "y"
  exact h
theorem ok_taken (B : Bl mg) (F : Fun K "_taken" "_taken" s__taken f fd) : FnOk P w K mg base CX0 1 f fd ["wishes", "gap"] (spD K fs_taken) := by
  refine fn0 F sc__taken (fun ds R Ex ⟨a, b, h, _⟩ => by rw [h]; rfl) fun cdv A outer s H E hr => ⟨_, (pss_one (ps_ret (pe_op op_addU (pe_callB (call_sumK (K := K) rfl) (by rfl) B.bSum (by decide +kernel) (pa_cons (pv 0) pa_nil)) (pe_op op_mulU (pv 1) (pe_op op_sub (pe_callB (call_lenK (K := K)) (by rfl) B.bLen (by decide +kernel) (pa_cons (pv 0) pa_nil)) pe_int))))), fun ds R Ex ⟨ws, g, hd, hw, ne, h⟩ => ?_⟩
  subst hd
  have sg : Sm 64 g := by
    have := hw.g0
    have := hw.g1
    unfold Sm
    omega
  have sl : Sm 64 (((ws.map D.int).length : Nat) : Int) := by
    have := hw.len
    rw [List.length_map]
    unfold Sm
    omega
  rw [← used_ne ne, ← List.length_map (f := D.int) (as := ws)] at h
  (try dsimp only [cxOf, Cx.nox, Cx.wish]); change tS K _ _ _ [.val (.lst (ws.map D.int)), .val (.int g)] _
  repeat walk_at "y"
  refine e_sum ?_
  repeat walk_at "y"
  exact h
theorem ok_goes_into {CP : Addr} (B : Bl mg) (d_is_more : Dfn P w K mg base CX0 "is_more" ["one", "other"] 1 fs_is_more) (d_part_of_1 : DfnD P w K mg base (L2.CX P w) "part_of" ["top", "bottom"] [.int 1] 2 (fs_part_of CP)) (d__taken : Dfn P w K mg base CX0 "_taken" ["wishes", "gap"] 1 fs_taken)
    (F : Fun K "goes_into" "goes_into" s_goes_into f fd) : FnOk P w K mg base CX0 3 f fd ["wishes", "gap", "width"] (spD K fs_goes) := by
  refine fn0 F sc_goes_into (fun ds R Ex ⟨a, b, c, h, _⟩ => by rw [h]; rfl) fun cdv A outer s H E hr => ⟨_, (pss_one (ps_ret (pe_or (pe_notTK (K := K) (pv 0)) (pe_one (pe_not (pe_dK d_is_more (hr.mono (by decide)) (pa_cons (pe_dNDK d_part_of_1 hr (pa_cons (pe_dK d__taken (hr.mono (by decide)) (pa_cons (pv 0) (pa_cons (pv 1) pa_nil))) pa_nil)) (pa_cons (pv 2) pa_nil)))))))), fun ds R Ex ⟨ws, g, wd, hd, hw, ho, h⟩ => ?_⟩
  subst hd
  (try dsimp only [cxOf, Cx.nox, Cx.wish]); change tS K _ _ _ [.val (.lst (ws.map D.int)), .val (.int g), .val (toQ wd)] _
  repeat walk_at "y"
  refine e_notT ?_
  repeat walk_at "y"
  by_cases e : ws = []
  · subst e
    have g1 : goesB [] g wd = true := by
      unfold goesB
      refine decide_eq_true ?_
      have e : usedI [] g = 0 := by
        unfold usedI
        show (0 : Int) + g * 0 = 0
        omega
      rw [e]
      have := ho.n
      omega
    rw [g1] at h
    exact ⟨fun z => Bool.noConfusion z, fun _ => h⟩
  · have t1 : (ws.map D.int).isEmpty = false := by cases ws <;> first | exact absurd rfl e | rfl
    rw [t1]
    refine ⟨fun _ => ?_, fun z => Bool.noConfusion z⟩
    repeat walk_at "y"
    refine e_call (fun _ => .nil) ?_
    repeat walk_at "y"
    refine e_call (fun _ => .cons (.int 1) .nil) ?_
    repeat walk_at "y"
    refine e_call (fun _ => .nil) ?_
    repeat walk_at "y"
    refine ⟨hw, e, ?_⟩
    repeat walk_at "y"
    refine ⟨(show Sm 900 1 from Sm.le (n := 4) (by unfold Sm; decide) (by decide)), by decide, ?_⟩
    rw [low_one]
    repeat walk_at "y"
    refine ⟨(int_pt (used_sm hw) (by decide)).up (by decide), ho.p.up (by decide), ?_⟩
    have e2 : (!decide (ltQ wd (usedI ws g, 1))) = goesB ws g wd := by
      unfold goesB
      have q : ltQ wd (usedI ws g, 1) ↔ wd.1 * 1 < usedI ws g * wd.2 := Iff.rfl
      by_cases c : ltQ wd (usedI ws g, 1)
      · have c' := q.mp c
        rw [decide_eq_true c, decide_eq_false (by omega)]
        rfl
      · have c' : ¬ wd.1 * 1 < usedI ws g * wd.2 := fun z => c (q.mpr z)
        rw [decide_eq_false c, decide_eq_true (by omega)]
        rfl
    repeat walk_at "y"
    show R (.val (.bl (!decide (ltQ wd (usedI ws g, 1)))))
    rw [e2]
    exact h
end
end K31
end

section
set_option maxHeartbeats 4000000
open PySem PySem.Spec PyProof.Rows L2 Y
local macro_rules | `(tactic| walk_at "yE") => `(tactic| first
  | ((with_reducible show tE _ _ _ (tOp _ _ _) _ _); first
    | (with_reducible refine e_ix ?_)
    | (with_reducible refine e_add ?_)
    | (with_reducible refine e_catA ?_)
    | (with_reducible refine e_sub ?_)
    | (with_reducible refine e_mul ?_)
    | (with_reducible refine e_mod ?_)
    | (with_reducible refine e_fdiv ?_)
    | (with_reducible refine e_pow ?_)
    | (with_reducible refine e_shr ?_)
    | (with_reducible refine e_band ?_)
    | (with_reducible refine e_lt ?_)
    | (with_reducible refine e_le ?_)
    | (with_reducible refine e_gt ?_)
    | (with_reducible refine e_ge ?_)
    | (with_reducible refine e_eq ?_)
    | (with_reducible refine e_ne ?_)
    | (with_reducible refine e_isN ?_)
    | (with_reducible refine e_notN ?_)
    | (with_reducible refine e_isB ?_)
    | (with_reducible refine e_isntB ?_))
  | ((with_reducible show tE _ _ _ (tCB _ _) _ _); first
    | (with_reducible refine e_len ?_)
    | (with_reducible refine e_isX (by with_unfolding_all exact fun _ h => h) ?_)
    | (with_reducible refine e_isInt ?_)
    | (with_reducible refine e_isBool ?_)
    | (with_reducible refine e_isTup ?_)
    | (with_reducible refine e_isStr ?_)
    | (with_reducible refine e_isList ?_)
    | (with_reducible refine e_gcd ?_)
    | (with_reducible refine e_abs ?_)
    | (with_reducible refine e_max2 ?_)
    | (with_reducible refine e_min2 ?_)
    | (with_reducible refine e_intB ?_)
    | (with_reducible refine e_strI ?_)
    | (with_reducible refine e_list ?_)
    | (with_reducible refine e_repr ?_)
    | (with_reducible refine e_tupL ?_)
    | (with_reducible refine e_all ?_))
  | (with_reducible refine e_val (by with_unfolding_all rfl) ?_)
  | (with_reducible refine e_own (by with_unfolding_all rfl) ?_)
  | (with_reducible refine e_int ?_)
  | (with_reducible refine e_bl ?_)
  | (with_reducible refine e_non ?_)
  | (with_reducible refine e_str ?_)
  | (with_reducible refine e_neg ?_)
  | (with_reducible refine e_and ?_)
  | (with_reducible refine e_or ?_)
  | (with_reducible refine e_not ?_)
  | (with_reducible refine e_if ?_)
  | (with_reducible refine e_chainI ?_)
  | (with_reducible refine e_tup ?_)
  | (with_reducible refine e_lst ?_)
  | (with_reducible refine e_dk0 ?_)
  | (with_reducible refine e_sl ?_)
  | (with_reducible refine e_slT ?_)
  | (with_reducible refine e_c01 (by assumption) ?_)
  | (with_reducible refine e_revL ?_))
local macro_rules | `(tactic| walk_at "yS") => `(tactic| first
  | (with_reducible refine s_seq ?_)
  | (with_reducible refine s_if ?_)
  | (with_reducible refine s_retOwn (by with_unfolding_all rfl) ?_)
  | (with_reducible refine s_ret ?_)
  | (with_reducible refine s_retN ?_)
  | (with_reducible refine s_next ?_)
  | (with_reducible refine s_set ?_ (by with_unfolding_all exact Nat.le_of_ble_eq_true rfl))
  | (with_reducible refine s_asgG ?_)
  | (with_reducible refine s_parS ?_ (by with_unfolding_all exact Nat.le_of_ble_eq_true rfl) (by with_unfolding_all exact Nat.le_of_ble_eq_true rfl))
  | (with_reducible refine s_rz ?_)
  | (with_reducible refine s_appendS (by with_unfolding_all rfl) ?_)
  | (with_reducible refine s_expr ?_)
  | ((with_reducible refine s_tryKK ?_); intro W))
local macro_rules | `(tactic| walk_at "yT") => `(tactic| first
  | (with_reducible refine t_test ?_)
  | (with_reducible refine t_tru ?_)
  | (with_reducible refine t_not ?_)
  | (with_reducible refine t_and ?_)
  | (with_reducible refine t_or ?_))
local macro_rules | `(tactic| walk_at "yA") => `(tactic| first
  | (with_reducible refine vs_cons ?_)
  | (with_reducible refine vs_nil ?_)
  | (with_reducible refine a_cons ?_)
  | (with_reducible refine a_nil ?_)
  | (with_reducible refine o_none ?_)
  | (with_reducible refine o_some ?_))
local macro_rules | `(tactic| walk_at "yX") => `(tactic| first
  | ((with_reducible show ∃ _, CmpD _ _ _ ∧ _); first | refine ⟨_, cmpd_int, ?_⟩ | refine ⟨_, cmpd_str, ?_⟩ | refine ⟨_, cmpd_bl, ?_⟩)
  | ((with_reducible show ∃ _ _, _ ∧ ExcC _ _ ∧ _); refine ⟨_, _, rfl, by assumption, by assumption, ?_⟩)
  | (refine ⟨_, _, rfl, rfl, ?_⟩)
  | (refine ⟨_, _, rfl, ?_⟩)
  | (refine ⟨_, rfl, ?_⟩))
local macro_rules | `(tactic| walk_at "yN") => `(tactic| first
  | (with_reducible refine brT ?_)
  | (with_reducible refine brF ?_)
  | (with_reducible refine brT' ?_)
  | (with_reducible refine brF' ?_)
  | ((with_reducible show ((!_) = false → _) ∧ _); first | (refine brA' rfl ?_) | (refine brB' rfl ?_))
  | ((with_reducible show ((!_) = true → _) ∧ _); first | (refine brA rfl ?_) | (refine brB rfl ?_))
  | ((with_reducible show 0 < _ ∧ _); refine ⟨by first | decide | omega, ?_⟩)
  | ((with_reducible show _ ≤ sizeLine ∧ _); refine ⟨small_len (by with_unfolding_all exact Nat.le_of_ble_eq_true rfl), ?_⟩)
  | ((with_reducible show CPow _ _ ∧ _); refine ⟨⟨by decide, by decide, by decide⟩, ?_⟩)
  | ((with_reducible show CDivX _ _ ∧ _); refine ⟨⟨by decide, by decide⟩, ?_⟩)
  | ((with_reducible show 0 ≤ _ ∧ _); refine ⟨by first | decide | omega, ?_⟩)
  | ((with_reducible show _ = D.non ∧ _); refine ⟨rfl, ?_⟩))
local macro_rules | `(tactic| walk_at "yO") => `(tactic| first
  | ((with_reducible show vR _ _); first | (with_reducible refine vr_val ?_) | (with_reducible refine vr_own ?_))
  | ((with_reducible show asgR _ _); first | (with_reducible refine as_val ?_) | (with_reducible refine as_own ?_))
  | ((with_reducible show ∃ _, _); walk_at "yX")
  | ((with_reducible show _ ∧ _); walk_at "yN")
  | ((with_reducible show AddD _ _ _); first | (refine add_int ?_) | (refine add_lst (small_len' (by with_unfolding_all exact Nat.le_of_ble_eq_true rfl)) ?_))
  | ((with_reducible show MulD _ _ _); refine mul_int (by walk_at "mok") ?_)
  | (with_reducible refine ss_go (by with_unfolding_all repeat constructor) ?_)
  | (with_reducible refine g_nameS (by first | trivial | exact List.mem_cons_self | simp) (by with_unfolding_all repeat constructor) ?_)
  | (with_reducible refine g_tup (by with_unfolding_all rfl) ?_)
  | (with_reducible refine gs_cons ?_)
  | (with_reducible refine gs_nil ?_))
local macro_rules | `(tactic| walk_at "y") => `(tactic| first
  | ((with_reducible show tE _ _ _ _ _ _); walk_at "yE")
  | ((with_reducible show tS _ _ _ _ _ _); walk_at "yS")
  | ((with_reducible show tT _ _ _ _ _ _); walk_at "yT")
  | ((with_reducible show tVs _ _ _ _ _ _); walk_at "yA")
  | ((with_reducible show tA _ _ _ _ _ _); walk_at "yA")
  | ((with_reducible show tOo _ _ _ _ _ _); walk_at "yA")
  | walk_at "yO")
local macro_rules | `(tactic| walk_at "z") => `(tactic| (fail_if_success (with_reducible show tS _ _ _ (tSeq (tIfS _ _ _) _) _ _); walk_at "y"))
local macro_rules | `(tactic| walk_at "smb") => `(tactic| first
  | assumption
  | exact (show Sm 64 _ by unfold Sm; decide)
  | (apply Sm.mul <;> walk_at "smb")
  | (apply Sm.add2 <;> walk_at "smb")
  | (apply Sm.sub2 <;> walk_at "smb")
  | (apply Sm.neg <;> walk_at "smb"))
local macro_rules | `(tactic| walk_at "mok") => `(tactic| exact mulOk (by walk_at "smb") (by walk_at "smb") (by decide) (by decide) (by decide))

namespace K31
open PySem PySem.Spec PyProof.Rows L2 Y Sh Br
section
variable {P : Program} {w : World} {K : PySem.W.Frag} {mg : Str → Option Value} {base : Heap} {f : Addr} {fd : FuncData}
theorem ok_law_cell_at (B : Bl mg) (F : Fun K "_law_cell_at" "_law_cell_at" s__law_cell_at f fd) : FnOk P w K mg base CX0 1 f fd ["_law_script", "_law_k"] (spD K fs_cell_at) := by
  refine fn0 F sc__law_cell_at (fun ds R Ex ⟨a, b, h, _⟩ => by rw [h]; rfl) fun cdv A outer s H E hr => ⟨_, (pss_cons (ps_if (pt_cmpR op_lt (pv 1) (pe_callB (call_lenK (K := K)) (by rfl) B.bLen (by decide +kernel) (pa_cons (pv 0) pa_nil)) (nomark _)) (pss_one (ps_ret (pe_ix (ix_K (K := K)) (pv 0) (pv 1) (fun _ _ => rfl)))) pss_nil)
      (pss_one (ps_ret pe_int))), fun ds R Ex ⟨ns, k, hd, k0, h⟩ => ?_⟩
  subst hd
  (try dsimp only [cxOf, Cx.nox, Cx.wish]); change tS K _ _ _ [.val (.fz (ns.map D.int)), .val (.int k)] _
  repeat walk_at "y"
  refine br2 (fun hl => ?_) fun hl => ?_
  · rw [List.length_map] at hl
    obtain ⟨j, rfl⟩ : ∃ j : Nat, k = (j : Int) := ⟨k.toNat, by omega⟩
    have hj : j < ns.length := by omega
    have e : ns.getD (j : Int).toNat 0 = ns[j] := by
      rw [Int.toNat_natCast, List.getD_eq_getElem?_getD, List.getElem?_eq_getElem hj]
      rfl
    rw [e] at h
    repeat walk_at "y"
    exact ⟨_, _, rfl, atI_nat (by rw [List.getElem?_map, List.getElem?_eq_getElem hj]; rfl), h⟩
  · rw [List.length_map] at hl
    have e : ns.getD k.toNat 0 = 0 := by
      rw [List.getD_eq_getElem?_getD, List.getElem?_eq_none (by omega)]
      rfl
    rw [e] at h
    repeat walk_at "y"
    exact h
theorem ok_law_mixed (B : Bl mg) (d__law_cell_at : Dfn P w K mg base CX0 "_law_cell_at" ["_law_script", "_law_k"] 1 fs_cell_at) (F : Fun K "_law_mixed" "_law_mixed" s__law_mixed f fd) : FnOk P w K mg base CX0 2 f fd ["_law_script", "_law_start", "_law_many"] (spD K fs_mixed) := by
  refine fn0 F sc__law_mixed (fun ds R Ex ⟨a, b, c, h, _⟩ => by rw [h]; rfl) fun cdv A outer s H E hr => ⟨_, (pss_cons (ps_if (PW.pt (pw_and (pt_cmpR (op_neK (K := K) hr) (pv 0) (pe_lst pa_nil) (nomark _)) (pw_and1 (pt_cmpR (op_eqK (K := K) hr) (pe_op op_mod (pe_ix (ix_K (K := K)) (pv 0) pe_int (fun _ _ => rfl)) pe_int) pe_int (nomark _))))) (pss_one (ps_ret (pe_lc (own := [("_law_k", 3)]) rfl sc__law_mixed.nd (pi_range1 (by rfl) B.bRange (pa_cons (pv 2) pa_nil)) (blkOk_by (N := NM__law_mixed) (sc := defScope s__law_mixed) (by decide +kernel)) (fun _ _ _ _ _ => (pg_name (i := 3) sc__law_mixed.nd rfl (by first | exact .inl rfl | exact .inr rfl))) (fun _ _ _ _ _ => pts_nil) (fun _ _ _ _ _ => (pe_callB call_abs (by rfl) B.bAbs (by decide +kernel) (pa_cons (pe_dK d__law_cell_at hr (pa_cons (pv 0) (pa_cons (pe_op op_addU (pe_op op_addU (pv 1) (pv 3)) pe_int) pa_nil))) pa_nil)))))) pss_nil)
      (pss_cons (ps_set (i := 4) sc__law_mixed.nd rfl (by first | exact .inl rfl | exact .inr rfl) (pe_lst pa_nil))
      (pss_cons (ps_set (i := 5) sc__law_mixed.nd rfl (by first | exact .inl rfl | exact .inr rfl) pe_int)
      (pss_cons (ps_for PassesOwn.never rfl (pi_range1 (by rfl) B.bRange (pa_cons (pv 2) pa_nil)) (pg_name (i := 3) sc__law_mixed.nd rfl (by first | exact .inl rfl | exact .inr rfl))
      (pss_cons (ps_set (i := 5) sc__law_mixed.nd rfl (by first | exact .inl rfl | exact .inr rfl) (pe_op op_mod (pe_op op_addU (pe_op op_addU (pe_op op_addU (pe_op op_mulU (pv 5) pe_int) (pe_dK d__law_cell_at hr (pa_cons (pv 0) (pa_cons (pe_op op_addU (pv 1) (pv 3)) pa_nil)))) (pe_op op_mulU pe_int (pv 3))) pe_int) pe_int))
      (pss_one (ps_expr (pe_bm PySem.F.plainAttrs_list PySem.F.slot_list_append PySem.F.type_list_append mt_append (pv 4) (pa_cons (pe_op op_mod (pe_op op_addU (pe_op op_mulU (pv 5) (pv 5)) (pe_op op_mulU pe_int (pv 5))) pe_int) pa_nil))))))
      (pss_one (ps_ret (pv 4))))))), fun ds R Ex ⟨ns, st, m, hd, hn, hs, hm, h⟩ => ?_⟩
  subst hd
  have pl : ∀ l : List Int, plainAll (l.map D.int) = true := fun l => by
    induction l with
    | nil => rfl
    | cons a l ih => exact ih
  have cn : CmpD (.fz (ns.map D.int)) (.lst []) ns.isEmpty := by
    refine ⟨⟨pl ns, rfl, Nat.le_trans (Nat.min_le_right _ _) (by decide)⟩, ?_⟩
    cases ns <;> rfl
  (try dsimp only [cxOf, Cx.nox, Cx.wish]); change tS K _ _ _ [.val (.fz (ns.map D.int)), .val (.int st), .val (.int m), .emp, .emp, .emp] _
  refine s_seqJ (fun ρ' => ρ' = [.val (.fz (ns.map D.int)), .val (.int st), .val (.int m), .emp, .emp, .emp]) ?_ fun ρ' hρ => ?_
  · repeat walk_at "y"
    refine ⟨_, cn, _, rfl, fun hne => ?_, fun he => ?_⟩
    · obtain ⟨n0, nr, rfl⟩ : ∃ n0 nr, ns = n0 :: nr := by
        cases ns with
        | nil => cases hne
        | cons x r => exact ⟨x, r, rfl⟩
      repeat walk_at "y"
      refine ⟨0, .int n0, rfl, atI_nat (j := 0) rfl, ?_⟩
      repeat walk_at "y"
      refine br2 (fun he => ?_) fun he => ?_
      · repeat walk_at "y"
        refine e_lcM (fun d : D => match d with | .int k => .int ((((n0 :: nr).getD (((st : Int) + k + 1)).toNat 0).natAbs : Nat) : Int) | d => d) (tIt.ic (i_range1 ?_))
        repeat walk_at "y"
        refine ⟨by omega, by omega, by rw [rangeD_len]; exact small_len' (by omega), fun d hd => ?_, ?_⟩
        · unfold rangeD at hd
          obtain ⟨j, hj, rfl⟩ := List.mem_map.mp hd
          repeat walk_at "y"
          refine e_call (fun _ => .nil) ?_
          repeat walk_at "y"
          rfl
        · have e : List.map (fun d : D => match d with | .int k => D.int ((((n0 :: nr).getD (((st : Int) + k + 1)).toNat 0).natAbs : Nat) : Int) | d => d) (rangeD 0 (m : Int).toNat) = ((List.range m).map fun j : Nat => ((((n0 :: nr).getD (((st : Int) + (0 + (j : Int)) + 1)).toNat 0).natAbs : Nat) : Int)).map D.int := by
            unfold rangeD
            rw [List.map_map, List.map_map, Int.toNat_natCast]
            rfl
          rw [e]
          refine h _ (by rw [List.length_map, List.length_range]) fun x hx => ?_
          obtain ⟨j, _, rfl⟩ := List.mem_map.mp hx
          omega
      · repeat walk_at "y"
        rfl
    · repeat walk_at "y"
      rfl
  · subst hρ
    repeat walk_at "y"
    refine s_for (i_range1 ?_)
    repeat walk_at "y"
    refine ⟨by omega, by omega, ?_⟩
    refine ⟨fun i ρ => ∃ (rows : List Int) (more : Int) (s3 : Slot), ρ = [.val (.fz (ns.map D.int)), .val (.int st), .val (.int m), s3, .own (rows.map D.int), .val (.int more)] ∧ rows.length = i ∧ (0 ≤ more ∧ more < 2147483647) ∧ ∀ x ∈ rows, 0 ≤ x,
      ⟨[], 7, _, rfl, rfl, ⟨by decide, by decide⟩, fun x hx => by (cases hx)⟩, ?_, ?_⟩
    · rintro i d ρ' hd ⟨rows, more, s3, rfl, hl, ⟨q0, q1⟩, hx⟩
      obtain ⟨hi, rfl⟩ := rangeD_get hd
      rw [Int.toNat_natCast] at hi
      rw [Int.zero_add]
      have sq : Sm 64 more := by unfold Sm; omega
      have si : Sm 64 ((i : Nat) : Int) := by unfold Sm; omega
      repeat walk_at "y"
      refine e_call (fun _ => .nil) ?_
      repeat walk_at "y"
      obtain ⟨c, hc⟩ : ∃ c : Int, ns.getD ((st : Int) + (i : Int)).toNat 0 = c := ⟨_, rfl⟩
      rw [hc]
      obtain ⟨q, hq⟩ : ∃ q : Int, (more * 48271 + c + 31 * (i : Int) + 1) % 2147483647 = q := ⟨_, rfl⟩
      have z0 := Int.emod_nonneg (more * 48271 + c + 31 * (i : Int) + 1) (show (2147483647 : Int) ≠ 0 by decide)
      have z1 := Int.emod_lt_of_pos (more * 48271 + c + 31 * (i : Int) + 1) (show (0 : Int) < 2147483647 by decide)
      rw [hq] at z0 z1 ⊢
      have sq' : Sm 64 q := by unfold Sm; omega
      repeat walk_at "y"
      refine ⟨small_lt (by rw [List.length_map]; omega), ?_⟩
      repeat walk_at "y"
      have y0 := Int.emod_nonneg (q * q + 16807 * q) (show (2147483629 : Int) ≠ 0 by decide)
      refine ⟨rows ++ [(q * q + 16807 * q) % 2147483629], q, _, by rw [List.map_append]; rfl, by rw [List.length_append, hl]; rfl, ⟨z0, z1⟩, fun x hx' => ?_⟩
      rcases List.mem_append.mp hx' with hx' | hx'
      · exact hx x hx'
      · rw [List.mem_singleton.mp hx']
        exact y0
    · rintro ρ' ⟨rows, more, s3, rfl, hl, ⟨q0, q1⟩, hx⟩
      rw [rangeD_len, Int.toNat_natCast] at hl
      repeat walk_at "y"
      exact h rows hl hx
theorem ok_law_part (B : Bl mg) (F : Fun K "_law_part" "_law_part" s__law_part f fd) : FnOk P w K mg base CX0 1 f fd ["_law_top", "_law_bottom"] (spD K fs_law_part) := by
  refine fn0 F sc__law_part (fun ds R Ex ⟨a, b, h, _⟩ => by rw [h]; rfl) fun cdv A outer s H E hr => ⟨_, (pss_cons (ps_par (i := 2) (j := 3) rfl sc__law_part.nd rfl rfl (by decide) rfl rfl (pa_cons (pe_callB call_abs (by rfl) B.bAbs (by decide +kernel) (pa_cons (pv 0) pa_nil)) (pa_cons (pe_callB call_abs (by rfl) B.bAbs (by decide +kernel) (pa_cons (pv 1) pa_nil)) pa_nil)) (by rfl))
      (pss_cons (ps_while PassesOwn.never (pt_cmpR op_gt (pv 3) pe_int (nomark _)) (pss_one (ps_par (i := 2) (j := 3) rfl sc__law_part.nd rfl rfl (by decide) rfl rfl (pa_cons (pv 3) (pa_cons (pe_op op_mod (pv 2) (pv 3)) pa_nil)) (by rfl))))
      (pss_cons (ps_if (pt_cmpR op_lt (pv 1) pe_int (nomark _)) (pss_one (ps_set (i := 2) sc__law_part.nd rfl (by first | exact .inl rfl | exact .inr rfl) (pe_un un_neg (pv 2)))) pss_nil)
      (pss_one (ps_ret (pe_tup (pa_cons (pe_op op_fdivX (pv 0) (pv 2)) (pa_cons (pe_op op_fdivX (pv 1) (pv 2)) pa_nil)))))))), fun ds R Ex ⟨a, b, hd, hb, sb, h⟩ => ?_⟩
  subst hd
  have h1 := ng_pos (a := a) (b := b) (by omega)
  have h2 := ng_le (a := a) (b := b) (by omega)
  have sg : Sm 900 (ng a b) := by
    unfold Sm at *
    omega
  have e : toQ (low a b) = pt (a.fdiv (ng a b)) (b.fdiv (ng a b)) := by
    rw [Int.fdiv_eq_ediv_of_nonneg _ (by omega), Int.fdiv_eq_ediv_of_nonneg _ (by omega)]
    rfl
  rw [e] at h
  (try dsimp only [cxOf, Cx.nox, Cx.wish]); change tS K _ _ _ [.val (.int a), .val (.int b), .emp, .emp] _
  repeat walk_at "y"
  refine s_while (fun ρ => ∃ x y : Nat, ρ = [.val (.int a), .val (.int b), .val (.int x), .val (.int y)] ∧ Nat.gcd x y = Nat.gcd a.natAbs b.natAbs) (fun ρ => match ρ with | [_, _, _, .val (.int y)] => y.toNat | _ => 0) ⟨a.natAbs, b.natAbs, rfl, rfl⟩ fun ρ' ⟨x, y, hρ, hg⟩ => ?_
  subst hρ
  repeat walk_at "y"
  refine br2 (fun hp => ?_) fun hp => ?_
  · repeat walk_at "y"
    have hy : 0 < y := by omega
    refine ⟨⟨y, x % y, by rw [← Int.natCast_emod], ?_⟩, ?_⟩
    · rw [← hg, Nat.gcd_comm x y, Nat.gcd_rec y x, Nat.gcd_comm]
    · have z := Nat.mod_lt x hy
      show ((x : Int) % (y : Int)).toNat < ((y : Int)).toNat
      rw [← Int.natCast_emod]
      omega
  · have hy : y = 0 := by omega
    subst hy
    rw [Nat.gcd_zero_right] at hg
    have ex : ((x : Nat) : Int) = ng a b := by rw [hg]; rfl
    rw [ex]
    repeat walk_at "y"
    refine br2 (fun hn => ?_) fun hn => ?_
    · exact absurd hn (by omega)
    · repeat walk_at "y"
      refine ⟨divOk (show ng a b ≠ 0 by omega) sg (by decide) (by decide), ?_⟩
      repeat walk_at "y"
      refine ⟨divOk (show ng a b ≠ 0 by omega) sg (by decide) (by decide), ?_⟩
      repeat walk_at "y"
      exact h
theorem ok_law_sum (B : Bl mg) (d__law_part : Dfn P w K mg base CX0 "_law_part" ["_law_top", "_law_bottom"] 1 fs_law_part) (F : Fun K "_law_sum" "_law_sum" s__law_sum f fd) : FnOk P w K mg base CX0 2 f fd ["_law_one", "_law_other"] (spD K (fs_op2 addQ)) := by
  refine fn0 F sc__law_sum (fun ds R Ex ⟨a, b, h, _⟩ => by rw [h]; rfl) fun cdv A outer s H E hr => ⟨_, (pss_one (ps_ret (pe_dK d__law_part hr (pa_cons (pe_op op_addU (pe_op op_mulU (pe_ix (ix_K (K := K)) (pv 0) pe_int (fun _ _ => rfl)) (pe_ix (ix_K (K := K)) (pv 1) pe_int (fun _ _ => rfl))) (pe_op op_mulU (pe_ix (ix_K (K := K)) (pv 1) pe_int (fun _ _ => rfl)) (pe_ix (ix_K (K := K)) (pv 0) pe_int (fun _ _ => rfl)))) (pa_cons (pe_op op_mulU (pe_ix (ix_K (K := K)) (pv 0) pe_int (fun _ _ => rfl)) (pe_ix (ix_K (K := K)) (pv 1) pe_int (fun _ _ => rfl))) pa_nil))))), fun ds R Ex ⟨p, q, hd, hp, hq, h⟩ => ?_⟩
  subst hd
  have s1 := hp.s1
  have s2 := hp.s2
  have s3 := hq.s1
  have s4 := hq.s2
  (try dsimp only [cxOf, Cx.nox, Cx.wish]); change tS K _ _ _ [.val (toQ p), .val (toQ q)] _
  repeat walk_at "y"
  refine e_call (fun _ => .nil) ?_
  repeat walk_at "y"
  exact ⟨Int.mul_pos hp.pos hq.pos, Sm.le (Sm.mul s2 s4) (by decide), h⟩
end
end K31
end

section
namespace Y
open PySem PySem.Spec PyProof.Rows L2
theorem rps_rg {K : PySem.W.Frag} {G : Hp} {a b : Int} : Rps K G (rgV a b) (rangeD a (b - a).toNat) := by
  unfold rgV rangeD
  generalize List.range (b - a).toNat = l
  induction l with
  | nil => exact .nil
  | cons i l ih => exact .cons (.int _) ih
/-- list(range(a, b)) -/
theorem e_listRg {K : PySem.W.Frag} {Ex : Value → List Slot → Prop} {E : L2.St → XK} {ρ : List Slot} {R : Res → Prop} {ta tb : TE}
    (h : tE K Ex E ta ρ fun a => tE K Ex E tb ρ fun b => ∃ i j, a.dat = .int i ∧ b.dat = .int j ∧ RgOk i j ∧ R (.own (rangeD i (j - i).toNat))) : tE K Ex E (tLstRg (tRg2 ta tb)) ρ R :=
  fun G0 H0 G σ H Q S X k => h G0 H0 G σ H _ S X fun a ha v G1 H1 e1 r1 => ha G0 H0 G1 σ H1 _ (S.step e1) X fun b ⟨i, j, h1, h2, ok, hr⟩ u G2 H2 e2 r2 => by
    have q := (r1.step e2).rd e2.sub
    rw [h1] at q
    have q2 := r2.rd e2.sub
    rw [h2] at q2
    refine ⟨i, j, q.inv_int, q2.inv_int, ok, fun l np => ?_⟩
    have e := e1.trans e2
    exact k _ hr _ G2 _ (e.trans (Ev.own e2.sub np)) ⟨l, _, rfl, e.hs.free np, e2.sub.free np, upd_same, rps_rg⟩
end Y
end

section
namespace Br
open PySem PySem.Spec PyProof.Rows L2 Y Sh
/-! # lines as pairs of the first number and the one behind the last -/
def ivl (p : Nat × Nat) : List Nat := List.range' p.1 (p.2 - p.1)
section
variable (ws : List Int) (g : Int) (w : Q2)
def pst : Nat → List (Nat × Nat) × Nat
  | 0 => ([], 0)
  | n + 1 => if (pst n).2 < n ∧ goesB ((ivl ((pst n).2, n + 1)).map (wi ws)) g w = false then ((pst n).1 ++ [((pst n).2, n)], n) else pst n
def prs : List (Nat × Nat) := if ws = [] then [] else (pst ws g w ws.length).1 ++ [((pst ws g w ws.length).2, ws.length)]
theorem ivl_app {f n : Nat} (h : f ≤ n) : ivl (f, n) ++ [n] = ivl (f, n + 1) := by
  unfold ivl
  show List.range' f (n - f) ++ [n] = List.range' f (n + 1 - f)
  rw [show n + 1 - f = (n - f) + 1 by omega, List.range'_concat]
  congr 2
  omega
theorem ivl_nil {n : Nat} : ivl (n, n) = [] := by
  unfold ivl
  rw [Nat.sub_self]
  rfl
theorem ivl_one {n : Nat} : ivl (n, n + 1) = [n] := by rw [← ivl_app (Nat.le_refl n), ivl_nil]; rfl
theorem ivl_ne {f n : Nat} (h : f < n) : ivl (f, n) ≠ [] := fun z => by
  have z2 := congrArg List.length z
  unfold ivl at z2
  rw [List.length_range'] at z2
  simp at z2
  omega
theorem pst_le : ∀ n, (pst ws g w n).2 ≤ n ∧ (0 < n → (pst ws g w n).2 < n)
  | 0 => ⟨Nat.le_refl _, fun h => absurd h (by decide)⟩
  | n + 1 => by
    have ih := pst_le n
    unfold pst
    split
    · exact ⟨Nat.le_succ n, fun _ => Nat.lt_succ_self n⟩
    · exact ⟨by omega, fun _ => by omega⟩
theorem fl_pst : ∀ n, fl ws g w n = ((pst ws g w n).1.map ivl, ivl ((pst ws g w n).2, n))
  | 0 => by
    show (([], []) : List (List Nat) × List Nat) = ([], ivl (0, 0))
    rw [ivl_nil]
  | n + 1 => by
    have ih := fl_pst n
    have le := pst_le ws g w n
    show stp ws g w (fl ws g w n) n = _
    rw [ih]
    unfold stp
    dsimp only
    rw [ivl_app le.1, show pst ws g w (n + 1) = if (pst ws g w n).2 < n ∧ goesB ((ivl ((pst ws g w n).2, n + 1)).map (wi ws)) g w = false then ((pst ws g w n).1 ++ [((pst ws g w n).2, n)], n) else pst ws g w n from rfl]
    by_cases c : (pst ws g w n).2 < n ∧ goesB ((ivl ((pst ws g w n).2, n + 1)).map (wi ws)) g w = false
    · rw [if_pos ⟨ivl_ne c.1, c.2⟩, if_pos c, List.map_append, ivl_one]
      rfl
    · rw [if_neg c, if_neg]
      rintro ⟨c1, c2⟩
      refine c ⟨?_, c2⟩
      rcases Nat.lt_or_ge (pst ws g w n).2 n with h | h
      · exact h
      · exact absurd (by rw [show (pst ws g w n).2 = n by omega]; exact ivl_nil) c1
theorem brk_prs : brk ws g w = (prs ws g w).map ivl := by
  unfold brk prs
  by_cases e : ws = []
  · subst e
    rw [if_pos rfl]
    rfl
  · have hl : 0 < ws.length := List.length_pos_iff.mpr e
    rw [if_neg e, fl_pst]
    unfold outL
    dsimp only
    rw [if_neg (ivl_ne ((pst_le ws g w _).2 hl)), List.map_append]
    rfl
theorem pst_len : ∀ n, (pst ws g w n).1.length ≤ n
  | 0 => Nat.le_refl _
  | n + 1 => by
    have ih := pst_len n
    unfold pst
    split
    · rw [List.length_append]
      exact Nat.succ_le_succ ih
    · omega
theorem pst_in : ∀ n, ∀ p ∈ (pst ws g w n).1, p.1 < p.2 ∧ p.2 ≤ n
  | 0, p, h => by cases h
  | n + 1, p, h => by
    have ih := pst_in n
    unfold pst at h
    split at h
    · rename_i c
      rcases List.mem_append.mp h with h | h
      · have := ih p h
        omega
      · rw [List.mem_singleton.mp h]
        exact ⟨c.1, Nat.le_succ n⟩
    · have := ih p h
      omega
theorem prs_in : (prs ws g w).length ≤ ws.length ∧ ∀ p ∈ prs ws g w, p.1 < p.2 ∧ p.2 ≤ ws.length := by
  unfold prs
  by_cases e : ws = []
  · subst e
    rw [if_pos rfl]
    exact ⟨Nat.le_refl _, fun p hp => by cases hp⟩
  · have hl : 0 < ws.length := List.length_pos_iff.mpr e
    rw [if_neg e]
    refine ⟨?_, fun p hp => ?_⟩
    · have l1 := brk_lt ws g w
      rw [brk_prs] at l1
      unfold prs at l1
      rw [if_neg e, List.length_map] at l1
      exact l1.1
    · rcases List.mem_append.mp hp with hp | hp
      · exact pst_in ws g w _ p hp
      · rw [List.mem_singleton.mp hp]
        exact ⟨(pst_le ws g w _).2 hl, Nat.le_refl _⟩
end
/-- a pair, as the program tells it -/
def prD (p : Nat × Nat) : D := .tup [.int (p.1 : Int), .int (p.2 : Int)]
abbrev fs_pairs : FSpec := fun ds R _ => ∃ (ws : List Int) (g : Int) (w : Q2), ds = [.lst (ws.map D.int), .int g, toQ w] ∧ WsOk ws g ∧ ws.length ≤ 59 ∧ WdOk w ∧ R (.own ((prs ws g w).map prD))
theorem rg_ivl {p : Nat × Nat} (h : p.1 < p.2) : rangeD (p.1 : Int) ((p.2 : Int) - (p.1 : Int)).toNat = (ivl p).map natD := by
  unfold rangeD ivl
  rw [show ((p.2 : Int) - (p.1 : Int)).toNat = p.2 - p.1 by omega, List.range'_eq_map_range, List.map_map]
  apply List.map_congr_left
  intro i _
  show D.int _ = D.int _
  congr 1 <;> omega
/-- what the open line takes so far -/
def tkn (ws : List Int) (g : Int) (f n : Nat) : Int := if f < n then usedI ((ivl (f, n)).map (wi ws)) g else 0
theorem tkn_next {ws : List Int} {g : Int} {f n : Nat} (h : f < n) : tkn ws g f (n + 1) = tkn ws g f n + g + wi ws n := by
  unfold tkn
  rw [if_pos h, if_pos (by omega), ← ivl_app (Nat.le_of_lt h), List.map_append]
  exact used_app (fun z => ivl_ne h (List.map_eq_nil_iff.mp z)) _ _
theorem tkn_one {ws : List Int} {g : Int} {n : Nat} : tkn ws g n (n + 1) = wi ws n := by
  unfold tkn
  rw [if_pos (Nat.lt_succ_self n), ivl_one]
  exact used_one _ _
theorem goes_whole {ws : List Int} {g : Int} {w : Q2} {f n : Nat} (h : f < n) (w0 : 0 < w.2) : (goesB ((ivl (f, n + 1)).map (wi ws)) g w = false) ↔ w.1 / w.2 < tkn ws g f n + g + wi ws n := by
  rw [← tkn_next h]
  unfold goesB tkn
  rw [if_pos (show f < n + 1 by omega), decide_eq_false_iff_not, ← Int.le_ediv_iff_mul_le w0]
  omega
end Br
end

section
set_option maxHeartbeats 4000000
open PySem PySem.Spec PyProof.Rows L2 Y
local macro_rules | `(tactic| walk_at "yE") => `(tactic| first
  | ((with_reducible show tE _ _ _ (tOp _ _ _) _ _); first
    | (with_reducible refine e_ix ?_)
    | (with_reducible refine e_add ?_)
    | (with_reducible refine e_catA ?_)
    | (with_reducible refine e_sub ?_)
    | (with_reducible refine e_mul ?_)
    | (with_reducible refine e_mod ?_)
    | (with_reducible refine e_fdiv ?_)
    | (with_reducible refine e_pow ?_)
    | (with_reducible refine e_shr ?_)
    | (with_reducible refine e_band ?_)
    | (with_reducible refine e_lt ?_)
    | (with_reducible refine e_le ?_)
    | (with_reducible refine e_gt ?_)
    | (with_reducible refine e_ge ?_)
    | (with_reducible refine e_eq ?_)
    | (with_reducible refine e_ne ?_)
    | (with_reducible refine e_isN ?_)
    | (with_reducible refine e_notN ?_)
    | (with_reducible refine e_isB ?_)
    | (with_reducible refine e_isntB ?_))
  | ((with_reducible show tE _ _ _ (tCB _ _) _ _); first
    | (with_reducible refine e_len ?_)
    | (with_reducible refine e_isX (by with_unfolding_all exact fun _ h => h) ?_)
    | (with_reducible refine e_isInt ?_)
    | (with_reducible refine e_isBool ?_)
    | (with_reducible refine e_isTup ?_)
    | (with_reducible refine e_isStr ?_)
    | (with_reducible refine e_isList ?_)
    | (with_reducible refine e_gcd ?_)
    | (with_reducible refine e_abs ?_)
    | (with_reducible refine e_max2 ?_)
    | (with_reducible refine e_min2 ?_)
    | (with_reducible refine e_intB ?_)
    | (with_reducible refine e_strI ?_)
    | (with_reducible refine e_list ?_)
    | (with_reducible refine e_repr ?_)
    | (with_reducible refine e_tupL ?_)
    | (with_reducible refine e_all ?_))
  | (with_reducible refine e_val (by with_unfolding_all rfl) ?_)
  | (with_reducible refine e_own (by with_unfolding_all rfl) ?_)
  | (with_reducible refine e_int ?_)
  | (with_reducible refine e_bl ?_)
  | (with_reducible refine e_non ?_)
  | (with_reducible refine e_str ?_)
  | (with_reducible refine e_neg ?_)
  | (with_reducible refine e_and ?_)
  | (with_reducible refine e_or ?_)
  | (with_reducible refine e_not ?_)
  | (with_reducible refine e_if ?_)
  | (with_reducible refine e_chainI ?_)
  | (with_reducible refine e_tup ?_)
  | (with_reducible refine e_lst ?_)
  | (with_reducible refine e_dk0 ?_)
  | (with_reducible refine e_sl ?_)
  | (with_reducible refine e_slT ?_)
  | (with_reducible refine e_c01 (by assumption) ?_)
  | (with_reducible refine e_revL ?_))
local macro_rules | `(tactic| walk_at "yS") => `(tactic| first
  | (with_reducible refine s_seq ?_)
  | (with_reducible refine s_if ?_)
  | (with_reducible refine s_retOwn (by with_unfolding_all rfl) ?_)
  | (with_reducible refine s_ret ?_)
  | (with_reducible refine s_retN ?_)
  | (with_reducible refine s_next ?_)
  | (with_reducible refine s_set ?_ (by with_unfolding_all exact Nat.le_of_ble_eq_true rfl))
  | (with_reducible refine s_asgG ?_)
  | (with_reducible refine s_parS ?_ (by with_unfolding_all exact Nat.le_of_ble_eq_true rfl) (by with_unfolding_all exact Nat.le_of_ble_eq_true rfl))
  | (with_reducible refine s_rz ?_)
  | (with_reducible refine s_appendS (by with_unfolding_all rfl) ?_)
  | (with_reducible refine s_expr ?_)
  | ((with_reducible refine s_tryKK ?_); intro W))
local macro_rules | `(tactic| walk_at "yT") => `(tactic| first
  | (with_reducible refine t_test ?_)
  | (with_reducible refine t_tru ?_)
  | (with_reducible refine t_not ?_)
  | (with_reducible refine t_and ?_)
  | (with_reducible refine t_or ?_))
local macro_rules | `(tactic| walk_at "yA") => `(tactic| first
  | (with_reducible refine vs_cons ?_)
  | (with_reducible refine vs_nil ?_)
  | (with_reducible refine a_cons ?_)
  | (with_reducible refine a_nil ?_)
  | (with_reducible refine o_none ?_)
  | (with_reducible refine o_some ?_))
local macro_rules | `(tactic| walk_at "yX") => `(tactic| first
  | ((with_reducible show ∃ _, CmpD _ _ _ ∧ _); first | refine ⟨_, cmpd_int, ?_⟩ | refine ⟨_, cmpd_str, ?_⟩ | refine ⟨_, cmpd_bl, ?_⟩)
  | ((with_reducible show ∃ _ _, _ ∧ ExcC _ _ ∧ _); refine ⟨_, _, rfl, by assumption, by assumption, ?_⟩)
  | (refine ⟨_, _, rfl, rfl, ?_⟩)
  | (refine ⟨_, _, rfl, ?_⟩)
  | (refine ⟨_, rfl, ?_⟩))
local macro_rules | `(tactic| walk_at "yN") => `(tactic| first
  | (with_reducible refine brT ?_)
  | (with_reducible refine brF ?_)
  | (with_reducible refine brT' ?_)
  | (with_reducible refine brF' ?_)
  | ((with_reducible show ((!_) = false → _) ∧ _); first | (refine brA' rfl ?_) | (refine brB' rfl ?_))
  | ((with_reducible show ((!_) = true → _) ∧ _); first | (refine brA rfl ?_) | (refine brB rfl ?_))
  | ((with_reducible show 0 < _ ∧ _); refine ⟨by first | decide | omega, ?_⟩)
  | ((with_reducible show _ ≤ sizeLine ∧ _); refine ⟨small_len (by with_unfolding_all exact Nat.le_of_ble_eq_true rfl), ?_⟩)
  | ((with_reducible show CPow _ _ ∧ _); refine ⟨⟨by decide, by decide, by decide⟩, ?_⟩)
  | ((with_reducible show CDivX _ _ ∧ _); refine ⟨⟨by decide, by decide⟩, ?_⟩)
  | ((with_reducible show 0 ≤ _ ∧ _); refine ⟨by first | decide | omega, ?_⟩)
  | ((with_reducible show _ = D.non ∧ _); refine ⟨rfl, ?_⟩))
local macro_rules | `(tactic| walk_at "yO") => `(tactic| first
  | ((with_reducible show vR _ _); first | (with_reducible refine vr_val ?_) | (with_reducible refine vr_own ?_))
  | ((with_reducible show asgR _ _); first | (with_reducible refine as_val ?_) | (with_reducible refine as_own ?_))
  | ((with_reducible show ∃ _, _); walk_at "yX")
  | ((with_reducible show _ ∧ _); walk_at "yN")
  | ((with_reducible show AddD _ _ _); first | (refine add_int ?_) | (refine add_lst (small_len' (by with_unfolding_all exact Nat.le_of_ble_eq_true rfl)) ?_))
  | ((with_reducible show MulD _ _ _); refine mul_int (by walk_at "mok") ?_)
  | (with_reducible refine ss_go (by with_unfolding_all repeat constructor) ?_)
  | (with_reducible refine g_nameS (by first | trivial | exact List.mem_cons_self | simp) (by with_unfolding_all repeat constructor) ?_)
  | (with_reducible refine g_tup (by with_unfolding_all rfl) ?_)
  | (with_reducible refine gs_cons ?_)
  | (with_reducible refine gs_nil ?_))
local macro_rules | `(tactic| walk_at "y") => `(tactic| first
  | ((with_reducible show tE _ _ _ _ _ _); walk_at "yE")
  | ((with_reducible show tS _ _ _ _ _ _); walk_at "yS")
  | ((with_reducible show tT _ _ _ _ _ _); walk_at "yT")
  | ((with_reducible show tVs _ _ _ _ _ _); walk_at "yA")
  | ((with_reducible show tA _ _ _ _ _ _); walk_at "yA")
  | ((with_reducible show tOo _ _ _ _ _ _); walk_at "yA")
  | walk_at "yO")
local macro_rules | `(tactic| walk_at "z") => `(tactic| (fail_if_success (with_reducible show tS _ _ _ (tSeq (tIfS _ _ _) _) _ _); walk_at "y"))
local macro_rules | `(tactic| walk_at "smb") => `(tactic| first
  | assumption
  | exact (show Sm 64 _ by unfold Sm; decide)
  | (apply Sm.mul <;> walk_at "smb")
  | (apply Sm.add2 <;> walk_at "smb")
  | (apply Sm.sub2 <;> walk_at "smb")
  | (apply Sm.neg <;> walk_at "smb"))
local macro_rules | `(tactic| walk_at "mok") => `(tactic| exact mulOk (by walk_at "smb") (by walk_at "smb") (by decide) (by decide) (by decide))

namespace K31
open PySem PySem.Spec PyProof.Rows L2 Y Sh Br
section
variable {P : Program} {w : World} {K : PySem.W.Frag} {mg : Str → Option Value} {base : Heap} {f : Addr} {fd : FuncData}
theorem ok_line_pairs (B : Bl mg) (F : Fun K "line_pairs" "line_pairs" s_line_pairs f fd) : FnOk P w K mg base CX0 1 f fd ["wishes", "gap", "width"] (spD K fs_pairs) := by
  refine fn0 F sc_line_pairs (fun ds R Ex ⟨a, b, c, h, _⟩ => by rw [h]; rfl) fun cdv A outer s H E hr => ⟨_, (pss_cons (ps_set (i := 3) sc_line_pairs.nd rfl (by first | exact .inl rfl | exact .inr rfl) (pe_op op_fdivX (pe_ix (ix_K (K := K)) (pv 2) pe_int (fun _ _ => rfl)) (pe_ix (ix_K (K := K)) (pv 2) pe_int (fun _ _ => rfl))))
      (pss_cons (ps_set (i := 4) sc_line_pairs.nd rfl (by first | exact .inl rfl | exact .inr rfl) (pe_lst pa_nil))
      (pss_cons (ps_set (i := 5) sc_line_pairs.nd rfl (by first | exact .inl rfl | exact .inr rfl) pe_int)
      (pss_cons (ps_set (i := 6) sc_line_pairs.nd rfl (by first | exact .inl rfl | exact .inr rfl) pe_int)
      (pss_cons (ps_for PassesOwn.never rfl (pi_enum (by rfl) B.bEnum (pa_cons (pv 0) pa_nil)) (pg_tup rfl (pgs_cons (pg_name (i := 7) sc_line_pairs.nd rfl (by first | exact .inl rfl | exact .inr rfl)) (pgs_cons (pg_name (i := 8) sc_line_pairs.nd rfl (by first | exact .inl rfl | exact .inr rfl)) pgs_nil)))
      (pss_cons (ps_if (PW.pt (pw_and (pt_cmpR op_gt (pv 7) (pv 5) (nomark _)) (pw_and1 (pt_cmpR op_gt (pe_op op_addU (pe_op op_addU (pv 6) (pv 1)) (pv 8)) (pv 3) (nomark _))))) (pss_cons (ps_expr (pe_bm PySem.F.plainAttrs_list PySem.F.slot_list_append PySem.F.type_list_append mt_append (pv 4) (pa_cons (pe_tup (pa_cons (pv 5) (pa_cons (pv 7) pa_nil))) pa_nil)))
      (pss_one (ps_set (i := 5) sc_line_pairs.nd rfl (by first | exact .inl rfl | exact .inr rfl) (pv 7)))) pss_nil)
      (pss_one (ps_set (i := 6) sc_line_pairs.nd rfl (by first | exact .inl rfl | exact .inr rfl) (pe_ifExp (pt_cmpR op_gt (pv 7) (pv 5) (nomark _)) (pe_op op_addU (pe_op op_addU (pv 6) (pv 1)) (pv 8)) (pv 8))))))
      (pss_cons (ps_if (pt_truK (K := K) (pv 0)) (pss_one (ps_expr (pe_bm PySem.F.plainAttrs_list PySem.F.slot_list_append PySem.F.type_list_append mt_append (pv 4) (pa_cons (pe_tup (pa_cons (pv 5) (pa_cons (pe_callB (call_lenK (K := K)) (by rfl) B.bLen (by decide +kernel) (pa_cons (pv 0) pa_nil)) pa_nil))) pa_nil)))) pss_nil)
      (pss_one (ps_ret (pv 4))))))))), fun ds R Ex ⟨ws, g, wd, hd, hw, h59, ho, h⟩ => ?_⟩
  subst hd
  (try dsimp only [cxOf, Cx.nox, Cx.wish]); change tS K _ _ _ [.val (.lst (ws.map D.int)), .val (.int g), .val (toQ wd), .emp, .emp, .emp, .emp, .emp, .emp] _
  repeat walk_at "y"
  have w2 := ho.p.s2
  have wp := ho.p.pos
  refine ⟨divOk (show wd.2 ≠ 0 by omega) w2 (by decide) (by decide), ?_⟩
  repeat walk_at "y"
  refine s_for (i_enum ?_)
  repeat walk_at "y"
  refine ⟨fun k ρ' => ∃ s7 s8 : Slot, ρ' = [.val (.lst (ws.map D.int)), .val (.int g), .val (toQ wd), .val (.int (wd.1 / wd.2)), .own ((pst ws g wd k).1.map prD), .val (.int ((pst ws g wd k).2 : Int)), .val (.int (tkn ws g (pst ws g wd k).2 k)), s7, s8], ⟨.emp, .emp, by rw [Int.fdiv_eq_ediv_of_nonneg _ (by omega)]; rfl⟩, ?_, ?_⟩
  · rintro k d ρ' hd ⟨s7, s8, rfl⟩
    have kl : k < ws.length := by
      have := (List.getElem?_eq_some_iff.mp hd).1
      rw [enumD_len, List.length_map] at this
      exact this
    rw [enumD_get, List.getElem?_map, wi_get kl] at hd
    have ed : D.tup [.int (k : Int), .int (wi ws k)] = d := Option.some.inj hd
    subst ed
    have le := pst_le ws g wd k
    have ln := pst_len ws g wd k
    have hp : pst ws g wd (k + 1) = if (pst ws g wd k).2 < k ∧ goesB ((ivl ((pst ws g wd k).2, k + 1)).map (wi ws)) g wd = false then ((pst ws g wd k).1 ++ [((pst ws g wd k).2, k)], k) else pst ws g wd k := rfl
    have gw := @goes_whole ws g wd (pst ws g wd k).2 k
    have tn := @tkn_next ws g (pst ws g wd k).2 k
    have t1 : tkn ws g (pst ws g wd k).2 (k + 1) = wi ws k ∨ (pst ws g wd k).2 < k := by
      rcases Nat.lt_or_ge (pst ws g wd k).2 k with q | q
      · exact .inr q
      · refine .inl ?_
        rw [show (pst ws g wd k).2 = k by omega]
        exact tkn_one
    generalize pst ws g wd k = fs at le ln gw tn t1 hp ⊢
    obtain ⟨L, f⟩ := fs
    dsimp only at le ln gw tn t1 hp ⊢
    generalize tkn ws g f k = tk at gw tn ⊢
    repeat walk_at "y"
    refine ⟨fun c1 => ?_, fun c1 => ?_⟩
    · have hf : f < k := by have := of_decide_eq_true c1; omega
      repeat walk_at "y"
      refine ⟨fun c2 => ?_, fun c2 => ?_⟩
      · have gf := (gw hf wp).mpr (of_decide_eq_true c2)
        rw [if_pos ⟨hf, gf⟩] at hp
        repeat walk_at "y"
        refine ⟨small_lt (by rw [List.length_map]; omega), ?_⟩
        repeat walk_at "y"
        refine br2 (fun z => absurd z (by omega)) fun _ => ?_
        repeat walk_at "y"
        rw [hp]
        exact ⟨_, _, by rw [List.map_append, tkn_one]; rfl⟩
      · have gt : goesB ((ivl (f, k + 1)).map (wi ws)) g wd ≠ false := fun z => of_decide_eq_false c2 ((gw hf wp).mp z)
        rw [if_neg fun z => gt z.2] at hp
        repeat walk_at "y"
        refine br2 (fun _ => ?_) fun z => absurd hf (by omega)
        repeat walk_at "y"
        rw [hp]
        exact ⟨_, _, by rw [tn hf]⟩
    · have hf : ¬ f < k := by have := of_decide_eq_false c1; omega
      have e : f = k := by omega
      subst e
      rw [if_neg fun z => hf z.1] at hp
      repeat walk_at "y"
      refine br2 (fun z => absurd z (by omega)) fun _ => ?_
      repeat walk_at "y"
      rw [hp]
      exact ⟨_, _, by rw [tkn_one]⟩
  · rintro ρ' ⟨s7, s8, rfl⟩
    rw [enumD_len, List.length_map]
    repeat walk_at "y"
    by_cases e : ws = []
    · subst e
      refine ⟨fun z => Bool.noConfusion z, fun _ => ?_⟩
      repeat walk_at "y"
      exact h
    · have t1 : (ws.map D.int).isEmpty = false := by cases ws <;> first | exact absurd rfl e | rfl
      rw [t1]
      refine ⟨fun _ => ?_, fun z => Bool.noConfusion z⟩
      repeat walk_at "y"
      have ln := pst_len ws g wd ws.length
      refine ⟨small_lt (by rw [List.length_map]; omega), ?_⟩
      repeat walk_at "y"
      unfold prs at h
      rw [if_neg e, List.map_append] at h
      rw [List.length_map]
      exact h
theorem ok_broken (B : Bl mg) (d_line_pairs : Dfn P w K mg base CX0 "line_pairs" ["wishes", "gap", "width"] 1 fs_pairs)
    (F : Fun K "broken" "broken" s_broken f fd) : FnOk P w K mg base CX0 2 f fd ["wishes", "gap", "width"] (spD K fs_broken) := by
  refine fn0 F sc_broken (fun ds R Ex ⟨a, b, c, h, _⟩ => by rw [h]; rfl) fun cdv A outer s H E hr => ⟨_, (pss_one (ps_ret (pe_lc (own := [("first", 3), ("behind", 4)]) rfl sc_broken.nd (pi_listK (K := K) (pe_dK d_line_pairs hr (pa_cons (pv 0) (pa_cons (pv 1) (pa_cons (pv 2) pa_nil))))) (blkOk_by (N := NM_broken) (sc := defScope s_broken) (by decide +kernel)) (fun _ _ _ _ _ => (pg_tupK (K := K) (n := 2) rfl (pgs_cons (pg_name (i := 3) sc_broken.nd rfl (by first | exact .inl rfl | exact .inr rfl)) (pgs_cons (pg_name (i := 4) sc_broken.nd rfl (by first | exact .inl rfl | exact .inr rfl)) pgs_nil)))) (fun _ _ _ _ _ => pts_nil) (fun _ _ _ _ _ => (pe_listRg rfl (by rfl) B.bList (prg_2 (by rfl) B.bRange (pv 3) (pv 4))))))), fun ds R Ex ⟨ws, g, wd, hd, hw, h59, ho, h⟩ => ?_⟩
  subst hd
  (try dsimp only [cxOf, Cx.nox, Cx.wish]); change tS K _ _ _ [.val (.lst (ws.map D.int)), .val (.int g), .val (toQ wd), .emp, .emp] _
  repeat walk_at "y"
  refine e_lcM (fun d : D => match d with | .tup [.int a, .int b] => .lst (rangeD a (b - a).toNat) | d => d) (ic_list ?_)
  repeat walk_at "y"
  refine e_call (fun _ => .nil) ?_
  repeat walk_at "y"
  have pin := prs_in ws g wd
  refine ⟨ws, g, wd, rfl, hw, h59, ho, _, rfl, small_len' (by rw [List.length_map]; omega), fun d hd => ?_, ?_⟩
  · obtain ⟨p, hm, rfl⟩ := List.mem_map.mp hd
    have := pin.2 p hm
    rw [show prD p = .tup [.int (p.1 : Int), .int (p.2 : Int)] from rfl]
    repeat walk_at "y"
    refine e_listRg ?_
    repeat walk_at "y"
    exact ⟨RgOk.of_le (by omega) (by omega) (by omega) (by omega), rfl⟩
  · have e : ((prs ws g wd).map prD).map (fun d : D => match d with | .tup [.int a, .int b] => .lst (rangeD a (b - a).toNat) | d => d) = (brk ws g wd).map lnD := by
      rw [brk_prs, List.map_map, List.map_map]
      apply List.map_congr_left
      intro p hp
      show D.lst (rangeD (p.1 : Int) ((p.2 : Int) - (p.1 : Int)).toNat) = D.lst ((ivl p).map natD)
      rw [rg_ivl (pin.2 p hp).1]
    rw [e]
    exact h
theorem ok_fewest (B : Bl mg) (d_line_pairs : Dfn P w K mg base CX0 "line_pairs" ["wishes", "gap", "width"] 1 fs_pairs) (F : Fun K "fewest" "fewest" s_fewest f fd) : FnOk P w K mg base CX0 2 f fd ["wishes", "gap", "width"] (spD K fs_fewest) := by
  refine fn0 F sc_fewest (fun ds R Ex ⟨a, b, c, h, _⟩ => by rw [h]; rfl) fun cdv A outer s H E hr => ⟨_, (pss_one (ps_ret (pe_callB (call_lenK (K := K)) (by rfl) B.bLen (by decide +kernel) (pa_cons (pe_dK d_line_pairs hr (pa_cons (pv 0) (pa_cons (pv 1) (pa_cons (pv 2) pa_nil)))) pa_nil)))), fun ds R Ex ⟨ws, g, wd, hd, hw, h59, ho, h⟩ => ?_⟩
  subst hd
  (try dsimp only [cxOf, Cx.nox, Cx.wish]); change tS K _ _ _ [.val (.lst (ws.map D.int)), .val (.int g), .val (toQ wd)] _
  repeat walk_at "y"
  refine e_call (fun _ => .nil) ?_
  repeat walk_at "y"
  refine ⟨ws, g, wd, rfl, hw, h59, ho, ?_⟩
  repeat walk_at "y"
  rw [List.length_map]
  rw [brk_prs, List.length_map] at h
  exact h
end
end K31
end

section
set_option maxHeartbeats 4000000
open PySem PySem.Spec PyProof.Rows L2 Y
local macro_rules | `(tactic| walk_at "yE") => `(tactic| first
  | ((with_reducible show tE _ _ _ (tOp _ _ _) _ _); first
    | (with_reducible refine e_ix ?_)
    | (with_reducible refine e_add ?_)
    | (with_reducible refine e_catA ?_)
    | (with_reducible refine e_sub ?_)
    | (with_reducible refine e_mul ?_)
    | (with_reducible refine e_mod ?_)
    | (with_reducible refine e_fdiv ?_)
    | (with_reducible refine e_pow ?_)
    | (with_reducible refine e_shr ?_)
    | (with_reducible refine e_band ?_)
    | (with_reducible refine e_lt ?_)
    | (with_reducible refine e_le ?_)
    | (with_reducible refine e_gt ?_)
    | (with_reducible refine e_ge ?_)
    | (with_reducible refine e_eq ?_)
    | (with_reducible refine e_ne ?_)
    | (with_reducible refine e_isN ?_)
    | (with_reducible refine e_notN ?_)
    | (with_reducible refine e_isB ?_)
    | (with_reducible refine e_isntB ?_))
  | ((with_reducible show tE _ _ _ (tCB _ _) _ _); first
    | (with_reducible refine e_len ?_)
    | (with_reducible refine e_isX (by with_unfolding_all exact fun _ h => h) ?_)
    | (with_reducible refine e_isInt ?_)
    | (with_reducible refine e_isBool ?_)
    | (with_reducible refine e_isTup ?_)
    | (with_reducible refine e_isStr ?_)
    | (with_reducible refine e_isList ?_)
    | (with_reducible refine e_gcd ?_)
    | (with_reducible refine e_abs ?_)
    | (with_reducible refine e_max2 ?_)
    | (with_reducible refine e_min2 ?_)
    | (with_reducible refine e_intB ?_)
    | (with_reducible refine e_strI ?_)
    | (with_reducible refine e_list ?_)
    | (with_reducible refine e_repr ?_)
    | (with_reducible refine e_tupL ?_)
    | (with_reducible refine e_all ?_))
  | (with_reducible refine e_val (by with_unfolding_all rfl) ?_)
  | (with_reducible refine e_own (by with_unfolding_all rfl) ?_)
  | (with_reducible refine e_int ?_)
  | (with_reducible refine e_bl ?_)
  | (with_reducible refine e_non ?_)
  | (with_reducible refine e_str ?_)
  | (with_reducible refine e_neg ?_)
  | (with_reducible refine e_and ?_)
  | (with_reducible refine e_or ?_)
  | (with_reducible refine e_not ?_)
  | (with_reducible refine e_if ?_)
  | (with_reducible refine e_chainI ?_)
  | (with_reducible refine e_tup ?_)
  | (with_reducible refine e_lst ?_)
  | (with_reducible refine e_dk0 ?_)
  | (with_reducible refine e_sl ?_)
  | (with_reducible refine e_slT ?_)
  | (with_reducible refine e_c01 (by assumption) ?_)
  | (with_reducible refine e_revL ?_))
local macro_rules | `(tactic| walk_at "yS") => `(tactic| first
  | (with_reducible refine s_seq ?_)
  | (with_reducible refine s_if ?_)
  | (with_reducible refine s_retOwn (by with_unfolding_all rfl) ?_)
  | (with_reducible refine s_ret ?_)
  | (with_reducible refine s_retN ?_)
  | (with_reducible refine s_next ?_)
  | (with_reducible refine s_set ?_ (by with_unfolding_all exact Nat.le_of_ble_eq_true rfl))
  | (with_reducible refine s_asgG ?_)
  | (with_reducible refine s_parS ?_ (by with_unfolding_all exact Nat.le_of_ble_eq_true rfl) (by with_unfolding_all exact Nat.le_of_ble_eq_true rfl))
  | (with_reducible refine s_rz ?_)
  | (with_reducible refine s_appendS (by with_unfolding_all rfl) ?_)
  | (with_reducible refine s_expr ?_)
  | ((with_reducible refine s_tryKK ?_); intro W))
local macro_rules | `(tactic| walk_at "yT") => `(tactic| first
  | (with_reducible refine t_test ?_)
  | (with_reducible refine t_tru ?_)
  | (with_reducible refine t_not ?_)
  | (with_reducible refine t_and ?_)
  | (with_reducible refine t_or ?_))
local macro_rules | `(tactic| walk_at "yA") => `(tactic| first
  | (with_reducible refine vs_cons ?_)
  | (with_reducible refine vs_nil ?_)
  | (with_reducible refine a_cons ?_)
  | (with_reducible refine a_nil ?_)
  | (with_reducible refine o_none ?_)
  | (with_reducible refine o_some ?_))
local macro_rules | `(tactic| walk_at "yX") => `(tactic| first
  | ((with_reducible show ∃ _, CmpD _ _ _ ∧ _); first | refine ⟨_, cmpd_int, ?_⟩ | refine ⟨_, cmpd_str, ?_⟩ | refine ⟨_, cmpd_bl, ?_⟩)
  | ((with_reducible show ∃ _ _, _ ∧ ExcC _ _ ∧ _); refine ⟨_, _, rfl, by assumption, by assumption, ?_⟩)
  | (refine ⟨_, _, rfl, rfl, ?_⟩)
  | (refine ⟨_, _, rfl, ?_⟩)
  | (refine ⟨_, rfl, ?_⟩))
local macro_rules | `(tactic| walk_at "yN") => `(tactic| first
  | (with_reducible refine brT ?_)
  | (with_reducible refine brF ?_)
  | (with_reducible refine brT' ?_)
  | (with_reducible refine brF' ?_)
  | ((with_reducible show ((!_) = false → _) ∧ _); first | (refine brA' rfl ?_) | (refine brB' rfl ?_))
  | ((with_reducible show ((!_) = true → _) ∧ _); first | (refine brA rfl ?_) | (refine brB rfl ?_))
  | ((with_reducible show 0 < _ ∧ _); refine ⟨by first | decide | omega, ?_⟩)
  | ((with_reducible show _ ≤ sizeLine ∧ _); refine ⟨small_len (by with_unfolding_all exact Nat.le_of_ble_eq_true rfl), ?_⟩)
  | ((with_reducible show CPow _ _ ∧ _); refine ⟨⟨by decide, by decide, by decide⟩, ?_⟩)
  | ((with_reducible show CDivX _ _ ∧ _); refine ⟨⟨by decide, by decide⟩, ?_⟩)
  | ((with_reducible show 0 ≤ _ ∧ _); refine ⟨by first | decide | omega, ?_⟩)
  | ((with_reducible show _ = D.non ∧ _); refine ⟨rfl, ?_⟩))
local macro_rules | `(tactic| walk_at "yO") => `(tactic| first
  | ((with_reducible show vR _ _); first | (with_reducible refine vr_val ?_) | (with_reducible refine vr_own ?_))
  | ((with_reducible show asgR _ _); first | (with_reducible refine as_val ?_) | (with_reducible refine as_own ?_))
  | ((with_reducible show ∃ _, _); walk_at "yX")
  | ((with_reducible show _ ∧ _); walk_at "yN")
  | ((with_reducible show AddD _ _ _); first | (refine add_int ?_) | (refine add_lst (small_len' (by with_unfolding_all exact Nat.le_of_ble_eq_true rfl)) ?_))
  | ((with_reducible show MulD _ _ _); refine mul_int (by walk_at "mok") ?_)
  | (with_reducible refine ss_go (by with_unfolding_all repeat constructor) ?_)
  | (with_reducible refine g_nameS (by first | trivial | exact List.mem_cons_self | simp) (by with_unfolding_all repeat constructor) ?_)
  | (with_reducible refine g_tup (by with_unfolding_all rfl) ?_)
  | (with_reducible refine gs_cons ?_)
  | (with_reducible refine gs_nil ?_))
local macro_rules | `(tactic| walk_at "y") => `(tactic| first
  | ((with_reducible show tE _ _ _ _ _ _); walk_at "yE")
  | ((with_reducible show tS _ _ _ _ _ _); walk_at "yS")
  | ((with_reducible show tT _ _ _ _ _ _); walk_at "yT")
  | ((with_reducible show tVs _ _ _ _ _ _); walk_at "yA")
  | ((with_reducible show tA _ _ _ _ _ _); walk_at "yA")
  | ((with_reducible show tOo _ _ _ _ _ _); walk_at "yA")
  | walk_at "yO")
local macro_rules | `(tactic| walk_at "z") => `(tactic| (fail_if_success (with_reducible show tS _ _ _ (tSeq (tIfS _ _ _) _) _ _); walk_at "y"))
local macro_rules | `(tactic| walk_at "smb") => `(tactic| first
  | assumption
  | exact (show Sm 64 _ by unfold Sm; decide)
  | (apply Sm.mul <;> walk_at "smb")
  | (apply Sm.add2 <;> walk_at "smb")
  | (apply Sm.sub2 <;> walk_at "smb")
  | (apply Sm.neg <;> walk_at "smb"))
local macro_rules | `(tactic| walk_at "mok") => `(tactic| exact mulOk (by walk_at "smb") (by walk_at "smb") (by decide) (by decide) (by decide))

namespace K31
open PySem PySem.Spec PyProof.Rows L2 Y Sh Br
section
variable {P : Program} {w : World} {K : PySem.W.Frag} {mg : Str → Option Value} {base : Heap} {f : Addr} {fd : FuncData}


theorem ok_law_goes (B : Bl mg) (F : Fun K "_law_goes" "_law_goes" s__law_goes f fd) : FnOk P w K mg base CX0 1 f fd ["_law_wishes", "_law_gap", "_law_width_here"] (spD K fs_goes) := by
  refine fn0 F sc__law_goes (fun ds R Ex ⟨a, b, c, h, _⟩ => by rw [h]; rfl) fun cdv A outer s H E hr => ⟨_, (pss_one (ps_ret (pe_cmpR op_le (pe_op op_mulU (pe_op op_addU (pe_callB (call_sumK (K := K) rfl) (by rfl) B.bSum (by decide +kernel) (pa_cons (pv 0) pa_nil)) (pe_op op_mulU (pv 1) (pe_callB (call_max2 rfl) (by rfl) B.bMax (by decide +kernel) (pa_cons pe_int (pa_cons (pe_op op_sub (pe_callB (call_lenK (K := K)) (by rfl) B.bLen (by decide +kernel) (pa_cons (pv 0) pa_nil)) pe_int) pa_nil))))) (pe_ix (ix_K (K := K)) (pv 2) pe_int (fun _ _ => rfl))) (pe_ix (ix_K (K := K)) (pv 2) pe_int (fun _ _ => rfl)) (nomark _)))), fun ds R Ex ⟨ws, g, wd, hd, hw, ho, h⟩ => ?_⟩
  subst hd
  have sg : Sm 64 g := by
    have := hw.g0
    have := hw.g1
    unfold Sm
    omega
  have ss : Sm 64 ws.sum := by
    have := sum_b ws hw.it
    have := hw.len
    unfold Sm
    omega
  have sl : Sm 64 (max 0 ((((ws.map D.int).length : Nat) : Int) - 1)) := by
    have := hw.len
    rw [List.length_map]
    unfold Sm
    omega
  have s1 := ho.p.s1
  have s2 := ho.p.s2
  (try dsimp only [cxOf, Cx.nox, Cx.wish]); change tS K _ _ _ [.val (.lst (ws.map D.int)), .val (.int g), .val (toQ wd)] _
  repeat walk_at "y"
  refine e_sum ?_
  repeat walk_at "y"
  unfold goesB usedI at h
  rw [← List.length_map (f := D.int) (as := ws)] at h
  exact h
theorem eqv_nil (l : List D) : D.eqv (.lst l) (.lst []) = l.isEmpty := by cases l <;> rfl
theorem plain_nats : ∀ l : List Nat, plainAll (l.map natD) = true
  | [] => rfl
  | _ :: l => plain_nats l
theorem imm_nats : ∀ l : List Nat, immAll (l.map natD) = true
  | [] => rfl
  | _ :: l => imm_nats l
theorem cmp_nil (l : List Nat) : CmpD (.lst (l.map natD)) (.lst []) l.isEmpty := by
  refine ⟨⟨plain_nats l, rfl, ?_⟩, ?_⟩
  · have e : (D.lst []).dep = 1 := rfl
    rw [e]
    omega
  · rw [eqv_nil]
    cases l <;> rfl
theorem stp_goD {ws : List Int} {g : Int} {wd : Q2} {L : List (List Nat)} {l : List Nat} {k : Nat} (c : l = [] ∨ goesB ((l ++ [k]).map (wi ws)) g wd = true) : stp ws g wd (L, l) k = (L, l ++ [k]) := if_neg fun z => by
  rcases c with c | c
  · exact z.1 c
  · have z2 : goesB ((l ++ [k]).map (wi ws)) g wd = false := z.2
    rw [c] at z2
    cases z2
theorem stp_newD {ws : List Int} {g : Int} {wd : Q2} {L : List (List Nat)} {l : List Nat} {k : Nat} (ne : l ≠ []) (c : goesB ((l ++ [k]).map (wi ws)) g wd = false) : stp ws g wd (L, l) k = (L ++ [l], [k]) := if_pos ⟨ne, c⟩
theorem ok_law_broken (B : Bl mg) (d__law_goes : Dfn P w K mg base CX0 "_law_goes" ["_law_wishes", "_law_gap", "_law_width_here"] 1 fs_goes) (F : Fun K "_law_broken" "_law_broken" s__law_broken f fd) : FnOk P w K mg base CX0 2 f fd ["_law_wishes", "_law_gap", "_law_width_here"] (spD K fs_broken) := by
  refine fn0 F sc__law_broken (fun ds R Ex ⟨a, b, c, h, _⟩ => by rw [h]; rfl) fun cdv A outer s H E hr => ⟨_, (pss_cons (ps_set (i := 3) sc__law_broken.nd rfl (by first | exact .inl rfl | exact .inr rfl) (pe_lst pa_nil))
      (pss_cons (ps_set (i := 4) sc__law_broken.nd rfl (by first | exact .inl rfl | exact .inr rfl) (pe_lst pa_nil))
      (pss_cons (ps_for PassesOwn.never rfl (pi_range1 (by rfl) B.bRange (pa_cons (pe_callB (call_lenK (K := K)) (by rfl) B.bLen (by decide +kernel) (pa_cons (pv 0) pa_nil)) pa_nil)) (pg_name (i := 5) sc__law_broken.nd rfl (by first | exact .inl rfl | exact .inr rfl))
      (pss_cons (ps_setLc (i := 7) (own := [("_law_one", 6)]) rfl sc__law_broken.nd rfl rfl (sw_true rfl rfl rfl (by decide +kernel)) (pi_listK (K := K) (pe_op op_addU (pv 4) (pe_lst (pa_cons (pv 5) pa_nil)))) (blkOk_by (N := NM__law_broken) (sc := defScope s__law_broken) (by decide +kernel)) (fun _ _ _ _ _ => (pg_name (i := 6) sc__law_broken.nd rfl (by first | exact .inl rfl | exact .inr rfl))) (fun _ _ _ _ _ => pts_nil) (fun _ _ _ _ _ => (pe_ix (ix_K (K := K)) (pv 0) (pv 6) (fun _ _ => rfl))))
      (pss_cons (ps_if (PW.pt (pw_and (pt_cmpR (op_neK (K := K) hr) (pv 4) (pe_lst pa_nil) (nomark _)) (pw_and1 (pt_not (pt_truK (K := K) (pe_dK d__law_goes hr (pa_cons (pv 7) (pa_cons (pv 1) (pa_cons (pv 2) pa_nil))))))))) (pss_cons (ps_expr (pe_bm PySem.F.plainAttrs_list PySem.F.slot_list_append PySem.F.type_list_append mt_append (pv 3) (pa_cons (pv 4) pa_nil)))
      (pss_one (ps_set (i := 4) sc__law_broken.nd rfl (by first | exact .inl rfl | exact .inr rfl) (pe_lst pa_nil)))) pss_nil)
      (pss_one (ps_set (i := 4) sc__law_broken.nd rfl (by first | exact .inl rfl | exact .inr rfl) (pe_op op_addU (pv 4) (pe_lst (pa_cons (pv 5) pa_nil))))))))
      (pss_one (ps_ret (pe_op op_addU (pv 3) (pe_op op_mulU (pe_lst (pa_cons (pv 4) pa_nil)) (pe_callTy call_int1 (by rfl) B.bInt (by decide +kernel) (pa_cons (pe_cmpR (op_neK (K := K) hr) (pv 4) (pe_lst pa_nil) (nomark _)) pa_nil))))))))), fun ds R Ex ⟨ws, g, wd, hd, hw, h59, ho, h⟩ => ?_⟩
  subst hd
  (try dsimp only [cxOf, Cx.nox, Cx.wish]); change tS K _ _ _ [.val (.lst (ws.map D.int)), .val (.int g), .val (toQ wd), .emp, .emp, .emp, .emp, .emp] _
  repeat walk_at "y"
  refine s_for (i_range1 ?_)
  repeat walk_at "y"
  have e0 : (((ws.map D.int).length : Nat) : Int).toNat = ws.length := by rw [List.length_map]; rfl
  rw [e0, List.length_map]
  refine ⟨by omega, by omega, ?_⟩
  refine ⟨fun i ρ => ∃ (L : List (List Nat)) (l : List Nat) (s5 s6 s7 : Slot), ρ = [.val (.lst (ws.map D.int)), .val (.int g), .val (toQ wd), .own (L.map lnD), .own (l.map natD), s5, s6, s7] ∧ fl ws g wd i = (L, l), ⟨[], [], _, _, _, rfl, rfl⟩, ?_, ?_⟩
  · rintro i d ρ' hd ⟨L, l, s5, s6, s7, rfl, ef⟩
    obtain ⟨hi, rfl⟩ := rangeD_get hd
    rw [Int.zero_add]
    obtain ⟨hb1, hb2, hb3, hb4⟩ := fl_lt ws g wd i
    have st : fl ws g wd (i + 1) = stp ws g wd (fl ws g wd i) i := rfl
    rw [ef] at hb1 hb2 hb3 hb4 st
    dsimp only at hb1 hb2 hb3 hb4
    have lb2 : L.length ≤ 59 := by omega
    have hk : ∀ j ∈ l ++ [i], j < ws.length := fun j hj => by
      rcases List.mem_append.mp hj with hj | hj
      · have := hb3 j hj
        omega
      · rw [List.mem_singleton.mp hj]
        exact hi
    have wok : WsOk ((l ++ [i]).map (wi ws)) g := ws_map hw (by rw [List.length_append, List.length_singleton]; omega) hk
    repeat walk_at "y"
    refine e_lcM (fun d : D => match d with | .int k => .int (wi ws k.toNat) | d => d) (ic_list ?_)
    repeat walk_at "y"
    refine add_lst (small_len' (by rw [List.length_map, List.length_singleton]; omega)) ?_
    rw [show l.map natD ++ [D.int (i : Int)] = (l ++ [i]).map natD by rw [List.map_append]; rfl]
    repeat walk_at "y"
    refine ⟨small_len' (by rw [List.length_map, List.length_append, List.length_singleton]; omega), fun d hd => ?_, ?_⟩
    · obtain ⟨k, hm, rfl⟩ := List.mem_map.mp hd
      rw [show natD k = .int (k : Int) from rfl]
      repeat walk_at "y"
      exact ⟨_, _, rfl, at_wi (hk k hm), rfl⟩
    · have e : ((l ++ [i]).map natD).map (fun d : D => match d with | .int k => .int (wi ws k.toNat) | d => d) = ((l ++ [i]).map (wi ws)).map D.int := by
        rw [List.map_map, List.map_map]
        rfl
      rw [e]
      repeat ((fail_if_success (with_reducible show tS _ _ _ (tSeq (tIfS _ _ _) _) _ _)); walk_at "y")
      dsimp only
      refine s_seqJ (fun ρ => ∃ (L2 : List (List Nat)) (l2 : List Nat) (s6 s7 : Slot), ρ = [.val (.lst (ws.map D.int)), .val (.int g), .val (toQ wd), .own (L2.map lnD), .own (l2.map natD), .val (.int (i : Int)), s6, s7] ∧ stp ws g wd (L, l) i = (L2, l2 ++ [i]) ∧ l2.length ≤ 59) ?_ ?_
      · refine s_if ?_
        refine t_and ?_
        repeat walk_at "y"
        refine ⟨_, cmp_nil l, ?_⟩
        repeat walk_at "y"
        refine ⟨fun c => ?_, fun c => ?_⟩
        · refine t_not (t_tru (e_callB (fun _ => .nil) ?_))
          repeat walk_at "y"
          refine ⟨_, g, wd, rfl, wok, ho, rfl, ?_⟩
          refine ⟨_, rfl, fun c2 => ?_, fun c2 => ?_⟩
          · have ne : l ≠ [] := fun z => by
              subst z
              cases c
            have c2 : goesB ((l ++ [i]).map (wi ws)) g wd = false := by simpa using c2
            refine s_freezeS (i := 4) rfl (by repeat constructor) ?_
            repeat walk_at "y"
            refine ⟨small_lt (by rw [List.length_map]; omega), ?_⟩
            repeat walk_at "y"
            rw [show L.map lnD ++ [D.lst (l.map natD)] = (L ++ [l]).map lnD by rw [List.map_append]; rfl]
            exact ⟨L ++ [l], [], _, _, rfl, stp_newD ne c2, by decide⟩
          · have c2 : goesB ((l ++ [i]).map (wi ws)) g wd = true := by simpa using c2
            repeat walk_at "y"
            exact ⟨L, l, _, _, rfl, stp_goD (.inr c2), by omega⟩
        · have ne : l = [] := by
            have c : l.isEmpty = true := by simpa using c
            exact List.isEmpty_iff.mp c
          refine ⟨fun z => Bool.noConfusion z, fun _ => ?_⟩
          repeat walk_at "y"
          exact ⟨L, l, _, _, rfl, stp_goD (.inl ne), by omega⟩
      · rintro ρ' ⟨L2, l2, s6, s7, rfl, es, hl2⟩
        repeat walk_at "y"
        refine add_lst (small_len' (by rw [List.length_map, List.length_singleton]; omega)) ?_
        repeat walk_at "y"
        rw [show l2.map natD ++ [D.int (i : Int)] = (l2 ++ [i]).map natD by rw [List.map_append]; rfl]
        exact ⟨L2, l2 ++ [i], _, _, _, rfl, by rw [st]; exact es⟩
  · rintro ρ' ⟨L, l, s5, s6, s7, rfl, ef⟩
    rw [rangeD_len] at ef
    have ob : brk ws g wd = outL (L, l) := by
      unfold brk
      rw [ef]
    obtain ⟨hb1, hb2, hb3, hb4⟩ := fl_lt ws g wd ws.length
    rw [ef] at hb1 hb2 hb3 hb4
    dsimp only at hb1 hb2 hb3 hb4
    rw [ob] at h
    refine s_freezeS (i := 4) rfl (by repeat constructor) ?_
    repeat walk_at "y"
    refine ⟨_, cmp_nil l, ?_⟩
    repeat walk_at "y"
    have lb : L.length ≤ 59 := by
      by_cases z : ws.length = 0
      · rw [if_pos z] at hb4
        omega
      · rw [if_neg z] at hb4
        omega
    by_cases ne : l = []
    · subst ne
      refine .inr ⟨_, 0, rfl, rfl, by decide, by decide, Nat.zero_le _, ?_⟩
      refine add_lst (small_len' (by rw [List.length_map]; show L.length + 0 ≤ 1000; omega)) ?_
      show R (.own (L.map lnD ++ []))
      rw [List.append_nil]
      exact h
    · have c : l.isEmpty = false := by cases l <;> first | exact absurd rfl ne | rfl
      rw [c]
      refine .inr ⟨_, 1, rfl, rfl, by decide, by decide, by show 1 ≤ sizeLine; decide, ?_⟩
      refine add_lst (small_len' (by rw [List.length_map]; show L.length + 1 ≤ 1000; omega)) ?_
      show R (.own (L.map lnD ++ [lnD l]))
      have e : outL (L, l) = L ++ [l] := if_neg ne
      rw [e, List.map_append] at h
      exact h
theorem cut_ws {ws : List Int} {b e : Nat} (hb : b ≤ ws.length) (hl : e ≤ ws.length) : Y.cutD (ws.map D.int) (some (b : Int)) (some (e : Int)) = ((ws.drop b).take (e - b)).map D.int := by
  unfold Y.cutD
  rw [HT.sIx_nat, HT.sIx_nat, List.length_map, Nat.min_eq_left hb, Nat.min_eq_left hl, ← List.map_drop, ← List.map_take]
/-- what stands in the table while the places from b on are told -/
def tbl (ws : List Int) (g : Int) (wd : Q2) (b : Nat) : List D := (List.range (ws.length + 1)).map fun j => .int (if j < b then 0 else ((hh g wd (ws.drop j) : Nat) : Int))
section
variable {ws : List Int} {g : Int} {wd : Q2}
theorem tbl_len {b : Nat} : (tbl ws g wd b).length = ws.length + 1 := by
  unfold tbl
  rw [List.length_map, List.length_range]
theorem tbl_get {b j : Nat} (h : j ≤ ws.length) : (tbl ws g wd b)[j]? = some (.int (if j < b then 0 else ((hh g wd (ws.drop j) : Nat) : Int))) := by
  unfold tbl
  rw [List.getElem?_map, List.getElem?_range (by omega)]
  rfl
theorem tbl_set {b : Nat} (h : b ≤ ws.length) : (tbl ws g wd (b + 1)).set b (.int ((hh g wd (ws.drop b) : Nat) : Int)) = tbl ws g wd b := by
  apply List.ext_getElem?
  intro j
  by_cases hj : j ≤ ws.length
  · by_cases e : b = j
    · subst e
      rw [List.getElem?_set_self (by rw [tbl_len]; omega), tbl_get hj, if_neg (by omega)]
    · rw [List.getElem?_set_ne e, tbl_get hj, tbl_get hj]
      by_cases c : j < b
      · rw [if_pos c, if_pos (by omega)]
      · rw [if_neg c, if_neg (by omega)]
  · rw [List.getElem?_eq_none (by rw [List.length_set, tbl_len]; omega), List.getElem?_eq_none (by rw [tbl_len]; omega)]
theorem tbl_start : (List.replicate (ws.length + 1) [D.int 0]).flatten = tbl ws g wd ws.length := by
  have e : ∀ n, (List.replicate n [D.int 0]).flatten = List.replicate n (D.int 0) := fun n => by
    induction n with
    | zero => rfl
    | succ n ih => rw [List.replicate_succ, List.flatten_cons, ih, List.replicate_succ]; rfl
  rw [e]
  apply List.ext_getElem?
  intro j
  by_cases hj : j ≤ ws.length
  · rw [tbl_get hj, List.getElem?_replicate, if_pos (by omega)]
    by_cases c : j < ws.length
    · rw [if_pos c]
    · have ej : j = ws.length := by omega
      rw [if_neg c, ej, List.drop_length]
      rfl
  · rw [List.getElem?_eq_none (by rw [List.length_replicate]; omega), List.getElem?_eq_none (by rw [tbl_len]; omega)]
end
theorem sl_eqL {ds : List D} {lo hi : Option Int} {R : Res → Prop} {es : List D} (e : Y.cutD ds lo hi = es) (h : R (.own es)) : SlD (.lst ds) lo hi R := by
  subst e
  exact h
theorem ixN_nat {n j : Nat} (h : j < n) : ixN n (j : Int) = some j := by
  unfold ixN
  rw [if_pos (by omega), if_pos (by omega)]
  rfl
theorem ok_law_fewest (B : Bl mg) (d__law_goes : Dfn P w K mg base CX0 "_law_goes" ["_law_wishes", "_law_gap", "_law_width_here"] 1 fs_goes) (F : Fun K "_law_fewest" "_law_fewest" s__law_fewest f fd) : FnOk P w K mg base CX0 2 f fd ["_law_wishes", "_law_gap", "_law_width_here"] (spD K fs_fewest) := by
  refine fn0 F sc__law_fewest (fun ds R Ex ⟨a, b, c, h, _⟩ => by rw [h]; rfl) fun cdv A outer s H E hr => ⟨_, (pss_cons (ps_set (i := 3) sc__law_fewest.nd rfl (by first | exact .inl rfl | exact .inr rfl) (pe_op op_mulU (pe_lst (pa_cons pe_int pa_nil)) (pe_op op_addU (pe_callB (call_lenK (K := K)) (by rfl) B.bLen (by decide +kernel) (pa_cons (pv 0) pa_nil)) pe_int)))
      (pss_cons (ps_for PassesOwn.never rfl (pi_range3 (by rfl) B.bRange (pa_cons (pe_op op_sub (pe_callB (call_lenK (K := K)) (by rfl) B.bLen (by decide +kernel) (pa_cons (pv 0) pa_nil)) pe_int) (pa_cons (pe_un un_neg pe_int) (pa_cons (pe_un un_neg pe_int) pa_nil)))) (pg_name (i := 4) sc__law_fewest.nd rfl (by first | exact .inl rfl | exact .inr rfl))
      (pss_cons (ps_asg (pe_op op_addU pe_int (pe_ix (ix_K (K := K)) (pv 3) (pe_op op_addU (pv 4) pe_int) (fun _ _ => rfl))) (pg_sub (pv 3) (pv 4) set_list))
      (pss_one (ps_for PassesOwn.never rfl (pi_range2 (by rfl) B.bRange (pa_cons (pe_op op_addU (pv 4) pe_int) (pa_cons (pe_op op_addU (pe_callB (call_lenK (K := K)) (by rfl) B.bLen (by decide +kernel) (pa_cons (pv 0) pa_nil)) pe_int) pa_nil))) (pg_name (i := 5) sc__law_fewest.nd rfl (by first | exact .inl rfl | exact .inr rfl))
      (pss_one (ps_if (pt_truK (K := K) (pe_dK d__law_goes hr (pa_cons (pe_slice (sl_K (K := K)) (pv 0) (po_some (pv 4)) (po_some (pv 5))) (pa_cons (pv 1) (pa_cons (pv 2) pa_nil))))) (pss_one (ps_asg (pe_callB (call_min2 rfl) (by rfl) B.bMin (by decide +kernel) (pa_cons (pe_ix (ix_K (K := K)) (pv 3) (pv 4) (fun _ _ => rfl)) (pa_cons (pe_op op_addU pe_int (pe_ix (ix_K (K := K)) (pv 3) (pv 5) (fun _ _ => rfl))) pa_nil))) (pg_sub (pv 3) (pv 4) set_list))) pss_nil))))))
      (pss_one (ps_ret (pe_ix (ix_K (K := K)) (pv 3) pe_int (fun _ _ => rfl)))))), fun ds R Ex ⟨ws, g, wd, hd, hw, h59, ho, h⟩ => ?_⟩
  subst hd
  rw [brk_len] at h
  have el : (((ws.map D.int).length : Nat) : Int) = (ws.length : Int) := by rw [List.length_map]
  (try dsimp only [cxOf, Cx.nox, Cx.wish]); change tS K _ _ _ [.val (.lst (ws.map D.int)), .val (.int g), .val (toQ wd), .emp, .emp, .emp] _
  repeat walk_at "y"
  rw [el]
  refine .inr ⟨_, (ws.length : Int) + 1, rfl, rfl, by omega, by omega, small_len' (by show 1 * _ ≤ 1000; omega), ?_⟩
  rw [show ((ws.length : Int) + 1).toNat = ws.length + 1 from rfl, tbl_start (g := g) (wd := wd)]
  repeat walk_at "y"
  refine s_for (i_rangeDn ?_)
  repeat walk_at "y"
  rw [el, show ((ws.length : Int) - 1 - -1).toNat = ws.length by omega]
  refine ⟨rfl, ⟨by omega, by omega, by decide, by decide⟩, ?_⟩
  refine ⟨fun i ρ => ∃ (s4 s5 : Slot), ρ = [.val (.lst (ws.map D.int)), .val (.int g), .val (toQ wd), .own (tbl ws g wd (ws.length - i)), s4, s5], ⟨_, _, rfl⟩, ?_, ?_⟩
  · rintro i d ρ' hd ⟨s4, s5, rfl⟩
    obtain ⟨hi, rfl⟩ := rangeDn_get hd
    obtain ⟨b, eb⟩ : ∃ b, b = ws.length - 1 - i := ⟨_, rfl⟩
    have ebi : (ws.length : Int) - 1 - (i : Int) = (b : Int) := by omega
    have hbl : b < ws.length := by omega
    rw [ebi, show ws.length - i = b + 1 by omega]
    have ei : ws.length - (i + 1) = b := by omega
    have hd' : ws.drop b = ws[b] :: ws.drop (b + 1) := List.drop_eq_getElem_cons hbl
    obtain ⟨x, ex⟩ : ∃ x, x = ws[b] := ⟨_, rfl⟩
    obtain ⟨rest, er⟩ : ∃ r, r = ws.drop (b + 1) := ⟨_, rfl⟩
    rw [← ex, ← er] at hd'
    have hx : ∀ z ∈ x :: rest, 0 ≤ z := fun z hz => (hw.it z (List.mem_of_mem_drop (hd' ▸ hz))).1
    have rl : (x :: rest).length = ws.length - b := by rw [← hd', List.length_drop]
    have a1 : atI (tbl ws g wd (b + 1)) ((b : Int) + 1) = some (.int ((hh g wd rest : Nat) : Int)) := by
      refine atI_nat (j := b + 1) ?_
      rw [tbl_get (by omega), if_neg (by omega), er]
    repeat ((fail_if_success (with_reducible show tS _ _ _ _ _ _)); walk_at "y")
    dsimp only
    refine s_seq (s_setItem (i := 3) rfl ?_)
    repeat walk_at "y"
    refine ⟨_, _, rfl, a1, ?_⟩
    repeat walk_at "y"
    refine ⟨_, b, rfl, ixN_nat (by rw [tbl_len]; omega), ?_⟩
    change tS K _ _ _ [.val (.lst (ws.map D.int)), .val (.int g), .val (toQ wd), .own ((tbl ws g wd (b + 1)).set b (.int (1 + ((hh g wd rest : Nat) : Int)))), .val (.int (b : Int)), s5] _
    refine s_for (i_range2 ?_)
    repeat walk_at "y"
    rw [el]
    refine ⟨⟨by omega, by omega, by omega, by omega⟩, ?_⟩
    refine ⟨fun m ρ => ∃ (cur : Nat) (s5 : Slot), ρ = [.val (.lst (ws.map D.int)), .val (.int g), .val (toQ wd), .own ((tbl ws g wd (b + 1)).set b (.int (cur : Int))), .val (.int (b : Int)), s5] ∧ DpI g wd x rest (m + 1) cur, ⟨1 + hh g wd rest, _, by rw [Int.natCast_add]; rfl, dp_one hw.g0 ho.p.pos hx⟩, ?_, ?_⟩
    · rintro m d ρ' hd ⟨cur, s5, rfl, dp⟩
      obtain ⟨hm, rfl⟩ := rangeD_get hd
      obtain ⟨e, ee⟩ : ∃ e, e = b + 2 + m := ⟨_, rfl⟩
      have hel : e ≤ ws.length := by omega
      rw [show (b : Int) + 2 + (m : Int) = (e : Int) by omega]
      have cut : Y.cutD (ws.map D.int) (some (b : Int)) (some (e : Int)) = ((x :: rest).take (m + 2)).map D.int := by
        rw [cut_ws (by omega) hel, hd', show e - b = m + 2 by omega]
      have wok : WsOk ((x :: rest).take (m + 2)) g := ⟨by rw [List.length_take, rl]; have := hw.len; omega, fun z hz => hw.it z (List.mem_of_mem_drop (hd' ▸ List.mem_of_mem_take hz)), hw.g0, hw.g1⟩
      have st := dp_step hw.g0 ho.p.pos hx (show 1 ≤ m + 1 by omega) (show m + 1 < (x :: rest).length by omega) dp
      change DpI g wd x rest (m + 2) (if goesB ((x :: rest).take (m + 2)) g wd = true then min cur (1 + hh g wd ((x :: rest).drop (m + 2))) else cur) at st
      have a2 : atI ((tbl ws g wd (b + 1)).set b (.int (cur : Int))) (b : Int) = some (.int (cur : Int)) := atI_nat (by rw [List.getElem?_set_self (by rw [tbl_len]; omega)])
      have a3 : atI ((tbl ws g wd (b + 1)).set b (.int (cur : Int))) (e : Int) = some (.int ((hh g wd ((x :: rest).drop (m + 2)) : Nat) : Int)) := atI_nat (by
        rw [List.getElem?_set_ne (by omega), tbl_get hel, if_neg (by omega), ← hd', List.drop_drop, show b + (m + 2) = e by omega])
      repeat walk_at "y"
      refine e_call (fun _ => .nil) ?_
      repeat walk_at "y"
      refine sl_eqL cut ?_
      repeat walk_at "y"
      refine ⟨_, g, wd, rfl, wok, ho, ?_⟩
      refine ⟨_, rfl, fun c => ?_, fun c => ?_⟩
      · rw [if_pos c] at st
        refine s_setItem (i := 3) rfl ?_
        repeat walk_at "y"
        refine ⟨_, _, rfl, a2, ?_⟩
        repeat walk_at "y"
        refine ⟨_, _, rfl, a3, ?_⟩
        repeat walk_at "y"
        refine ⟨_, b, rfl, ixN_nat (by rw [List.length_set, tbl_len]; omega), ?_⟩
        rw [List.set_set]
        rw [show (min (cur : Int) (1 + ((hh g wd ((x :: rest).drop (m + 2)) : Nat) : Int))) = ((min cur (1 + hh g wd ((x :: rest).drop (m + 2))) : Nat) : Int) by omega]
        exact ⟨_, _, rfl, st⟩
      · rw [if_neg (by rw [c]; decide)] at st
        repeat walk_at "y"
        exact st
    · rintro ρ' ⟨cur, s5, rfl, dp⟩
      rw [rangeD_len] at dp
      have em : ((ws.length : Int) + 1 - ((b : Int) + 2)).toNat + 1 = (x :: rest).length := by omega
      rw [em] at dp
      have ec := dp_end dp
      rw [ec, ← hd', tbl_set (by omega)]
      exact ⟨_, _, by rw [ei]⟩
  · rintro ρ' ⟨s4, s5, rfl⟩
    rw [rangeDn_len, Nat.sub_self]
    repeat walk_at "y"
    refine ⟨_, _, rfl, atI_nat (j := 0) (tbl_get (Nat.zero_le _)), ?_⟩
    exact h
end
end K31
end

section
set_option maxHeartbeats 4000000
open PySem PySem.Spec PyProof.Rows L2 Y
local macro_rules | `(tactic| walk_at "yE") => `(tactic| first
  | ((with_reducible show tE _ _ _ (tOp _ _ _) _ _); first
    | (with_reducible refine e_ix ?_)
    | (with_reducible refine e_add ?_)
    | (with_reducible refine e_catA ?_)
    | (with_reducible refine e_sub ?_)
    | (with_reducible refine e_mul ?_)
    | (with_reducible refine e_mod ?_)
    | (with_reducible refine e_fdiv ?_)
    | (with_reducible refine e_pow ?_)
    | (with_reducible refine e_shr ?_)
    | (with_reducible refine e_band ?_)
    | (with_reducible refine e_lt ?_)
    | (with_reducible refine e_le ?_)
    | (with_reducible refine e_gt ?_)
    | (with_reducible refine e_ge ?_)
    | (with_reducible refine e_eq ?_)
    | (with_reducible refine e_ne ?_)
    | (with_reducible refine e_isN ?_)
    | (with_reducible refine e_notN ?_)
    | (with_reducible refine e_isB ?_)
    | (with_reducible refine e_isntB ?_))
  | ((with_reducible show tE _ _ _ (tCB _ _) _ _); first
    | (with_reducible refine e_len ?_)
    | (with_reducible refine e_isX (by with_unfolding_all exact fun _ h => h) ?_)
    | (with_reducible refine e_isInt ?_)
    | (with_reducible refine e_isBool ?_)
    | (with_reducible refine e_isTup ?_)
    | (with_reducible refine e_isStr ?_)
    | (with_reducible refine e_isList ?_)
    | (with_reducible refine e_gcd ?_)
    | (with_reducible refine e_abs ?_)
    | (with_reducible refine e_max2 ?_)
    | (with_reducible refine e_min2 ?_)
    | (with_reducible refine e_intB ?_)
    | (with_reducible refine e_strI ?_)
    | (with_reducible refine e_list ?_)
    | (with_reducible refine e_repr ?_)
    | (with_reducible refine e_tupL ?_)
    | (with_reducible refine e_all ?_))
  | (with_reducible refine e_val (by with_unfolding_all rfl) ?_)
  | (with_reducible refine e_own (by with_unfolding_all rfl) ?_)
  | (with_reducible refine e_int ?_)
  | (with_reducible refine e_bl ?_)
  | (with_reducible refine e_non ?_)
  | (with_reducible refine e_str ?_)
  | (with_reducible refine e_neg ?_)
  | (with_reducible refine e_and ?_)
  | (with_reducible refine e_or ?_)
  | (with_reducible refine e_not ?_)
  | (with_reducible refine e_if ?_)
  | (with_reducible refine e_chainI ?_)
  | (with_reducible refine e_tup ?_)
  | (with_reducible refine e_lst ?_)
  | (with_reducible refine e_dk0 ?_)
  | (with_reducible refine e_sl ?_)
  | (with_reducible refine e_slT ?_)
  | (with_reducible refine e_c01 (by assumption) ?_)
  | (with_reducible refine e_revL ?_))
local macro_rules | `(tactic| walk_at "yS") => `(tactic| first
  | (with_reducible refine s_seq ?_)
  | (with_reducible refine s_if ?_)
  | (with_reducible refine s_retOwn (by with_unfolding_all rfl) ?_)
  | (with_reducible refine s_ret ?_)
  | (with_reducible refine s_retN ?_)
  | (with_reducible refine s_next ?_)
  | (with_reducible refine s_set ?_ (by with_unfolding_all exact Nat.le_of_ble_eq_true rfl))
  | (with_reducible refine s_asgG ?_)
  | (with_reducible refine s_parS ?_ (by with_unfolding_all exact Nat.le_of_ble_eq_true rfl) (by with_unfolding_all exact Nat.le_of_ble_eq_true rfl))
  | (with_reducible refine s_rz ?_)
  | (with_reducible refine s_appendS (by with_unfolding_all rfl) ?_)
  | (with_reducible refine s_expr ?_)
  | ((with_reducible refine s_tryKK ?_); intro W))
local macro_rules | `(tactic| walk_at "yT") => `(tactic| first
  | (with_reducible refine t_test ?_)
  | (with_reducible refine t_tru ?_)
  | (with_reducible refine t_not ?_)
  | (with_reducible refine t_and ?_)
  | (with_reducible refine t_or ?_))
local macro_rules | `(tactic| walk_at "yA") => `(tactic| first
  | (with_reducible refine vs_cons ?_)
  | (with_reducible refine vs_nil ?_)
  | (with_reducible refine a_cons ?_)
  | (with_reducible refine a_nil ?_)
  | (with_reducible refine o_none ?_)
  | (with_reducible refine o_some ?_))
local macro_rules | `(tactic| walk_at "yX") => `(tactic| first
  | ((with_reducible show ∃ _, CmpD _ _ _ ∧ _); first | refine ⟨_, cmpd_int, ?_⟩ | refine ⟨_, cmpd_str, ?_⟩ | refine ⟨_, cmpd_bl, ?_⟩)
  | ((with_reducible show ∃ _ _, _ ∧ ExcC _ _ ∧ _); refine ⟨_, _, rfl, by assumption, by assumption, ?_⟩)
  | (refine ⟨_, _, rfl, rfl, ?_⟩)
  | (refine ⟨_, _, rfl, ?_⟩)
  | (refine ⟨_, rfl, ?_⟩))
local macro_rules | `(tactic| walk_at "yN") => `(tactic| first
  | (with_reducible refine brT ?_)
  | (with_reducible refine brF ?_)
  | (with_reducible refine brT' ?_)
  | (with_reducible refine brF' ?_)
  | ((with_reducible show ((!_) = false → _) ∧ _); first | (refine brA' rfl ?_) | (refine brB' rfl ?_))
  | ((with_reducible show ((!_) = true → _) ∧ _); first | (refine brA rfl ?_) | (refine brB rfl ?_))
  | ((with_reducible show 0 < _ ∧ _); refine ⟨by first | decide | omega, ?_⟩)
  | ((with_reducible show _ ≤ sizeLine ∧ _); refine ⟨small_len (by with_unfolding_all exact Nat.le_of_ble_eq_true rfl), ?_⟩)
  | ((with_reducible show CPow _ _ ∧ _); refine ⟨⟨by decide, by decide, by decide⟩, ?_⟩)
  | ((with_reducible show CDivX _ _ ∧ _); refine ⟨⟨by decide, by decide⟩, ?_⟩)
  | ((with_reducible show 0 ≤ _ ∧ _); refine ⟨by first | decide | omega, ?_⟩)
  | ((with_reducible show _ = D.non ∧ _); refine ⟨rfl, ?_⟩))
local macro_rules | `(tactic| walk_at "yO") => `(tactic| first
  | ((with_reducible show vR _ _); first | (with_reducible refine vr_val ?_) | (with_reducible refine vr_own ?_))
  | ((with_reducible show asgR _ _); first | (with_reducible refine as_val ?_) | (with_reducible refine as_own ?_))
  | ((with_reducible show ∃ _, _); walk_at "yX")
  | ((with_reducible show _ ∧ _); walk_at "yN")
  | ((with_reducible show AddD _ _ _); first | (refine add_int ?_) | (refine add_lst (small_len' (by with_unfolding_all exact Nat.le_of_ble_eq_true rfl)) ?_))
  | ((with_reducible show MulD _ _ _); refine mul_int (by walk_at "mok") ?_)
  | (with_reducible refine ss_go (by with_unfolding_all repeat constructor) ?_)
  | (with_reducible refine g_nameS (by first | trivial | exact List.mem_cons_self | simp) (by with_unfolding_all repeat constructor) ?_)
  | (with_reducible refine g_tup (by with_unfolding_all rfl) ?_)
  | (with_reducible refine gs_cons ?_)
  | (with_reducible refine gs_nil ?_))
local macro_rules | `(tactic| walk_at "y") => `(tactic| first
  | ((with_reducible show tE _ _ _ _ _ _); walk_at "yE")
  | ((with_reducible show tS _ _ _ _ _ _); walk_at "yS")
  | ((with_reducible show tT _ _ _ _ _ _); walk_at "yT")
  | ((with_reducible show tVs _ _ _ _ _ _); walk_at "yA")
  | ((with_reducible show tA _ _ _ _ _ _); walk_at "yA")
  | ((with_reducible show tOo _ _ _ _ _ _); walk_at "yA")
  | walk_at "yO")
local macro_rules | `(tactic| walk_at "z") => `(tactic| (fail_if_success (with_reducible show tS _ _ _ (tSeq (tIfS _ _ _) _) _ _); walk_at "y"))
local macro_rules | `(tactic| walk_at "smb") => `(tactic| first
  | assumption
  | exact (show Sm 64 _ by unfold Sm; decide)
  | (apply Sm.mul <;> walk_at "smb")
  | (apply Sm.add2 <;> walk_at "smb")
  | (apply Sm.sub2 <;> walk_at "smb")
  | (apply Sm.neg <;> walk_at "smb"))
local macro_rules | `(tactic| walk_at "mok") => `(tactic| exact mulOk (by walk_at "smb") (by walk_at "smb") (by decide) (by decide) (by decide))

namespace K31
open PySem PySem.Spec PyProof.Rows L2 Y Sh Br
section
variable {P : Program} {w : World} {K : PySem.W.Frag} {mg : Str → Option Value} {base : Heap} {f : Addr} {fd : FuncData}


abbrev fs_law_width : FSpec := fun ds R _ => ∃ (ws : List Int) (g c : Int), ds = [.lst (ws.map D.int), .int g, .int c] ∧ WsOk ws g ∧ ws.length ≤ 59 ∧ 0 ≤ c ∧ ∀ wd : Q2, WdOk wd → R (.val (toQ wd))
theorem cut_any {ws : List Int} {g : Int} (h : WsOk ws g) (lo hi : Option Int) : ∃ es : List Int, Y.cutD (ws.map D.int) lo hi = es.map D.int ∧ WsOk es g := by
  unfold Y.cutD
  rw [List.length_map, ← List.map_drop, ← List.map_take]
  refine ⟨_, rfl, ?_, fun x hx => h.it x (List.mem_of_mem_drop (List.mem_of_mem_take hx)), h.g0, h.g1⟩
  rw [List.length_take, List.length_drop]
  have := h.len
  omega
theorem sl_eqE {ds : List D} {lo hi : Option Int} {R : Res → Prop} {es : List D} (e : Y.cutD ds lo hi = es) (h : R (.own es)) : SlD (.lst ds) lo hi R := by
  subst e
  exact h
theorem ok_law_width (B : Bl mg) (d__law_part : Dfn P w K mg base CX0 "_law_part" ["_law_top", "_law_bottom"] 1 fs_law_part) (d__law_sum : Dfn P w K mg base CX0 "_law_sum" ["_law_one", "_law_other"] 2 (fs_op2 addQ)) (F : Fun K "_law_width" "_law_width" s__law_width f fd) : FnOk P w K mg base CX0 3 f fd ["_law_wishes", "_law_gap", "_law_cell"] (spD K fs_law_width) := by
  refine fn0 F sc__law_width (fun ds R Ex ⟨a, b, c, h, _⟩ => by rw [h]; rfl) fun cdv A outer s H E hr => ⟨_, (pss_cons (ps_set (i := 3) sc__law_width.nd rfl (by first | exact .inl rfl | exact .inr rfl) (pe_callB (call_lenK (K := K)) (by rfl) B.bLen (by decide +kernel) (pa_cons (pv 0) pa_nil)))
      (pss_cons (ps_set (i := 4) sc__law_width.nd rfl (by first | exact .inl rfl | exact .inr rfl) (pe_op op_mod (pv 2) (pe_op op_addU (pv 3) pe_int)))
      (pss_cons (ps_set (i := 5) sc__law_width.nd rfl (by first | exact .inl rfl | exact .inr rfl) (pe_slice (sl_K (K := K)) (pv 0) (po_some (pv 4)) (po_some (pe_op op_addU (pe_op op_addU (pv 4) pe_int) (pe_op op_mod (pe_op op_fdivX (pv 2) pe_int) pe_int)))))
      (pss_cons (ps_set (i := 6) sc__law_width.nd rfl (by first | exact .inl rfl | exact .inr rfl) (pe_op op_addU (pe_callB (call_sumK (K := K) rfl) (by rfl) B.bSum (by decide +kernel) (pa_cons (pv 5) pa_nil)) (pe_op op_mulU (pv 1) (pe_callB (call_max2 rfl) (by rfl) B.bMax (by decide +kernel) (pa_cons pe_int (pa_cons (pe_op op_sub (pe_callB (call_lenK (K := K)) (by rfl) B.bLen (by decide +kernel) (pa_cons (pv 5) pa_nil)) pe_int) pa_nil))))))
      (pss_cons (ps_set (i := 7) sc__law_width.nd rfl (by first | exact .inl rfl | exact .inr rfl) (pe_ix (ix_K (K := K)) (pe_lst (pa_cons (pe_tup (pa_cons pe_int (pa_cons pe_int pa_nil))) (pa_cons (pe_tup (pa_cons (pe_un un_neg pe_int) (pa_cons pe_int pa_nil))) (pa_cons (pe_tup (pa_cons pe_int (pa_cons pe_int pa_nil))) pa_nil)))) (pe_op op_mod (pe_op op_fdivX (pv 2) pe_int) pe_int) (fun _ _ => rfl)))
      (pss_cons (ps_set (i := 8) sc__law_width.nd rfl (by first | exact .inl rfl | exact .inr rfl) (pe_dK d__law_sum hr (pa_cons (pe_tup (pa_cons (pv 6) (pa_cons pe_int pa_nil))) (pa_cons (pv 7) pa_nil))))
      (pss_cons (ps_set (i := 8) sc__law_width.nd rfl (by first | exact .inl rfl | exact .inr rfl) (pe_ix (ix_K (K := K)) (pe_lst (pa_cons (pv 8) (pa_cons (pv 8) (pa_cons (pv 8) (pa_cons (pe_tup (pa_cons pe_int (pa_cons pe_int pa_nil))) (pa_cons (pe_tup (pa_cons (pe_op op_pow pe_int pe_int) (pa_cons pe_int pa_nil))) (pa_cons (pe_dK d__law_part (hr.mono (by decide)) (pa_cons (pe_op op_mod (pv 2) pe_int) (pa_cons pe_int pa_nil))) pa_nil))))))) (pe_op op_mod (pe_op op_fdivX (pv 2) pe_int) pe_int) (fun _ _ => rfl)))
      (pss_one (ps_ret (pe_ix (ix_K (K := K)) (pe_lst (pa_cons (pv 8) (pa_cons (pe_tup (pa_cons pe_int (pa_cons pe_int pa_nil))) pa_nil))) (pe_callTy call_int1 (by rfl) B.bInt (by decide +kernel) (pa_cons (pe_cmpR op_lt (pe_ix (ix_K (K := K)) (pv 8) pe_int (fun _ _ => rfl)) pe_int (nomark _)) pa_nil)) (fun _ _ => rfl))))))))))), fun ds R Ex ⟨ws, g, c, hd, hw, h59, c0, h⟩ => ?_⟩
  subst hd
  have el : (((ws.map D.int).length : Nat) : Int) = (ws.length : Int) := by rw [List.length_map]
  have sg : Sm 64 g := by
    have := hw.g0
    have := hw.g1
    unfold Sm
    omega
  (try dsimp only [cxOf, Cx.nox, Cx.wish]); change tS K _ _ _ [.val (.lst (ws.map D.int)), .val (.int g), .val (.int c), .emp, .emp, .emp, .emp, .emp, .emp] _
  repeat walk_at "y"
  obtain ⟨es, ec, ws2⟩ := cut_any hw (some (c % (((ws.map D.int).length : Nat) + 1 : Int))) (some (c % (((ws.map D.int).length : Nat) + 1 : Int) + 1 + c.fdiv 64 % 6))
  refine sl_eqE ec ?_
  have sl : Sm 64 (max 0 ((((es.map D.int).length : Nat) : Int) - 1)) := by
    have := ws2.len
    rw [List.length_map]
    unfold Sm
    omega
  repeat walk_at "y"
  refine e_sum ?_
  repeat walk_at "y"
  have eu : es.sum + g * max 0 ((((es.map D.int).length : Nat) : Int) - 1) = usedI es g := by
    rw [List.length_map]
    rfl
  rw [eu]
  have y0 := Int.emod_nonneg (c.fdiv 400) (show (3 : Int) ≠ 0 by decide)
  have y1 := Int.emod_lt_of_pos (c.fdiv 400) (show (0 : Int) < 3 by decide)
  obtain ⟨d, hm, hx⟩ := ixd_any (ds := [toQ (0, 1), toQ (-1, 360), toQ (1, 7)]) y0 y1
  obtain ⟨near, rfl, pn⟩ : ∃ u : Q2, d = toQ u ∧ Pt 12 u := by
    simp only [List.mem_cons, List.not_mem_nil, or_false] at hm
    rcases hm with rfl | rfl | rfl
    · exact ⟨_, rfl, by decide, by unfold Sm; decide, by unfold Sm; decide⟩
    · exact ⟨_, rfl, by decide, by unfold Sm; decide, by unfold Sm; decide⟩
    · exact ⟨_, rfl, by decide, by unfold Sm; decide, by unfold Sm; decide⟩
  refine ⟨_, _, rfl, hx, ?_⟩
  repeat walk_at "y"
  have pf : Pt 20 ((usedI es g, 1) : Q2) := int_pt (used_sm ws2) (by decide)
  refine e_call (fun _ => .nil) ?_
  repeat walk_at "y"
  refine ⟨(usedI es g, 1), near, rfl, pf.up (by decide), pn.up (by decide), ?_⟩
  have p1 := add_pt pf pn
  generalize addQ (usedI es g, 1) near = fd1 at p1 ⊢
  repeat walk_at "y"
  refine e_call (fun _ => .nil) ?_
  repeat walk_at "y"
  refine ⟨Sm.le (n := 4) (by unfold Sm; decide) (by decide), ?_⟩
  have x0 := Int.emod_nonneg c (show (9000 : Int) ≠ 0 by decide)
  have x1 := Int.emod_lt_of_pos c (show (0 : Int) < 9000 by decide)
  have p2 : Pt 20 (low (c % 9000) 7) := ⟨low_pos (by decide), (low_sm (by decide) (show Sm 20 (c % 9000) by unfold Sm; omega) (show Sm 20 7 by unfold Sm; decide)).1, (low_sm (by decide) (show Sm 20 (c % 9000) by unfold Sm; omega) (show Sm 20 7 by unfold Sm; decide)).2⟩
  generalize low (c % 9000) 7 = fd2 at p2 ⊢
  repeat walk_at "y"
  have z0 := Int.emod_nonneg (c.fdiv 1200) (show (6 : Int) ≠ 0 by decide)
  have z1 := Int.emod_lt_of_pos (c.fdiv 1200) (show (0 : Int) < 6 by decide)
  obtain ⟨d, hm, hx⟩ := ixd_any (ds := [toQ fd1, toQ fd1, toQ fd1, toQ (0, 1), toQ (10 ^ Int.toNat 5, 1), toQ fd2]) z0 z1
  obtain ⟨wd, rfl, pw⟩ : ∃ u : Q2, d = toQ u ∧ Pt 60 u := by
    simp only [List.mem_cons, List.not_mem_nil, or_false] at hm
    rcases hm with rfl | rfl | rfl | rfl | rfl | rfl
    · exact ⟨_, rfl, p1.up (by decide)⟩
    · exact ⟨_, rfl, p1.up (by decide)⟩
    · exact ⟨_, rfl, p1.up (by decide)⟩
    · exact ⟨_, rfl, by decide, by unfold Sm; decide, by unfold Sm; decide⟩
    · exact ⟨_, rfl, by decide, by unfold Sm; decide, by unfold Sm; decide⟩
    · exact ⟨_, rfl, p2.up (by decide)⟩
  refine ⟨_, _, rfl, hx, ?_⟩
  obtain ⟨a, b⟩ := wd
  rw [show toQ (a, b) = .tup [.int a, .int b] from rfl]
  repeat walk_at "y"
  by_cases neg : a < 0
  · rw [if_pos (decide_eq_true neg)]
    exact ⟨1, pt 0 1, rfl, atI_nat (j := 1) rfl, h (0, 1) ⟨⟨by decide, by unfold Sm; decide, by unfold Sm; decide⟩, by decide⟩⟩
  · rw [if_neg (by rw [decide_eq_false neg]; decide)]
    exact ⟨0, pt a b, rfl, atI_nat (j := 0) rfl, h (a, b) ⟨pw, by show 0 ≤ a; omega⟩⟩
end
end K31
end

section
set_option maxHeartbeats 4000000
open PySem PySem.Spec PyProof.Rows L2 Y
local macro_rules | `(tactic| walk_at "yE") => `(tactic| first
  | ((with_reducible show tE _ _ _ (tOp _ _ _) _ _); first
    | (with_reducible refine e_ix ?_)
    | (with_reducible refine e_add ?_)
    | (with_reducible refine e_catA ?_)
    | (with_reducible refine e_sub ?_)
    | (with_reducible refine e_mul ?_)
    | (with_reducible refine e_mod ?_)
    | (with_reducible refine e_fdiv ?_)
    | (with_reducible refine e_pow ?_)
    | (with_reducible refine e_shr ?_)
    | (with_reducible refine e_band ?_)
    | (with_reducible refine e_lt ?_)
    | (with_reducible refine e_le ?_)
    | (with_reducible refine e_gt ?_)
    | (with_reducible refine e_ge ?_)
    | (with_reducible refine e_eq ?_)
    | (with_reducible refine e_ne ?_)
    | (with_reducible refine e_isN ?_)
    | (with_reducible refine e_notN ?_)
    | (with_reducible refine e_isB ?_)
    | (with_reducible refine e_isntB ?_))
  | ((with_reducible show tE _ _ _ (tCB _ _) _ _); first
    | (with_reducible refine e_len ?_)
    | (with_reducible refine e_isX (by with_unfolding_all exact fun _ h => h) ?_)
    | (with_reducible refine e_isInt ?_)
    | (with_reducible refine e_isBool ?_)
    | (with_reducible refine e_isTup ?_)
    | (with_reducible refine e_isStr ?_)
    | (with_reducible refine e_isList ?_)
    | (with_reducible refine e_gcd ?_)
    | (with_reducible refine e_abs ?_)
    | (with_reducible refine e_max2 ?_)
    | (with_reducible refine e_min2 ?_)
    | (with_reducible refine e_intB ?_)
    | (with_reducible refine e_strI ?_)
    | (with_reducible refine e_list ?_)
    | (with_reducible refine e_repr ?_)
    | (with_reducible refine e_tupL ?_)
    | (with_reducible refine e_all ?_))
  | (with_reducible refine e_val (by with_unfolding_all rfl) ?_)
  | (with_reducible refine e_own (by with_unfolding_all rfl) ?_)
  | (with_reducible refine e_int ?_)
  | (with_reducible refine e_bl ?_)
  | (with_reducible refine e_non ?_)
  | (with_reducible refine e_str ?_)
  | (with_reducible refine e_neg ?_)
  | (with_reducible refine e_and ?_)
  | (with_reducible refine e_or ?_)
  | (with_reducible refine e_not ?_)
  | (with_reducible refine e_if ?_)
  | (with_reducible refine e_chainI ?_)
  | (with_reducible refine e_tup ?_)
  | (with_reducible refine e_lst ?_)
  | (with_reducible refine e_dk0 ?_)
  | (with_reducible refine e_sl ?_)
  | (with_reducible refine e_slT ?_)
  | (with_reducible refine e_c01 (by assumption) ?_)
  | (with_reducible refine e_revL ?_))
local macro_rules | `(tactic| walk_at "yS") => `(tactic| first
  | (with_reducible refine s_seq ?_)
  | (with_reducible refine s_if ?_)
  | (with_reducible refine s_retOwn (by with_unfolding_all rfl) ?_)
  | (with_reducible refine s_ret ?_)
  | (with_reducible refine s_retN ?_)
  | (with_reducible refine s_next ?_)
  | (with_reducible refine s_set ?_ (by with_unfolding_all exact Nat.le_of_ble_eq_true rfl))
  | (with_reducible refine s_asgG ?_)
  | (with_reducible refine s_parS ?_ (by with_unfolding_all exact Nat.le_of_ble_eq_true rfl) (by with_unfolding_all exact Nat.le_of_ble_eq_true rfl))
  | (with_reducible refine s_rz ?_)
  | (with_reducible refine s_appendS (by with_unfolding_all rfl) ?_)
  | (with_reducible refine s_expr ?_)
  | ((with_reducible refine s_tryKK ?_); intro W))
local macro_rules | `(tactic| walk_at "yT") => `(tactic| first
  | (with_reducible refine t_test ?_)
  | (with_reducible refine t_tru ?_)
  | (with_reducible refine t_not ?_)
  | (with_reducible refine t_and ?_)
  | (with_reducible refine t_or ?_))
local macro_rules | `(tactic| walk_at "yA") => `(tactic| first
  | (with_reducible refine vs_cons ?_)
  | (with_reducible refine vs_nil ?_)
  | (with_reducible refine a_cons ?_)
  | (with_reducible refine a_nil ?_)
  | (with_reducible refine o_none ?_)
  | (with_reducible refine o_some ?_))
local macro_rules | `(tactic| walk_at "yX") => `(tactic| first
  | ((with_reducible show ∃ _, CmpD _ _ _ ∧ _); first | refine ⟨_, cmpd_int, ?_⟩ | refine ⟨_, cmpd_str, ?_⟩ | refine ⟨_, cmpd_bl, ?_⟩)
  | ((with_reducible show ∃ _ _, _ ∧ ExcC _ _ ∧ _); refine ⟨_, _, rfl, by assumption, by assumption, ?_⟩)
  | (refine ⟨_, _, rfl, rfl, ?_⟩)
  | (refine ⟨_, _, rfl, ?_⟩)
  | (refine ⟨_, rfl, ?_⟩))
local macro_rules | `(tactic| walk_at "yN") => `(tactic| first
  | (with_reducible refine brT ?_)
  | (with_reducible refine brF ?_)
  | (with_reducible refine brT' ?_)
  | (with_reducible refine brF' ?_)
  | ((with_reducible show ((!_) = false → _) ∧ _); first | (refine brA' rfl ?_) | (refine brB' rfl ?_))
  | ((with_reducible show ((!_) = true → _) ∧ _); first | (refine brA rfl ?_) | (refine brB rfl ?_))
  | ((with_reducible show 0 < _ ∧ _); refine ⟨by first | decide | omega, ?_⟩)
  | ((with_reducible show _ ≤ sizeLine ∧ _); refine ⟨small_len (by with_unfolding_all exact Nat.le_of_ble_eq_true rfl), ?_⟩)
  | ((with_reducible show CPow _ _ ∧ _); refine ⟨⟨by decide, by decide, by decide⟩, ?_⟩)
  | ((with_reducible show CDivX _ _ ∧ _); refine ⟨⟨by decide, by decide⟩, ?_⟩)
  | ((with_reducible show 0 ≤ _ ∧ _); refine ⟨by first | decide | omega, ?_⟩)
  | ((with_reducible show _ = D.non ∧ _); refine ⟨rfl, ?_⟩))
local macro_rules | `(tactic| walk_at "yO") => `(tactic| first
  | ((with_reducible show vR _ _); first | (with_reducible refine vr_val ?_) | (with_reducible refine vr_own ?_))
  | ((with_reducible show asgR _ _); first | (with_reducible refine as_val ?_) | (with_reducible refine as_own ?_))
  | ((with_reducible show ∃ _, _); walk_at "yX")
  | ((with_reducible show _ ∧ _); walk_at "yN")
  | ((with_reducible show AddD _ _ _); first | (refine add_int ?_) | (refine add_lst (small_len' (by with_unfolding_all exact Nat.le_of_ble_eq_true rfl)) ?_))
  | ((with_reducible show MulD _ _ _); refine mul_int (by walk_at "mok") ?_)
  | (with_reducible refine ss_go (by with_unfolding_all repeat constructor) ?_)
  | (with_reducible refine g_nameS (by first | trivial | exact List.mem_cons_self | simp) (by with_unfolding_all repeat constructor) ?_)
  | (with_reducible refine g_tup (by with_unfolding_all rfl) ?_)
  | (with_reducible refine gs_cons ?_)
  | (with_reducible refine gs_nil ?_))
local macro_rules | `(tactic| walk_at "y") => `(tactic| first
  | ((with_reducible show tE _ _ _ _ _ _); walk_at "yE")
  | ((with_reducible show tS _ _ _ _ _ _); walk_at "yS")
  | ((with_reducible show tT _ _ _ _ _ _); walk_at "yT")
  | ((with_reducible show tVs _ _ _ _ _ _); walk_at "yA")
  | ((with_reducible show tA _ _ _ _ _ _); walk_at "yA")
  | ((with_reducible show tOo _ _ _ _ _ _); walk_at "yA")
  | walk_at "yO")
local macro_rules | `(tactic| walk_at "z") => `(tactic| (fail_if_success (with_reducible show tS _ _ _ (tSeq (tIfS _ _ _) _) _ _); walk_at "y"))
local macro_rules | `(tactic| walk_at "smb") => `(tactic| first
  | assumption
  | exact (show Sm 64 _ by unfold Sm; decide)
  | (apply Sm.mul <;> walk_at "smb")
  | (apply Sm.add2 <;> walk_at "smb")
  | (apply Sm.sub2 <;> walk_at "smb")
  | (apply Sm.neg <;> walk_at "smb"))
local macro_rules | `(tactic| walk_at "mok") => `(tactic| exact mulOk (by walk_at "smb") (by walk_at "smb") (by decide) (by decide) (by decide))

namespace K31
open PySem PySem.Spec PyProof.Rows L2 Y Sh Br
section
variable {P : Program} {w : World} {K : PySem.W.Frag} {mg : Str → Option Value} {base : Heap} {f : Addr} {fd : FuncData}


theorem sl_eqF {ds : List D} {lo hi : Option Int} {R : Res → Prop} {es : List D} (e : Y.cutD ds lo hi = es) (h : R (.own es)) : SlD (.fz ds) lo hi R := by
  subst e
  exact h
theorem cut_take {cs : List Int} {c : Nat} : Y.cutD (cs.map D.int) none (some (c : Int)) = (cs.take c).map D.int := by
  unfold Y.cutD
  rw [HT.sIx_nat, HT.sIx_none, List.drop_zero, Nat.sub_zero, List.length_map, ← List.map_take]
  by_cases h : c ≤ cs.length
  · rw [Nat.min_eq_left h]
  · rw [Nat.min_eq_right (by omega), List.take_of_length_le (Nat.le_refl _), List.take_of_length_le (by omega)]
theorem plain_ln : ∀ L : List (List Nat), plainAll (L.map lnD) = true
  | [] => rfl
  | l :: L => by
    have e : ∀ l : List Nat, plainAll (l.map natD) = true := fun l => by
      induction l with
      | nil => rfl
      | cons a r ih => exact ih
    show (plainAll (l.map natD) && plainAll (L.map lnD)) = true
    rw [e, plain_ln L]
    rfl
theorem dep_ln (L : List (List Nat)) : (D.lst (L.map lnD)).dep ≤ 2 := by
  have e : ∀ l : List Nat, depAll (l.map natD) = 0 := fun l => by
    induction l with
    | nil => rfl
    | cons a r ih =>
      show max 0 (depAll (r.map natD)) = 0
      rw [ih]
      rfl
  have e2 : depAll (L.map lnD) ≤ 1 := by
    induction L with
    | nil => exact Nat.zero_le _
    | cons l L ih =>
      show max (depAll (l.map natD) + 1) (depAll (L.map lnD)) ≤ 1
      rw [e]
      omega
  show depAll (L.map lnD) + 1 ≤ 2
  omega
theorem cmp_ln (L : List (List Nat)) : CmpD (.lst (L.map lnD)) (.lst (L.map lnD)) true := cmpd_same (show plainAll _ = true from plain_ln L) (Nat.le_trans (dep_ln L) (by decide))
theorem show_two (a b : Bool) : ShowOk (.lst [.bl a, .bl b]) := .inr ⟨rfl, by cases a <;> cases b <;> decide, Nat.le_of_ble_eq_true rfl, by cases a <;> cases b <;> decide⟩
theorem ok_law (B : Bl mg) (d__law_mixed : Dfn P w K mg base CX0 "_law_mixed" ["_law_script", "_law_start", "_law_many"] 2 fs_mixed) (d__law_width : Dfn P w K mg base CX0 "_law_width" ["_law_wishes", "_law_gap", "_law_cell"] 3 fs_law_width) (d__law_broken : Dfn P w K mg base CX0 "_law_broken" ["_law_wishes", "_law_gap", "_law_width_here"] 2 fs_broken) (d_broken : Dfn P w K mg base CX0 "broken" ["wishes", "gap", "width"] 2 fs_broken)
    (d_goes_into : Dfn P w K mg base CX0 "goes_into" ["wishes", "gap", "width"] 3 fs_goes) (d_fewest : Dfn P w K mg base CX0 "fewest" ["wishes", "gap", "width"] 2 fs_fewest) (d__law_fewest : Dfn P w K mg base CX0 "_law_fewest" ["_law_wishes", "_law_gap", "_law_width_here"] 2 fs_fewest) (d__law_goes : Dfn P w K mg base CX0 "_law_goes" ["_law_wishes", "_law_gap", "_law_width_here"] 1 fs_goes)
    (F : Fun K "law" "law" s_law f fd) : AtCaller P w K mg base f fd ["_law_script"] (spD K fs_law) := by
  refine fnAt (k := 3) F sc_law ⟨rfl, by decide, by decide⟩ (fun ds R Ex ⟨ns, h, _⟩ => by rw [h]; rfl) fun cdv s H E hr => ⟨_, (pss_cons (ps_set (i := 1) sc_law.nd rfl (by first | exact .inl rfl | exact .inr rfl) (pe_dK d__law_mixed (hr.mono (by decide)) (pa_cons (pv 0) (pa_cons pe_int (pa_cons pe_int pa_nil)))))
      (pss_cons (ps_set (i := 3) sc_law.nd rfl (by first | exact .inl rfl | exact .inr rfl) (pe_lc (own := [("_law_cell", 2)]) rfl sc_law.nd (pi_listK (K := K) (pe_slice (sl_K (K := K)) (pv 0) po_none (po_some pe_int))) (blkOk_by (N := NM_law) (sc := defScope s_law) (by decide +kernel)) (fun _ _ _ _ _ => (pg_name (i := 2) sc_law.nd rfl (by first | exact .inl rfl | exact .inr rfl))) (fun _ _ _ _ _ => pts_nil) (fun _ _ _ _ _ => (pe_ix (ix_K (K := K)) (pe_lst (pa_cons (pe_op op_mod (pv 2) pe_int) (pa_cons (pe_op op_mod (pv 2) pe_int) (pa_cons pe_int pa_nil)))) (pe_op op_mod (pe_op op_fdivX (pv 2) pe_int) pe_int) (fun _ _ => rfl)))))
      (pss_cons (ps_set (i := 4) sc_law.nd rfl (by first | exact .inl rfl | exact .inr rfl) (pe_ix (ix_K (K := K)) (pe_lst (pa_cons pe_int (pa_cons (pe_op op_mod (pe_ix (ix_K (K := K)) (pv 1) pe_int (fun _ _ => rfl)) pe_int) (pa_cons pe_int pa_nil)))) (pe_op op_mod (pe_op op_fdivX (pe_ix (ix_K (K := K)) (pv 1) pe_int (fun _ _ => rfl)) pe_int) pe_int) (fun _ _ => rfl)))
      (pss_cons (ps_for PassesOwn.never rfl (pi_range1 (by rfl) B.bRange (pa_cons pe_int pa_nil)) (pg_name (i := 5) sc_law.nd rfl (by first | exact .inl rfl | exact .inr rfl))
      (pss_cons (ps_set (i := 6) sc_law.nd rfl (by first | exact .inl rfl | exact .inr rfl) (pe_dK d__law_width hr (pa_cons (pv 3) (pa_cons (pv 4) (pa_cons (pe_ix (ix_K (K := K)) (pv 1) (pe_op op_addU pe_int (pv 5)) (fun _ _ => rfl)) pa_nil)))))
      (pss_cons (ps_set (i := 7) sc_law.nd rfl (by first | exact .inl rfl | exact .inr rfl) (pe_dK d__law_broken (hr.mono (by decide)) (pa_cons (pv 3) (pa_cons (pv 4) (pa_cons (pv 6) pa_nil)))))
      (pss_cons (ps_set (i := 8) sc_law.nd rfl (by first | exact .inl rfl | exact .inr rfl) (pe_dK d_broken (hr.mono (by decide)) (pa_cons (pv 3) (pa_cons (pv 4) (pa_cons (pv 6) pa_nil)))))
      (pss_cons (ps_if (PW.pt (pw_or (pt_not (pt_truK (K := K) (pe_callB (call_isiK (K := K)) (by rfl) B.bIsi (by decide +kernel) (pa_cons (pv 8) (pa_cons (pe_bltn (v := .ty "list") rfl B.bList (by decide +kernel) rfl) pa_nil))))) (pw_or (pt_cmpR (op_neK (K := K) hr) (pv 8) (pv 7) (nomark _)) (pw_or1 (pt_cmpR op_isnot_bl (pe_dK d_goes_into hr (pa_cons (pe_lst pa_nil) (pa_cons (pv 4) (pa_cons (pv 6) pa_nil)))) pe_bl (nomark _)))))) (pss_one (ps_ret pe_bl)) pss_nil)
      (pss_cons (ps_if (pt_cmpR (op_neK (K := K) hr) (pe_dK d_fewest (hr.mono (by decide)) (pa_cons (pv 3) (pa_cons (pv 4) (pa_cons (pv 6) pa_nil)))) (pe_dK d__law_fewest (hr.mono (by decide)) (pa_cons (pv 3) (pa_cons (pv 4) (pa_cons (pv 6) pa_nil)))) (nomark _)) (pss_one (ps_ret pe_bl)) pss_nil)
      (pss_cons (ps_if (PW.pt (pw_or (pt_truK (K := K) (pe_callB (call_isiK (K := K)) (by rfl) B.bIsi (by decide +kernel) (pa_cons (pe_dK d_fewest (hr.mono (by decide)) (pa_cons (pv 3) (pa_cons (pv 4) (pa_cons (pv 6) pa_nil)))) (pa_cons (pe_bltn (v := .ty "bool") rfl B.bBool (by decide +kernel) rfl) pa_nil)))) (pw_or1 (pt_cmpR (op_neK (K := K) hr) (pe_dK d_fewest (hr.mono (by decide)) (pa_cons (pv 3) (pa_cons (pv 4) (pa_cons (pv 6) pa_nil)))) (pe_callB (call_lenK (K := K)) (by rfl) B.bLen (by decide +kernel) (pa_cons (pv 7) pa_nil)) (nomark _))))) (pss_one (ps_ret pe_bl)) pss_nil)
      (pss_cons (ps_for PassesOwn.never rfl (pi_listK (K := K) (pv 7)) (pg_name (i := 9) sc_law.nd rfl (by first | exact .inl rfl | exact .inr rfl))
      (pss_cons (ps_setLc (i := 11) (own := [("_law_one", 10)]) rfl sc_law.nd rfl rfl (sw_true rfl rfl rfl (by decide +kernel)) (pi_listK (K := K) (pv 9)) (blkOk_by (N := NM_law) (sc := defScope s_law) (by decide +kernel)) (fun _ _ _ _ _ => (pg_name (i := 10) sc_law.nd rfl (by first | exact .inl rfl | exact .inr rfl))) (fun _ _ _ _ _ => pts_nil) (fun _ _ _ _ _ => (pe_ix (ix_K (K := K)) (pv 3) (pv 10) (fun _ _ => rfl))))
      (pss_cons (ps_set (i := 12) sc_law.nd rfl (by first | exact .inl rfl | exact .inr rfl) (pe_lst (pa_cons (pe_dK d_goes_into hr (pa_cons (pv 11) (pa_cons (pv 4) (pa_cons (pv 6) pa_nil)))) (pa_cons (pe_dK d_goes_into hr (pa_cons (pe_op op_addU (pv 11) (pe_lst (pa_cons (pe_ix (ix_K (K := K)) (pv 3) pe_int (fun _ _ => rfl)) pa_nil))) (pa_cons (pv 4) (pa_cons (pv 6) pa_nil)))) pa_nil))))
      (pss_cons (ps_set (i := 13) sc_law.nd rfl (by first | exact .inl rfl | exact .inr rfl) (pe_lst (pa_cons (pe_dK d__law_goes (hr.mono (by decide)) (pa_cons (pv 11) (pa_cons (pv 4) (pa_cons (pv 6) pa_nil)))) (pa_cons (pe_dK d__law_goes (hr.mono (by decide)) (pa_cons (pe_op op_addU (pv 11) (pe_lst (pa_cons (pe_ix (ix_K (K := K)) (pv 3) pe_int (fun _ _ => rfl)) pa_nil))) (pa_cons (pv 4) (pa_cons (pv 6) pa_nil)))) pa_nil))))
      (pss_one (ps_if (pt_cmpR (op_neK (K := K) hr) (pe_callB (call_repr (K := K) hr) (by rfl) B.bRepr (by decide +kernel) (pa_cons (pv 12) pa_nil)) (pe_callB (call_repr (K := K) hr) (by rfl) B.bRepr (by decide +kernel) (pa_cons (pv 13) pa_nil)) (nomark _)) (pss_one (ps_ret pe_bl)) pss_nil))))))
      (pss_cons (ps_expr (pe_bm PySem.F.plainAttrs_list PySem.F.slot_list_append PySem.F.type_list_append mt_append (pv 8) (pa_cons (pe_lst pa_nil) pa_nil)))
      (pss_one (ps_if (pt_cmpR (op_neK (K := K) hr) (pe_dK d_broken (hr.mono (by decide)) (pa_cons (pv 3) (pa_cons (pv 4) (pa_cons (pv 6) pa_nil)))) (pv 7) (nomark _)) (pss_one (ps_ret pe_bl)) pss_nil)))))))))))
      (pss_one (ps_ret pe_bl)))))), fun ds R Ex ⟨ns, hd, hn, h⟩ => ?_⟩
  subst hd
  (try dsimp only [cxOf, Cx.nox, Cx.wish]); change tS K _ _ _ [.val (.fz (ns.map D.int)), .emp, .emp, .emp, .emp, .emp, .emp, .emp, .emp, .emp, .emp, .emp, .emp, .emp] _
  repeat walk_at "y"
  refine e_call (fun _ => .nil) ?_
  repeat walk_at "y"
  refine ⟨ns, 0, 5, rfl, hn, by decide, by decide, fun rows hl hx => ?_⟩
  repeat walk_at "y"
  have h0 : 0 < rows.length := by omega
  have a0 : atI (rows.map D.int) 0 = some (.int rows[0]) := atI_nat (j := 0) (by rw [List.getElem?_map, List.getElem?_eq_getElem h0]; rfl)
  have p0 := hx rows[0] (List.getElem_mem _)
  generalize rows[0] = c0 at a0 p0
  refine e_lc (ic_list ?_)
  repeat walk_at "y"
  refine sl_eqF (cut_take (c := 59)) ?_
  repeat walk_at "y"
  have tl : (ns.take 59).length ≤ 59 := by
    rw [List.length_take]
    omega
  refine ⟨small_len' (by rw [List.length_map]; omega), fun i outs => ∃ ws : List Int, outs = ws.map D.int ∧ ws.length = i ∧ ∀ x ∈ ws, 0 ≤ x ∧ x ≤ 1000, ⟨[], rfl, rfl, fun x hx => by (cases hx)⟩, fun i d outs hd ho => ?_, fun outs ho _ => ?_⟩
  · obtain ⟨ws, rfl, hl, ho⟩ := ho
    rw [List.getElem?_map] at hd
    obtain ⟨c, rfl⟩ : ∃ c : Int, D.int c = d := by
      cases e : (ns.take 59)[i]? with
      | none =>
        rw [e] at hd
        cases hd
      | some p =>
        rw [e] at hd
        exact ⟨p, Option.some.inj hd⟩
    repeat walk_at "y"
    refine t_yes ⟨fun _ => ?_, fun z => Bool.noConfusion z⟩
    repeat walk_at "y"
    have y0 := Int.emod_nonneg (c.fdiv 101) (show (3 : Int) ≠ 0 by decide)
    have y1 := Int.emod_lt_of_pos (c.fdiv 101) (show (0 : Int) < 3 by decide)
    have u0 := Int.emod_nonneg c (show (13 : Int) ≠ 0 by decide)
    have u1 := Int.emod_lt_of_pos c (show (0 : Int) < 13 by decide)
    have v0 := Int.emod_nonneg c (show (101 : Int) ≠ 0 by decide)
    have v1 := Int.emod_lt_of_pos c (show (0 : Int) < 101 by decide)
    obtain ⟨d, hm, hx⟩ := ixd_any (ds := [.int (c % 13), .int (c % 101), .int 40]) y0 y1
    obtain ⟨u, rfl, pu⟩ : ∃ u : Int, d = .int u ∧ 0 ≤ u ∧ u ≤ 1000 := by
      simp only [List.mem_cons, List.not_mem_nil, or_false] at hm
      rcases hm with rfl | rfl | rfl
      · exact ⟨_, rfl, by omega, by omega⟩
      · exact ⟨_, rfl, by omega, by omega⟩
      · exact ⟨_, rfl, by omega, by omega⟩
    refine ⟨_, _, rfl, hx, ?_⟩
    refine ⟨ws ++ [u], by rw [List.map_append]; rfl, by rw [List.length_append, hl]; rfl, fun x hx => ?_⟩
    rcases List.mem_append.mp hx with hx | hx
    · exact ho x hx
    · rw [List.mem_singleton.mp hx]
      exact pu
  · obtain ⟨ws, rfl, hl2, ho⟩ := ho
    rw [List.length_map] at hl2
    have h59 : ws.length ≤ 59 := by omega
    repeat ((fail_if_success (with_reducible show tS _ _ _ _ _ _)); walk_at "y")
    dsimp only
    refine s_freezeS (i := 1) rfl (by repeat constructor) ?_
    refine s_freezeS (i := 3) rfl (by repeat constructor) ?_
    repeat walk_at "y"
    refine ⟨_, _, rfl, a0, ?_⟩
    repeat walk_at "y"
    refine ⟨_, _, rfl, a0, ?_⟩
    repeat walk_at "y"
    have y0 := Int.emod_nonneg (c0.fdiv 31) (show (3 : Int) ≠ 0 by decide)
    have y1 := Int.emod_lt_of_pos (c0.fdiv 31) (show (0 : Int) < 3 by decide)
    have u0 := Int.emod_nonneg c0 (show (31 : Int) ≠ 0 by decide)
    have u1 := Int.emod_lt_of_pos c0 (show (0 : Int) < 31 by decide)
    obtain ⟨d, hm, hxg⟩ := ixd_any (ds := [.int 0, .int (c0 % 31), .int 1]) y0 y1
    obtain ⟨g, rfl, g0, g1⟩ : ∃ u : Int, d = .int u ∧ 0 ≤ u ∧ u ≤ 1000 := by
      simp only [List.mem_cons, List.not_mem_nil, or_false] at hm
      rcases hm with rfl | rfl | rfl
      · exact ⟨_, rfl, by omega, by omega⟩
      · exact ⟨_, rfl, by omega, by omega⟩
      · exact ⟨_, rfl, by omega, by omega⟩
    refine ⟨_, _, rfl, hxg, ?_⟩
    have hw : WsOk ws g := ⟨by omega, ho, g0, g1⟩
    repeat walk_at "y"
    refine s_for (i_range1 ?_)
    repeat walk_at "y"
    refine ⟨by decide, by decide, ?_⟩
    refine ⟨fun i ρ => ∃ (s2 s5 s6 s7 s8 s9 s10 s11 s12 s13 : Slot), ρ = [.val (.fz (ns.map D.int)), .val (.lst (rows.map D.int)), s2, .val (.lst (ws.map D.int)), .val (.int g), s5, s6, s7, s8, s9, s10, s11, s12, s13], ⟨_, _, _, _, _, _, _, _, _, _, rfl⟩, ?_, ?_⟩
    · rintro i d ρ' hd ⟨s2, s5, s6, s7, s8, s9, s10, s11, s12, s13, rfl⟩
      obtain ⟨hi, rfl⟩ := rangeD_get hd
      have hi : i < 4 := hi
      rw [Int.zero_add]
      have hj : i + 1 < rows.length := by omega
      have ai : atI (rows.map D.int) (1 + (i : Int)) = some (.int rows[i + 1]) := by
        rw [Int.add_comm]
        exact atI_nat (j := i + 1) (by rw [List.getElem?_map, List.getElem?_eq_getElem hj]; rfl)
      have pi := hx rows[i + 1] (List.getElem_mem _)
      generalize rows[i + 1] = c1 at ai pi
      repeat walk_at "y"
      refine e_call (fun _ => .nil) ?_
      repeat walk_at "y"
      refine ⟨_, _, rfl, ai, ?_⟩
      repeat walk_at "y"
      refine ⟨ws, g, c1, rfl, hw, h59, pi, fun wd hwd => ?_⟩
      repeat walk_at "y"
      refine e_call (fun _ => .nil) ?_
      repeat walk_at "y"
      refine ⟨ws, g, wd, rfl, hw, h59, hwd, ?_⟩
      obtain ⟨L, eL⟩ : ∃ L, L = brk ws g wd := ⟨_, rfl⟩
      have hL := brk_lt ws g wd
      rw [← eL] at hL ⊢
      repeat walk_at "y"
      refine e_call (fun _ => .nil) ?_
      repeat walk_at "y"
      refine ⟨ws, g, wd, rfl, hw, h59, hwd, ?_⟩
      rw [← eL]
      repeat walk_at "y"
      refine ⟨rfl, ?_⟩
      repeat walk_at "y"
      refine ⟨true, cmp_ln L, ?_⟩
      repeat walk_at "y"
      refine e_call (fun _ => .nil) ?_
      repeat walk_at "y"
      have g1 : goesB [] g wd = true := by
        unfold goesB
        refine decide_eq_true ?_
        have e : usedI [] g = 0 := by
          unfold usedI
          show (0 : Int) + g * 0 = 0
          omega
        rw [e]
        have := hwd.n
        omega
      refine ⟨[], g, wd, rfl, ⟨by decide, fun x hx => by (cases hx), hw.g0, hw.g1⟩, hwd, ?_⟩
      rw [g1]
      repeat walk_at "y"
      refine e_call (fun _ => .nil) ?_
      repeat walk_at "y"
      refine ⟨ws, g, wd, rfl, hw, h59, hwd, ?_⟩
      refine e_call (fun _ => .nil) ?_
      repeat walk_at "y"
      refine ⟨ws, g, wd, rfl, hw, h59, hwd, ?_⟩
      rw [← eL]
      repeat walk_at "y"
      refine br2n (fun z => absurd rfl z) fun _ => ?_
      repeat walk_at "y"
      refine e_call (fun _ => .nil) ?_
      repeat walk_at "y"
      refine ⟨ws, g, wd, rfl, hw, h59, hwd, ?_⟩
      rw [← eL]
      repeat walk_at "y"
      refine ⟨rfl, ?_⟩
      refine ⟨false, rfl, brA' rfl ?_⟩
      repeat walk_at "y"
      refine e_call (fun _ => .nil) ?_
      repeat walk_at "y"
      refine ⟨ws, g, wd, rfl, hw, h59, hwd, ?_⟩
      rw [← eL]
      repeat walk_at "y"
      rw [List.length_map]
      refine br2n (fun z => absurd rfl z) fun _ => ?_
      refine s_next ?_
      dsimp only
      refine s_freezeS (i := 7) rfl (by repeat constructor) ?_
      refine s_seq (s_for (i_list ?_))
      repeat walk_at "y"
      refine ⟨fun m ρ => ∃ (s9 s10 s11 s12 s13 : Slot), ρ = [.val (.fz (ns.map D.int)), .val (.lst (rows.map D.int)), s2, .val (.lst (ws.map D.int)), .val (.int g), .val (.int (i : Int)), .val (toQ wd), .val (.lst (L.map lnD)), .own (L.map lnD), s9, s10, s11, s12, s13], ⟨_, _, _, _, _, rfl⟩, ?_, ?_⟩
      · rintro m d ρ' hd ⟨s9, s10, s11, s12, s13, rfl⟩
        obtain ⟨l, lm, rfl⟩ := List.mem_map.mp (List.mem_of_getElem? hd)
        obtain ⟨l0, l1, l2⟩ := hL.2 l lm
        have wok : WsOk (l.map (wi ws)) g := ws_map hw (by omega) l2
        have wl : 0 < ws.length := by
          cases l with
          | nil => exact absurd rfl l0
          | cons a r =>
            have := l2 a List.mem_cons_self
            omega
        have wok2 : WsOk (l.map (wi ws) ++ [wi ws 0]) g := ⟨by rw [List.length_append, List.length_map, List.length_singleton]; omega, fun x hx => by
          rcases List.mem_append.mp hx with hx | hx
          · exact wok.it x hx
          · rw [List.mem_singleton.mp hx]
            exact hw.it _ (wi_mem wl), hw.g0, hw.g1⟩
        have em : (l.map (wi ws)).map D.int ++ [D.int (wi ws 0)] = (l.map (wi ws) ++ [wi ws 0]).map D.int := by
          rw [List.map_append]
          rfl
        rw [show lnD l = .lst (l.map natD) from rfl]
        repeat walk_at "y"
        refine e_lcM (fun d : D => match d with | .int k => .int (wi ws k.toNat) | d => d) (ic_list ?_)
        repeat walk_at "y"
        refine ⟨small_len' (by rw [List.length_map]; omega), fun d hd => ?_, ?_⟩
        · obtain ⟨k, hm, rfl⟩ := List.mem_map.mp hd
          rw [show natD k = .int (k : Int) from rfl]
          repeat walk_at "y"
          exact ⟨_, _, rfl, at_wi (l2 k hm), rfl⟩
        have e : (l.map natD).map (fun d : D => match d with | .int k => .int (wi ws k.toNat) | d => d) = (l.map (wi ws)).map D.int := by
          rw [List.map_map, List.map_map]
          rfl
        rw [e]
        repeat ((fail_if_success (with_reducible show tS _ _ _ _ _ _)); walk_at "y")
        dsimp only
        refine s_freezeS (i := 11) rfl (by repeat constructor) ?_
        repeat walk_at "y"
        refine e_call (fun _ => .nil) ?_
        repeat walk_at "y"
        obtain ⟨b1, eb1⟩ : ∃ b, goesB (l.map (wi ws)) g wd = b := ⟨_, rfl⟩
        obtain ⟨b2, eb2⟩ : ∃ b, goesB (l.map (wi ws) ++ [wi ws 0]) g wd = b := ⟨_, rfl⟩
        refine ⟨_, g, wd, rfl, wok, hwd, ?_⟩
        rw [eb1]
        repeat walk_at "y"
        refine e_call (fun _ => .nil) ?_
        repeat walk_at "y"
        refine ⟨_, _, rfl, at_wi (k := 0) wl, ?_⟩
        repeat walk_at "y"
        refine add_lst (small_len' (by rw [List.length_map, List.length_map, List.length_singleton]; omega)) ?_
        rw [em]
        repeat walk_at "y"
        refine ⟨_, g, wd, rfl, wok2, hwd, ?_⟩
        rw [eb2]
        repeat ((fail_if_success (with_reducible show tS _ _ _ _ _ _)); walk_at "y")
        dsimp only
        refine s_freezeS (i := 12) rfl (by repeat constructor) ?_
        repeat walk_at "y"
        refine e_call (fun _ => .nil) ?_
        repeat walk_at "y"
        refine ⟨_, g, wd, rfl, wok, hwd, ?_⟩
        rw [eb1]
        repeat walk_at "y"
        refine e_call (fun _ => .nil) ?_
        repeat walk_at "y"
        refine ⟨_, _, rfl, at_wi (k := 0) wl, ?_⟩
        repeat walk_at "y"
        refine add_lst (small_len' (by rw [List.length_map, List.length_map, List.length_singleton]; omega)) ?_
        rw [em]
        repeat walk_at "y"
        refine ⟨_, g, wd, rfl, wok2, hwd, ?_⟩
        rw [eb2]
        repeat ((fail_if_success (with_reducible show tS _ _ _ _ _ _)); walk_at "y")
        dsimp only
        refine s_freezeS (i := 13) rfl (by repeat constructor) ?_
        repeat walk_at "y"
        refine ⟨show_two b1 b2, ?_⟩
        repeat walk_at "y"
        refine ⟨show_two b1 b2, ?_⟩
        repeat walk_at "y"
        refine br2n (fun z => absurd rfl z) fun _ => ?_
        repeat walk_at "y"
        exact ⟨_, _, _, _, _, rfl⟩
      · rintro ρ' ⟨s9, s10, s11, s12, s13, rfl⟩
        repeat walk_at "y"
        refine ⟨small_lt (by rw [List.length_map]; omega), ?_⟩
        repeat walk_at "y"
        refine e_call (fun _ => .nil) ?_
        repeat walk_at "y"
        refine ⟨ws, g, wd, rfl, hw, h59, hwd, ?_⟩
        rw [← eL]
        repeat walk_at "y"
        refine ⟨true, cmp_ln L, ?_⟩
        repeat walk_at "y"
        exact ⟨_, _, _, _, _, _, _, _, _, _, rfl⟩
    · rintro ρ' ⟨s2, s5, s6, s7, s8, s9, s10, s11, s12, s13, rfl⟩
      repeat walk_at "y"
      exact h
end
end K31
end

section
set_option maxHeartbeats 4000000
namespace K31
open PySem PySem.Spec PyProof.Rows L2 Y Sh Br
section
variable {K : PySem.W.Frag}
theorem kit_same {C : Addr} : PySem.W.kitOne K (.ref C) (.ref C) = some true := by
  unfold PySem.W.kitOne
  rw [if_pos (beq_self_eq_true _)]
theorem kit_no {C D : Addr} (h1 : (C == D) = false) (h2 : PySem.W.isClsIn K D = true) (h3 : PySem.W.typeIn K (.ref D) = some (.type "type")) (h4 : PySem.W.subIn K (.ref C) (.ref D) = some false) : PySem.W.kitOne K (.ref C) (.ref D) = some false := by
  have h5 : ¬ (Value.ref C == Value.ref D) = true := by
    intro z
    have z2 : C = D := Value.ref.inj (beq_iff_eq.mp z)
    rw [z2, beq_self_eq_true] at h1
    cases h1
  unfold PySem.W.kitOne
  rw [if_neg h5]
  unfold PySem.W.kitCls
  have h6 : ((PySem.W.clsIn K D).isSome && PySem.W.typeIn K (.ref D) == some (.type "type")) = true := by
    rw [h3]
    unfold PySem.W.isClsIn at h2
    rw [h2]
    rfl
  show (if ((PySem.W.clsIn K D).isSome && PySem.W.typeIn K (.ref D) == some (.type "type")) = true then PySem.W.subIn K (.ref C) (.ref D) else none) = _
  rw [if_pos h6, h4]
theorem kit_ve {C : Addr} (h : PySem.W.subIn K (.ref C) (.type "ValueError") = some true) : PySem.W.kitOne K (.ref C) (.type "ValueError") = some true := by
  unfold PySem.W.kitOne
  rw [if_neg (show ¬ (Value.ref C == Value.type "ValueError") = true from fun z => by cases beq_iff_eq.mp z)]
  show (if PySem.W.kitMeta "ValueError" = true then PySem.W.subIn K (.ref C) (.type "ValueError") else none) = _
  rw [if_pos (by decide +kernel), h]
theorem rps_ints {G : Hp} : ∀ ns : List Int, Rps K G (ns.map V.int) (ns.map D.int)
  | [] => .nil
  | n :: ns => .cons (.int n) (rps_ints ns)
theorem law_sp {H : Hp} {a : Addr} {ns : List Int} (hl : ns.length ≤ 63) (hS : SqL K H a (ns.map V.int)) : spD K fs_law [.ref a] H (fun v _ => v = .bl true) fun _ _ _ => False :=
  ⟨H, [.fz (ns.map D.int)], fun r => r = .val (.bl true), fun _ => False, Same.refl H, .cons (.fz hS (rps_ints ns)) .nil, ⟨ns, rfl, hl, rfl⟩, fun r hr v G' H' e k => by
    subst hr
    cases (show Rp K G' v (.bl true) from k)
    rfl, fun c hc => hc.elim⟩
end
theorem all_mk {l : PySem.W.OpenLaw} {w : World} {K : PySem.W.Frag} {h : Heap} {mg : Str → Option Value} {fa : Addr} (X : K.In h) (G : h.Ns mainGlobals mg) (hfa : mg "law" = some (.ref fa))
    {C_WideError : Addr} {C_NoPart : Addr} {oc_is_whole : Value} {kV_is_whole : Value} {doc_is_whole : Value} {pm_is_whole : Value} {cd_is_whole : Value} {ct_is_whole : Value} {od_is_whole : Option Addr} {an_is_whole : Option Addr} {sl_is_whole : Array (Option Value)} {f_is_whole : Addr} {oc_reduced : Value} {kV_reduced : Value} {doc_reduced : Value} {pm_reduced : Value} {cd_reduced : Value} {ct_reduced : Value} {od_reduced : Option Addr} {an_reduced : Option Addr} {sl_reduced : Array (Option Value)} {f_reduced : Addr} {oc_part_of : Value} {kV_part_of : Value} {doc_part_of : Value} {pm_part_of : Value} {cd_part_of : Value} {ct_part_of : Value} {od_part_of : Option Addr} {an_part_of : Option Addr} {sl_part_of : Array (Option Value)} {f_part_of : Addr} {T_part_of : Addr} {o1_part_of : Value} {o2_part_of : Option Addr} {tn_part_of : Nat} {o3_part_of : Array (Option Value)} {it_part_of : Array Value} {oc_is_more : Value} {kV_is_more : Value} {doc_is_more : Value} {pm_is_more : Value} {cd_is_more : Value} {ct_is_more : Value} {od_is_more : Option Addr} {an_is_more : Option Addr} {sl_is_more : Array (Option Value)} {f_is_more : Addr} {oc_line_pairs : Value} {kV_line_pairs : Value} {doc_line_pairs : Value} {pm_line_pairs : Value} {cd_line_pairs : Value} {ct_line_pairs : Value} {od_line_pairs : Option Addr} {an_line_pairs : Option Addr} {sl_line_pairs : Array (Option Value)} {f_line_pairs : Addr} {oc_broken : Value} {kV_broken : Value} {doc_broken : Value} {pm_broken : Value} {cd_broken : Value} {ct_broken : Value} {od_broken : Option Addr} {an_broken : Option Addr} {sl_broken : Array (Option Value)} {f_broken : Addr} {oc_fewest : Value} {kV_fewest : Value} {doc_fewest : Value} {pm_fewest : Value} {cd_fewest : Value} {ct_fewest : Value} {od_fewest : Option Addr} {an_fewest : Option Addr} {sl_fewest : Array (Option Value)} {f_fewest : Addr} {oc__taken : Value} {kV__taken : Value} {doc__taken : Value} {pm__taken : Value} {cd__taken : Value} {ct__taken : Value} {od__taken : Option Addr} {an__taken : Option Addr} {sl__taken : Array (Option Value)} {f__taken : Addr} {oc_goes_into : Value} {kV_goes_into : Value} {doc_goes_into : Value} {pm_goes_into : Value} {cd_goes_into : Value} {ct_goes_into : Value} {od_goes_into : Option Addr} {an_goes_into : Option Addr} {sl_goes_into : Array (Option Value)} {f_goes_into : Addr} {oc__law_cell_at : Value} {kV__law_cell_at : Value} {doc__law_cell_at : Value} {pm__law_cell_at : Value} {cd__law_cell_at : Value} {ct__law_cell_at : Value} {od__law_cell_at : Option Addr} {an__law_cell_at : Option Addr} {sl__law_cell_at : Array (Option Value)} {f__law_cell_at : Addr} {oc__law_mixed : Value} {kV__law_mixed : Value} {doc__law_mixed : Value} {pm__law_mixed : Value} {cd__law_mixed : Value} {ct__law_mixed : Value} {od__law_mixed : Option Addr} {an__law_mixed : Option Addr} {sl__law_mixed : Array (Option Value)} {f__law_mixed : Addr} {oc__law_part : Value} {kV__law_part : Value} {doc__law_part : Value} {pm__law_part : Value} {cd__law_part : Value} {ct__law_part : Value} {od__law_part : Option Addr} {an__law_part : Option Addr} {sl__law_part : Array (Option Value)} {f__law_part : Addr} {oc__law_sum : Value} {kV__law_sum : Value} {doc__law_sum : Value} {pm__law_sum : Value} {cd__law_sum : Value} {ct__law_sum : Value} {od__law_sum : Option Addr} {an__law_sum : Option Addr} {sl__law_sum : Array (Option Value)} {f__law_sum : Addr} {oc__law_goes : Value} {kV__law_goes : Value} {doc__law_goes : Value} {pm__law_goes : Value} {cd__law_goes : Value} {ct__law_goes : Value} {od__law_goes : Option Addr} {an__law_goes : Option Addr} {sl__law_goes : Array (Option Value)} {f__law_goes : Addr} {oc__law_broken : Value} {kV__law_broken : Value} {doc__law_broken : Value} {pm__law_broken : Value} {cd__law_broken : Value} {ct__law_broken : Value} {od__law_broken : Option Addr} {an__law_broken : Option Addr} {sl__law_broken : Array (Option Value)} {f__law_broken : Addr} {oc__law_fewest : Value} {kV__law_fewest : Value} {doc__law_fewest : Value} {pm__law_fewest : Value} {cd__law_fewest : Value} {ct__law_fewest : Value} {od__law_fewest : Option Addr} {an__law_fewest : Option Addr} {sl__law_fewest : Array (Option Value)} {f__law_fewest : Addr} {oc__law_width : Value} {kV__law_width : Value} {doc__law_width : Value} {pm__law_width : Value} {cd__law_width : Value} {ct__law_width : Value} {od__law_width : Option Addr} {an__law_width : Option Addr} {sl__law_width : Array (Option Value)} {f__law_width : Addr} {oc_law : Value} {kV_law : Value} {doc_law : Value} {pm_law : Value} {cd_law : Value} {ct_law : Value} {od_law : Option Addr} {an_law : Option Addr} {sl_law : Array (Option Value)} {f_law : Addr}
    (z_len : PySem.W.nsIn K mainGlobals "len" = some none)
    (z_isinstance : PySem.W.nsIn K mainGlobals "isinstance" = some none)
    (z_range : PySem.W.nsIn K mainGlobals "range" = some none)
    (z_int : PySem.W.nsIn K mainGlobals "int" = some none)
    (z_str : PySem.W.nsIn K mainGlobals "str" = some none)
    (z_list : PySem.W.nsIn K mainGlobals "list" = some none)
    (z_tuple : PySem.W.nsIn K mainGlobals "tuple" = some none)
    (z_bool : PySem.W.nsIn K mainGlobals "bool" = some none)
    (z_abs : PySem.W.nsIn K mainGlobals "abs" = some none)
    (z_max : PySem.W.nsIn K mainGlobals "max" = some none)
    (z_min : PySem.W.nsIn K mainGlobals "min" = some none)
    (z_all : PySem.W.nsIn K mainGlobals "all" = some none)
    (z_any : PySem.W.nsIn K mainGlobals "any" = some none)
    (z_enumerate : PySem.W.nsIn K mainGlobals "enumerate" = some none)
    (z_zip : PySem.W.nsIn K mainGlobals "zip" = some none)
    (z_repr : PySem.W.nsIn K mainGlobals "repr" = some none)
    (z_sum : PySem.W.nsIn K mainGlobals "sum" = some none)
    (z_sorted : PySem.W.nsIn K mainGlobals "sorted" = some none)
    (z_ValueError : PySem.W.nsIn K mainGlobals "ValueError" = some none)
    (zgcd : PySem.W.nsIn K mainGlobals "gcd" = some (some (.builtin "math.gcd")))
    (g_WideError : PySem.W.nsIn K mainGlobals "WideError" = some (some (.ref C_WideError)))
    (g_NoPart : PySem.W.nsIn K mainGlobals "NoPart" = some (some (.ref C_NoPart)))
    (a_is_whole : PySem.W.nsIn K mainGlobals "is_whole" = some (some (.ref f_is_whole)))
    (l_is_whole : K.lookup f_is_whole = some ⟨oc_is_whole, od_is_whole, .func (PySem.W.fnOf "is_whole" "is_whole" (defArgs s_is_whole) (defBody s_is_whole) (defScope s_is_whole) .none kV_is_whole doc_is_whole pm_is_whole an_is_whole cd_is_whole ct_is_whole), sl_is_whole⟩)
    (c_is_whole : PySem.W.codeIn K cd_is_whole "is_whole" = true)
    (k_is_whole : PySem.W.keepIn K (.ref f_is_whole) = true)
    (a_reduced : PySem.W.nsIn K mainGlobals "reduced" = some (some (.ref f_reduced)))
    (l_reduced : K.lookup f_reduced = some ⟨oc_reduced, od_reduced, .func (PySem.W.fnOf "reduced" "reduced" (defArgs s_reduced) (defBody s_reduced) (defScope s_reduced) .none kV_reduced doc_reduced pm_reduced an_reduced cd_reduced ct_reduced), sl_reduced⟩)
    (c_reduced : PySem.W.codeIn K cd_reduced "reduced" = true)
    (k_reduced : PySem.W.keepIn K (.ref f_reduced) = true)
    (a_part_of : PySem.W.nsIn K mainGlobals "part_of" = some (some (.ref f_part_of)))
    (l_part_of : K.lookup f_part_of = some ⟨oc_part_of, od_part_of, .func (PySem.W.fnOf "part_of" "part_of" (defArgs s_part_of) (defBody s_part_of) (defScope s_part_of) (.ref T_part_of) kV_part_of doc_part_of pm_part_of an_part_of cd_part_of ct_part_of), sl_part_of⟩)
    (c_part_of : PySem.W.codeIn K cd_part_of "part_of" = true)
    (k_part_of : PySem.W.keepIn K (.ref f_part_of) = true)
    (lt_part_of : K.lookup T_part_of = some ⟨o1_part_of, o2_part_of, .seq it_part_of tn_part_of, o3_part_of⟩)
    (iv_part_of : ∃ its : List Value, it_part_of = its.toArray ∧ Vals [.int 1] its)
    (a_is_more : PySem.W.nsIn K mainGlobals "is_more" = some (some (.ref f_is_more)))
    (l_is_more : K.lookup f_is_more = some ⟨oc_is_more, od_is_more, .func (PySem.W.fnOf "is_more" "is_more" (defArgs s_is_more) (defBody s_is_more) (defScope s_is_more) .none kV_is_more doc_is_more pm_is_more an_is_more cd_is_more ct_is_more), sl_is_more⟩)
    (c_is_more : PySem.W.codeIn K cd_is_more "is_more" = true)
    (k_is_more : PySem.W.keepIn K (.ref f_is_more) = true)
    (a_line_pairs : PySem.W.nsIn K mainGlobals "line_pairs" = some (some (.ref f_line_pairs)))
    (l_line_pairs : K.lookup f_line_pairs = some ⟨oc_line_pairs, od_line_pairs, .func (PySem.W.fnOf "line_pairs" "line_pairs" (defArgs s_line_pairs) (defBody s_line_pairs) (defScope s_line_pairs) .none kV_line_pairs doc_line_pairs pm_line_pairs an_line_pairs cd_line_pairs ct_line_pairs), sl_line_pairs⟩)
    (c_line_pairs : PySem.W.codeIn K cd_line_pairs "line_pairs" = true)
    (k_line_pairs : PySem.W.keepIn K (.ref f_line_pairs) = true)
    (a_broken : PySem.W.nsIn K mainGlobals "broken" = some (some (.ref f_broken)))
    (l_broken : K.lookup f_broken = some ⟨oc_broken, od_broken, .func (PySem.W.fnOf "broken" "broken" (defArgs s_broken) (defBody s_broken) (defScope s_broken) .none kV_broken doc_broken pm_broken an_broken cd_broken ct_broken), sl_broken⟩)
    (c_broken : PySem.W.codeIn K cd_broken "broken" = true)
    (k_broken : PySem.W.keepIn K (.ref f_broken) = true)
    (a_fewest : PySem.W.nsIn K mainGlobals "fewest" = some (some (.ref f_fewest)))
    (l_fewest : K.lookup f_fewest = some ⟨oc_fewest, od_fewest, .func (PySem.W.fnOf "fewest" "fewest" (defArgs s_fewest) (defBody s_fewest) (defScope s_fewest) .none kV_fewest doc_fewest pm_fewest an_fewest cd_fewest ct_fewest), sl_fewest⟩)
    (c_fewest : PySem.W.codeIn K cd_fewest "fewest" = true)
    (k_fewest : PySem.W.keepIn K (.ref f_fewest) = true)
    (a__taken : PySem.W.nsIn K mainGlobals "_taken" = some (some (.ref f__taken)))
    (l__taken : K.lookup f__taken = some ⟨oc__taken, od__taken, .func (PySem.W.fnOf "_taken" "_taken" (defArgs s__taken) (defBody s__taken) (defScope s__taken) .none kV__taken doc__taken pm__taken an__taken cd__taken ct__taken), sl__taken⟩)
    (c__taken : PySem.W.codeIn K cd__taken "_taken" = true)
    (k__taken : PySem.W.keepIn K (.ref f__taken) = true)
    (a_goes_into : PySem.W.nsIn K mainGlobals "goes_into" = some (some (.ref f_goes_into)))
    (l_goes_into : K.lookup f_goes_into = some ⟨oc_goes_into, od_goes_into, .func (PySem.W.fnOf "goes_into" "goes_into" (defArgs s_goes_into) (defBody s_goes_into) (defScope s_goes_into) .none kV_goes_into doc_goes_into pm_goes_into an_goes_into cd_goes_into ct_goes_into), sl_goes_into⟩)
    (c_goes_into : PySem.W.codeIn K cd_goes_into "goes_into" = true)
    (k_goes_into : PySem.W.keepIn K (.ref f_goes_into) = true)
    (a__law_cell_at : PySem.W.nsIn K mainGlobals "_law_cell_at" = some (some (.ref f__law_cell_at)))
    (l__law_cell_at : K.lookup f__law_cell_at = some ⟨oc__law_cell_at, od__law_cell_at, .func (PySem.W.fnOf "_law_cell_at" "_law_cell_at" (defArgs s__law_cell_at) (defBody s__law_cell_at) (defScope s__law_cell_at) .none kV__law_cell_at doc__law_cell_at pm__law_cell_at an__law_cell_at cd__law_cell_at ct__law_cell_at), sl__law_cell_at⟩)
    (c__law_cell_at : PySem.W.codeIn K cd__law_cell_at "_law_cell_at" = true)
    (k__law_cell_at : PySem.W.keepIn K (.ref f__law_cell_at) = true)
    (a__law_mixed : PySem.W.nsIn K mainGlobals "_law_mixed" = some (some (.ref f__law_mixed)))
    (l__law_mixed : K.lookup f__law_mixed = some ⟨oc__law_mixed, od__law_mixed, .func (PySem.W.fnOf "_law_mixed" "_law_mixed" (defArgs s__law_mixed) (defBody s__law_mixed) (defScope s__law_mixed) .none kV__law_mixed doc__law_mixed pm__law_mixed an__law_mixed cd__law_mixed ct__law_mixed), sl__law_mixed⟩)
    (c__law_mixed : PySem.W.codeIn K cd__law_mixed "_law_mixed" = true)
    (k__law_mixed : PySem.W.keepIn K (.ref f__law_mixed) = true)
    (a__law_part : PySem.W.nsIn K mainGlobals "_law_part" = some (some (.ref f__law_part)))
    (l__law_part : K.lookup f__law_part = some ⟨oc__law_part, od__law_part, .func (PySem.W.fnOf "_law_part" "_law_part" (defArgs s__law_part) (defBody s__law_part) (defScope s__law_part) .none kV__law_part doc__law_part pm__law_part an__law_part cd__law_part ct__law_part), sl__law_part⟩)
    (c__law_part : PySem.W.codeIn K cd__law_part "_law_part" = true)
    (k__law_part : PySem.W.keepIn K (.ref f__law_part) = true)
    (a__law_sum : PySem.W.nsIn K mainGlobals "_law_sum" = some (some (.ref f__law_sum)))
    (l__law_sum : K.lookup f__law_sum = some ⟨oc__law_sum, od__law_sum, .func (PySem.W.fnOf "_law_sum" "_law_sum" (defArgs s__law_sum) (defBody s__law_sum) (defScope s__law_sum) .none kV__law_sum doc__law_sum pm__law_sum an__law_sum cd__law_sum ct__law_sum), sl__law_sum⟩)
    (c__law_sum : PySem.W.codeIn K cd__law_sum "_law_sum" = true)
    (k__law_sum : PySem.W.keepIn K (.ref f__law_sum) = true)
    (a__law_goes : PySem.W.nsIn K mainGlobals "_law_goes" = some (some (.ref f__law_goes)))
    (l__law_goes : K.lookup f__law_goes = some ⟨oc__law_goes, od__law_goes, .func (PySem.W.fnOf "_law_goes" "_law_goes" (defArgs s__law_goes) (defBody s__law_goes) (defScope s__law_goes) .none kV__law_goes doc__law_goes pm__law_goes an__law_goes cd__law_goes ct__law_goes), sl__law_goes⟩)
    (c__law_goes : PySem.W.codeIn K cd__law_goes "_law_goes" = true)
    (k__law_goes : PySem.W.keepIn K (.ref f__law_goes) = true)
    (a__law_broken : PySem.W.nsIn K mainGlobals "_law_broken" = some (some (.ref f__law_broken)))
    (l__law_broken : K.lookup f__law_broken = some ⟨oc__law_broken, od__law_broken, .func (PySem.W.fnOf "_law_broken" "_law_broken" (defArgs s__law_broken) (defBody s__law_broken) (defScope s__law_broken) .none kV__law_broken doc__law_broken pm__law_broken an__law_broken cd__law_broken ct__law_broken), sl__law_broken⟩)
    (c__law_broken : PySem.W.codeIn K cd__law_broken "_law_broken" = true)
    (k__law_broken : PySem.W.keepIn K (.ref f__law_broken) = true)
    (a__law_fewest : PySem.W.nsIn K mainGlobals "_law_fewest" = some (some (.ref f__law_fewest)))
    (l__law_fewest : K.lookup f__law_fewest = some ⟨oc__law_fewest, od__law_fewest, .func (PySem.W.fnOf "_law_fewest" "_law_fewest" (defArgs s__law_fewest) (defBody s__law_fewest) (defScope s__law_fewest) .none kV__law_fewest doc__law_fewest pm__law_fewest an__law_fewest cd__law_fewest ct__law_fewest), sl__law_fewest⟩)
    (c__law_fewest : PySem.W.codeIn K cd__law_fewest "_law_fewest" = true)
    (k__law_fewest : PySem.W.keepIn K (.ref f__law_fewest) = true)
    (a__law_width : PySem.W.nsIn K mainGlobals "_law_width" = some (some (.ref f__law_width)))
    (l__law_width : K.lookup f__law_width = some ⟨oc__law_width, od__law_width, .func (PySem.W.fnOf "_law_width" "_law_width" (defArgs s__law_width) (defBody s__law_width) (defScope s__law_width) .none kV__law_width doc__law_width pm__law_width an__law_width cd__law_width ct__law_width), sl__law_width⟩)
    (c__law_width : PySem.W.codeIn K cd__law_width "_law_width" = true)
    (k__law_width : PySem.W.keepIn K (.ref f__law_width) = true)
    (a_law : PySem.W.nsIn K mainGlobals "law" = some (some (.ref f_law)))
    (l_law : K.lookup f_law = some ⟨oc_law, od_law, .func (PySem.W.fnOf "law" "law" (defArgs s_law) (defBody s_law) (defScope s_law) .none kV_law doc_law pm_law an_law cd_law ct_law), sl_law⟩)
    (c_law : PySem.W.codeIn K cd_law "law" = true)
    (k_law : PySem.W.keepIn K (.ref f_law) = true)
    : ∃ fd : FuncData, (∀ (s : Shared) (v : Value), BindsTo s fd ⟨[v], []⟩ [("_law_script", v)]) ∧ ∀ base : Heap, K.In base → base.Ns mainGlobals mg → AtCaller l.prog w K mg base fa fd ["_law_script"] (spD K fs_law) := by
  have efa : f_law = fa := by
    have z := (PySem.W.mg_of X G a_law).symm.trans hfa
    injection z with z
    injection z
  subst efa
  refine ⟨PySem.W.fnOf "law" "law" (defArgs s_law) (defBody s_law) (defScope s_law) .none kV_law doc_law pm_law an_law cd_law ct_law, fun s v => BindsTo.of_looks fun M => .of_pure rfl, fun base KB GB => ?_⟩
  generalize hP : l.prog = P
  clear hP
  have B : Bl mg := ⟨PySem.W.mg_none_of X G z_len, PySem.W.mg_none_of X G z_isinstance, PySem.W.mg_none_of X G z_range, PySem.W.mg_none_of X G z_int, PySem.W.mg_none_of X G z_str, PySem.W.mg_none_of X G z_list, PySem.W.mg_none_of X G z_tuple, PySem.W.mg_none_of X G z_bool, PySem.W.mg_none_of X G z_abs, PySem.W.mg_none_of X G z_max, PySem.W.mg_none_of X G z_min, PySem.W.mg_none_of X G z_all, PySem.W.mg_none_of X G z_any, PySem.W.mg_none_of X G z_enumerate, PySem.W.mg_none_of X G z_zip, PySem.W.mg_none_of X G z_repr, PySem.W.mg_none_of X G z_sum, PySem.W.mg_none_of X G z_sorted, PySem.W.mg_none_of X G z_ValueError⟩
  have i_gcd : mg "gcd" = some (.builtin "math.gcd") := PySem.W.mg_of X G zgcd
  have c_WideError : Cl mg "WideError" C_WideError := ⟨PySem.W.mg_of X G g_WideError⟩
  have c_NoPart : Cl mg "NoPart" C_NoPart := ⟨PySem.W.mg_of X G g_NoPart⟩
  have F_is_whole : Fun K "is_whole" "is_whole" s_is_whole f_is_whole _ := fun_mk l_is_whole c_is_whole k_is_whole
  have d_is_whole : Dfn P w K mg base CX0 "is_whole" ["thing"] 1 fs_is_whole := ⟨f_is_whole, _, PySem.W.mg_of X G a_is_whole, k_is_whole, F_is_whole.binds (fun _ _ _ _ _ _ us hl => match us, hl with | [_], _ => rfl), ok_is_whole (B := B) (F := F_is_whole)⟩
  have F_reduced : Fun K "reduced" "reduced" s_reduced f_reduced _ := fun_mk l_reduced c_reduced k_reduced
  have d_reduced : Dfn P w K mg base CX0 "reduced" ["top", "bottom"] 1 fs_reduced := ⟨f_reduced, _, PySem.W.mg_of X G a_reduced, k_reduced, F_reduced.binds (fun _ _ _ _ _ _ us hl => match us, hl with | [_, _], _ => rfl), ok_reduced (B := B) (i_gcd := i_gcd) (F := F_reduced)⟩
  obtain ⟨its_part_of, ite_part_of, itv_part_of⟩ := iv_part_of
  have F_part_of : FunD K "part_of" "part_of" (defArgs s_part_of) (defBody s_part_of) (defScope s_part_of) [.int 1] [] f_part_of _ := ⟨⟨oc_part_of, od_part_of, .ref T_part_of, kV_part_of, doc_part_of, pm_part_of, an_part_of, cd_part_of, ct_part_of, sl_part_of, rfl, l_part_of, c_part_of, .inr ⟨(fun h => by cases h), T_part_of, _, its_part_of, tn_part_of, rfl, lt_part_of, by rw [ite_part_of], itv_part_of⟩, .inl rfl⟩, k_part_of⟩
  have b0_part_of := F_part_of.binds1 (ps := ["top", "bottom"]) 1 0 (fun h => by cases h) rfl (fun _ _ _ _ _ _ _ us its hl hi => match us, hl, its, hi with | [_], _, [_], _ => ⟨_, rfl, rfl⟩)
  obtain ⟨ds0_part_of, dv0_part_of, db0_part_of⟩ := b0_part_of
  have d_part_of_1 : DfnD P w K mg base (L2.CX P w) "part_of" ["top", "bottom"] [.int 1] 2 (fs_part_of C_NoPart) := ⟨f_part_of, _, _, PySem.W.mg_of X G a_part_of, k_part_of, dv0_part_of, db0_part_of, ok_part_of (CP := C_NoPart) (B := B) (i_gcd := i_gcd) (d_is_whole := d_is_whole) (d_reduced := d_reduced) (F := F_part_of)⟩
  have b1_part_of := F_part_of.binds1 (ps := ["top", "bottom"]) 2 1 (fun h => by cases h) rfl (fun _ _ _ _ _ _ _ us its hl hi => match us, hl, its, hi with | [_, _], _, [_], _ => ⟨_, rfl, rfl⟩)
  obtain ⟨ds1_part_of, dv1_part_of, db1_part_of⟩ := b1_part_of
  cases dv1_part_of
  have d_part_of : Dfn P w K mg base (L2.CX P w) "part_of" ["top", "bottom"] 2 (fs_part_of C_NoPart) := ⟨f_part_of, _, PySem.W.mg_of X G a_part_of, k_part_of, db1_part_of, ok_part_of (CP := C_NoPart) (B := B) (i_gcd := i_gcd) (d_is_whole := d_is_whole) (d_reduced := d_reduced) (F := F_part_of)⟩
  have F_is_more : Fun K "is_more" "is_more" s_is_more f_is_more _ := fun_mk l_is_more c_is_more k_is_more
  have d_is_more : Dfn P w K mg base CX0 "is_more" ["one", "other"] 1 fs_is_more := ⟨f_is_more, _, PySem.W.mg_of X G a_is_more, k_is_more, F_is_more.binds (fun _ _ _ _ _ _ us hl => match us, hl with | [_, _], _ => rfl), ok_is_more (B := B) (F := F_is_more)⟩
  have F_line_pairs : Fun K "line_pairs" "line_pairs" s_line_pairs f_line_pairs _ := fun_mk l_line_pairs c_line_pairs k_line_pairs
  have d_line_pairs : Dfn P w K mg base CX0 "line_pairs" ["wishes", "gap", "width"] 1 fs_pairs := ⟨f_line_pairs, _, PySem.W.mg_of X G a_line_pairs, k_line_pairs, F_line_pairs.binds (fun _ _ _ _ _ _ us hl => match us, hl with | [_, _, _], _ => rfl), ok_line_pairs (B := B) (F := F_line_pairs)⟩
  have F_broken : Fun K "broken" "broken" s_broken f_broken _ := fun_mk l_broken c_broken k_broken
  have d_broken : Dfn P w K mg base CX0 "broken" ["wishes", "gap", "width"] 2 fs_broken := ⟨f_broken, _, PySem.W.mg_of X G a_broken, k_broken, F_broken.binds (fun _ _ _ _ _ _ us hl => match us, hl with | [_, _, _], _ => rfl), ok_broken (B := B) (d_line_pairs := d_line_pairs) (F := F_broken)⟩
  have F_fewest : Fun K "fewest" "fewest" s_fewest f_fewest _ := fun_mk l_fewest c_fewest k_fewest
  have d_fewest : Dfn P w K mg base CX0 "fewest" ["wishes", "gap", "width"] 2 fs_fewest := ⟨f_fewest, _, PySem.W.mg_of X G a_fewest, k_fewest, F_fewest.binds (fun _ _ _ _ _ _ us hl => match us, hl with | [_, _, _], _ => rfl), ok_fewest (B := B) (d_line_pairs := d_line_pairs) (F := F_fewest)⟩
  have F__taken : Fun K "_taken" "_taken" s__taken f__taken _ := fun_mk l__taken c__taken k__taken
  have d__taken : Dfn P w K mg base CX0 "_taken" ["wishes", "gap"] 1 fs_taken := ⟨f__taken, _, PySem.W.mg_of X G a__taken, k__taken, F__taken.binds (fun _ _ _ _ _ _ us hl => match us, hl with | [_, _], _ => rfl), ok_taken (B := B) (F := F__taken)⟩
  have F_goes_into : Fun K "goes_into" "goes_into" s_goes_into f_goes_into _ := fun_mk l_goes_into c_goes_into k_goes_into
  have d_goes_into : Dfn P w K mg base CX0 "goes_into" ["wishes", "gap", "width"] 3 fs_goes := ⟨f_goes_into, _, PySem.W.mg_of X G a_goes_into, k_goes_into, F_goes_into.binds (fun _ _ _ _ _ _ us hl => match us, hl with | [_, _, _], _ => rfl), ok_goes_into (CP := C_NoPart) (B := B) (d_is_more := d_is_more) (d_part_of_1 := d_part_of_1) (d__taken := d__taken) (F := F_goes_into)⟩
  have F__law_cell_at : Fun K "_law_cell_at" "_law_cell_at" s__law_cell_at f__law_cell_at _ := fun_mk l__law_cell_at c__law_cell_at k__law_cell_at
  have d__law_cell_at : Dfn P w K mg base CX0 "_law_cell_at" ["_law_script", "_law_k"] 1 fs_cell_at := ⟨f__law_cell_at, _, PySem.W.mg_of X G a__law_cell_at, k__law_cell_at, F__law_cell_at.binds (fun _ _ _ _ _ _ us hl => match us, hl with | [_, _], _ => rfl), ok_law_cell_at (B := B) (F := F__law_cell_at)⟩
  have F__law_mixed : Fun K "_law_mixed" "_law_mixed" s__law_mixed f__law_mixed _ := fun_mk l__law_mixed c__law_mixed k__law_mixed
  have d__law_mixed : Dfn P w K mg base CX0 "_law_mixed" ["_law_script", "_law_start", "_law_many"] 2 fs_mixed := ⟨f__law_mixed, _, PySem.W.mg_of X G a__law_mixed, k__law_mixed, F__law_mixed.binds (fun _ _ _ _ _ _ us hl => match us, hl with | [_, _, _], _ => rfl), ok_law_mixed (B := B) (d__law_cell_at := d__law_cell_at) (F := F__law_mixed)⟩
  have F__law_part : Fun K "_law_part" "_law_part" s__law_part f__law_part _ := fun_mk l__law_part c__law_part k__law_part
  have d__law_part : Dfn P w K mg base CX0 "_law_part" ["_law_top", "_law_bottom"] 1 fs_law_part := ⟨f__law_part, _, PySem.W.mg_of X G a__law_part, k__law_part, F__law_part.binds (fun _ _ _ _ _ _ us hl => match us, hl with | [_, _], _ => rfl), ok_law_part (B := B) (F := F__law_part)⟩
  have F__law_sum : Fun K "_law_sum" "_law_sum" s__law_sum f__law_sum _ := fun_mk l__law_sum c__law_sum k__law_sum
  have d__law_sum : Dfn P w K mg base CX0 "_law_sum" ["_law_one", "_law_other"] 2 (fs_op2 addQ) := ⟨f__law_sum, _, PySem.W.mg_of X G a__law_sum, k__law_sum, F__law_sum.binds (fun _ _ _ _ _ _ us hl => match us, hl with | [_, _], _ => rfl), ok_law_sum (B := B) (d__law_part := d__law_part) (F := F__law_sum)⟩
  have F__law_goes : Fun K "_law_goes" "_law_goes" s__law_goes f__law_goes _ := fun_mk l__law_goes c__law_goes k__law_goes
  have d__law_goes : Dfn P w K mg base CX0 "_law_goes" ["_law_wishes", "_law_gap", "_law_width_here"] 1 fs_goes := ⟨f__law_goes, _, PySem.W.mg_of X G a__law_goes, k__law_goes, F__law_goes.binds (fun _ _ _ _ _ _ us hl => match us, hl with | [_, _, _], _ => rfl), ok_law_goes (B := B) (F := F__law_goes)⟩
  have F__law_broken : Fun K "_law_broken" "_law_broken" s__law_broken f__law_broken _ := fun_mk l__law_broken c__law_broken k__law_broken
  have d__law_broken : Dfn P w K mg base CX0 "_law_broken" ["_law_wishes", "_law_gap", "_law_width_here"] 2 fs_broken := ⟨f__law_broken, _, PySem.W.mg_of X G a__law_broken, k__law_broken, F__law_broken.binds (fun _ _ _ _ _ _ us hl => match us, hl with | [_, _, _], _ => rfl), ok_law_broken (B := B) (d__law_goes := d__law_goes) (F := F__law_broken)⟩
  have F__law_fewest : Fun K "_law_fewest" "_law_fewest" s__law_fewest f__law_fewest _ := fun_mk l__law_fewest c__law_fewest k__law_fewest
  have d__law_fewest : Dfn P w K mg base CX0 "_law_fewest" ["_law_wishes", "_law_gap", "_law_width_here"] 2 fs_fewest := ⟨f__law_fewest, _, PySem.W.mg_of X G a__law_fewest, k__law_fewest, F__law_fewest.binds (fun _ _ _ _ _ _ us hl => match us, hl with | [_, _, _], _ => rfl), ok_law_fewest (B := B) (d__law_goes := d__law_goes) (F := F__law_fewest)⟩
  have F__law_width : Fun K "_law_width" "_law_width" s__law_width f__law_width _ := fun_mk l__law_width c__law_width k__law_width
  have d__law_width : Dfn P w K mg base CX0 "_law_width" ["_law_wishes", "_law_gap", "_law_cell"] 3 fs_law_width := ⟨f__law_width, _, PySem.W.mg_of X G a__law_width, k__law_width, F__law_width.binds (fun _ _ _ _ _ _ us hl => match us, hl with | [_, _, _], _ => rfl), ok_law_width (B := B) (d__law_part := d__law_part) (d__law_sum := d__law_sum) (F := F__law_width)⟩
  have F_law : Fun K "law" "law" s_law f_law _ := fun_mk l_law c_law k_law
  exact ok_law (B := B) (d__law_mixed := d__law_mixed) (d__law_width := d__law_width) (d__law_broken := d__law_broken) (d_broken := d_broken) (d_goes_into := d_goes_into) (d_fewest := d_fewest) (d__law_fewest := d__law_fewest) (d__law_goes := d__law_goes) (F := F_law)
end K31
end
open PySem PySem.W PyProof.Rows
set_option maxHeartbeats 0 in
theorem PySem.Challenge.cw_widthwise_k31_lines_broken_holds : PySem.Challenge.rw_widthwise_k31_lines_broken.Holds := by
  w_on; o_law; k_head; (case hw => w_witness2)
  k_fill
  refine Y.walk_at_caller (l := PySem.Challenge.rw_widthwise_k31_lines_broken) (n := 63) (x := "_law_script") (sp := fun w => Y.spD _ Sh.fs_law) rfl (by decide) rfl (fun w h Y => PySem.W.kIn_of Y) ?F (fun _ _ a ns hl _ hS => K31.law_sp hl hS)
  case F =>
    intro w mg fa h KX G hmg
    refine' K31.all_mk KX G hmg ?z_len ?z_isinstance ?z_range ?z_int ?z_str ?z_list ?z_tuple ?z_bool ?z_abs ?z_max ?z_min ?z_all ?z_any ?z_enumerate ?z_zip ?z_repr ?z_sum ?z_sorted ?z_ValueError ?zgcd ?g_WideError ?g_NoPart ?a_is_whole ?l_is_whole ?c_is_whole ?k_is_whole ?a_reduced ?l_reduced ?c_reduced ?k_reduced ?a_part_of ?l_part_of ?c_part_of ?k_part_of ?lt_part_of ?iv_part_of ?a_is_more ?l_is_more ?c_is_more ?k_is_more ?a_line_pairs ?l_line_pairs ?c_line_pairs ?k_line_pairs ?a_broken ?l_broken ?c_broken ?k_broken ?a_fewest ?l_fewest ?c_fewest ?k_fewest ?a__taken ?l__taken ?c__taken ?k__taken ?a_goes_into ?l_goes_into ?c_goes_into ?k_goes_into ?a__law_cell_at ?l__law_cell_at ?c__law_cell_at ?k__law_cell_at ?a__law_mixed ?l__law_mixed ?c__law_mixed ?k__law_mixed ?a__law_part ?l__law_part ?c__law_part ?k__law_part ?a__law_sum ?l__law_sum ?c__law_sum ?k__law_sum ?a__law_goes ?l__law_goes ?c__law_goes ?k__law_goes ?a__law_broken ?l__law_broken ?c__law_broken ?k__law_broken ?a__law_fewest ?l__law_fewest ?c__law_fewest ?k__law_fewest ?a__law_width ?l__law_width ?c__law_width ?k__law_width ?a_law ?l_law ?c_law ?k_law
    (case z_len => k_is)
    (case z_isinstance => k_is)
    (case z_range => k_is)
    (case z_int => k_is)
    (case z_str => k_is)
    (case z_list => k_is)
    (case z_tuple => k_is)
    (case z_bool => k_is)
    (case z_abs => k_is)
    (case z_max => k_is)
    (case z_min => k_is)
    (case z_all => k_is)
    (case z_any => k_is)
    (case z_enumerate => k_is)
    (case z_zip => k_is)
    (case z_repr => k_is)
    (case z_sum => k_is)
    (case z_sorted => k_is)
    (case z_ValueError => k_is)
    (case zgcd => k_is)
    (case g_WideError => k_is)
    (case g_NoPart => k_is)
    (case a_is_whole => k_is)
    (case l_is_whole => k_is)
    (case c_is_whole => k_is)
    (case k_is_whole => k_is)
    (case a_reduced => k_is)
    (case l_reduced => k_is)
    (case c_reduced => k_is)
    (case k_reduced => k_is)
    (case a_part_of => k_is)
    (case l_part_of => k_is)
    (case c_part_of => k_is)
    (case k_part_of => k_is)
    (case lt_part_of => k_is)
    (case iv_part_of => exact ⟨_, rfl, .cons ⟨_, rfl⟩ .nil⟩)
    (case a_is_more => k_is)
    (case l_is_more => k_is)
    (case c_is_more => k_is)
    (case k_is_more => k_is)
    (case a_line_pairs => k_is)
    (case l_line_pairs => k_is)
    (case c_line_pairs => k_is)
    (case k_line_pairs => k_is)
    (case a_broken => k_is)
    (case l_broken => k_is)
    (case c_broken => k_is)
    (case k_broken => k_is)
    (case a_fewest => k_is)
    (case l_fewest => k_is)
    (case c_fewest => k_is)
    (case k_fewest => k_is)
    (case a__taken => k_is)
    (case l__taken => k_is)
    (case c__taken => k_is)
    (case k__taken => k_is)
    (case a_goes_into => k_is)
    (case l_goes_into => k_is)
    (case c_goes_into => k_is)
    (case k_goes_into => k_is)
    (case a__law_cell_at => k_is)
    (case l__law_cell_at => k_is)
    (case c__law_cell_at => k_is)
    (case k__law_cell_at => k_is)
    (case a__law_mixed => k_is)
    (case l__law_mixed => k_is)
    (case c__law_mixed => k_is)
    (case k__law_mixed => k_is)
    (case a__law_part => k_is)
    (case l__law_part => k_is)
    (case c__law_part => k_is)
    (case k__law_part => k_is)
    (case a__law_sum => k_is)
    (case l__law_sum => k_is)
    (case c__law_sum => k_is)
    (case k__law_sum => k_is)
    (case a__law_goes => k_is)
    (case l__law_goes => k_is)
    (case c__law_goes => k_is)
    (case k__law_goes => k_is)
    (case a__law_broken => k_is)
    (case l__law_broken => k_is)
    (case c__law_broken => k_is)
    (case k__law_broken => k_is)
    (case a__law_fewest => k_is)
    (case l__law_fewest => k_is)
    (case c__law_fewest => k_is)
    (case k__law_fewest => k_is)
    (case a__law_width => k_is)
    (case l__law_width => k_is)
    (case c__law_width => k_is)
    (case k__law_width => k_is)
    (case a_law => k_is)
    (case l_law => k_is)
    (case c_law => k_is)
    (case k_law => k_is)

import PyProof.Rows.All
import Wide.All
import OpenK.AllK
import Wide.FinOn
import HandS.ForMost
import HandS.ForExc
import HandS.IsInst
import HandS.Wide
import HandS.Gcd
import HandS.TupLe
import HandS.Zip
import HandS.Walk
import HandS.StrMore
import HandS.FStr
import HandS.ExcIs
import HandS.Defaults
import KE.DataEq
import KE.KTypeName
import KE.KExcIs
import HandS.ExcInit
import PySem.Challenge.RW_widthwise_k01_parts_reckoned
set_option Elab.async false
set_option linter.all false
set_option maxRecDepth 100000
section
namespace Y
open PySem PySem.Spec PyProof.Rows L2
/-! # A layer over HandS that speaks of data alone: values as trees, slots that hold data or a list of one's own -/

/-- data: what a value is, its addresses forgotten -/
inductive D where
  | non | bl (b : Bool) | int (i : Int) | str (x : Str)
  | tup (xs : List D) | lst (xs : List D) | fz (xs : List D)
  | exc (C : Addr) | dk0 | ty (n : String) | cls (C : Addr)
  | pin (a : Addr) (d : D)

mutual
/-- data that no list bears: it stays whatever list is changed -/
def D.imm : D → Bool
  | .lst _ => false
  | .fz _ => false
  | .dk0 => false
  | .pin _ _ => false
  | .tup xs => immAll xs
  | _ => true
def immAll : List D → Bool
  | [] => true
  | x :: xs => x.imm && immAll xs
end

/-- an exception that was caught, of the class at C -/
def ExcO (C : Addr) (dx : Option Addr) (a : Addr) : HO := .ext fun h => ∃ (oe : Obj) (vs : Array Value), h.get? a = some oe ∧ Zc (.ref C) dx oe ∧ oe.data = .fields vs
/-- an error's own dict, where it has one -/
def DxOk (dx : Option Addr) (H : Hp) : Prop := ∀ d, dx = some d → ∃ fs, H d = some (.xd fs)
theorem DxOk.none {H : Hp} : DxOk none H := fun _ e => nomatch e
theorem DxOk.mono {dx : Option Addr} {H H' : Hp} (s : Same H H') (h : DxOk dx H) : DxOk dx H' := fun d e => let ⟨fs, q⟩ := h d e; ⟨fs, s _ _ q⟩

mutual
inductive Rp (K : PySem.W.Frag) (G : Hp) : V → D → Prop
  | non : Rp K G .non .non
  | bl (b : Bool) : Rp K G (.bl b) (.bl b)
  | int (i : Int) : Rp K G (.int i) (.int i)
  | str (x : Str) : Rp K G (.str x) (.str x)
  | ty (n : String) : Rp K G (.ty n) (.ty n)
  | cls (C : Addr) : Rp K G (.ref C) (.cls C)
  | tup {a : Addr} {xs : List V} {ds : List D} : SqT K G a xs → Rps K G xs ds → Rp K G (.ref a) (.tup ds)
  | lst {a : Addr} {xs : List V} {ds : List D} : G a = some (.lst xs) → Rps K G xs ds → Rp K G (.ref a) (.lst ds)
  | fz {a : Addr} {xs : List V} {ds : List D} : SqL K G a xs → Rps K G xs ds → Rp K G (.ref a) (.fz ds)
  | exc {a C : Addr} {dx : Option Addr} : G a = some (ExcO C dx a) → DxOk dx G → Rp K G (.ref a) (.exc C)
  | dk0 {a : Addr} : G a = some (.dK []) → Rp K G (.ref a) .dk0
  | pin {a : Addr} {d : D} : Rp K G (.ref a) d → Rp K G (.ref a) (.pin a d)
inductive Rps (K : PySem.W.Frag) (G : Hp) : List V → List D → Prop
  | nil : Rps K G [] []
  | cons {v : V} {vs : List V} {d : D} {ds : List D} : Rp K G v d → Rps K G vs ds → Rps K G (v :: vs) (d :: ds)
end

theorem same_seqT {K : PySem.W.Frag} {H H' : Hp} {a : Addr} {xs : List V} (e : Same H H') (h : SqT K H a xs) : SqT K H' a xs := by
  rcases h with (h | ⟨o, h⟩) | h
  · exact .inl (.inl (e _ _ h))
  · exact .inl (.inr ⟨o, e _ _ h⟩)
  · exact .inr h

section
variable {K : PySem.W.Frag} {G H : Hp}
mutual
theorem Rp.mono (e : Same G H) : ∀ {v : V} {d : D}, Rp K G v d → Rp K H v d
  | _, _, .non => .non
  | _, _, .bl b => .bl b
  | _, _, .int i => .int i
  | _, _, .str x => .str x
  | _, _, .ty n => .ty n
  | _, _, .cls C => .cls C
  | _, _, .tup h r => .tup (same_seqT e h) (Rps.mono e r)
  | _, _, .lst h r => .lst (e _ _ h) (Rps.mono e r)
  | _, _, .fz h r => .fz (e.seq h) (Rps.mono e r)
  | _, _, .exc h hd => .exc (e _ _ h) (hd.mono e)
  | _, _, .dk0 h => .dk0 (e _ _ h)
  | _, _, .pin h => .pin (Rp.mono e h)
theorem Rps.mono (e : Same G H) : ∀ {vs : List V} {ds : List D}, Rps K G vs ds → Rps K H vs ds
  | _, _, .nil => .nil
  | _, _, .cons h r => .cons (Rp.mono e h) (Rps.mono e r)
end
theorem imm_seqT {a : Addr} {xs : List V} (nl : ∀ b o, H b = some o → (∀ xs, o ≠ .lst xs) → G b = some o) (h : SqT K H a xs) : SqT K G a xs := by
  rcases h with (h | ⟨o, h⟩) | h
  · exact .inl (.inl (nl _ _ h fun _ z => nomatch z))
  · exact .inl (.inr ⟨o, nl _ _ h fun _ z => nomatch z⟩)
  · exact .inr h
mutual
theorem Rp.imm (nl : ∀ b o, H b = some o → (∀ xs, o ≠ .lst xs) → G b = some o) : ∀ {v : V} {d : D}, Rp K H v d → d.imm = true → Rp K G v d
  | _, _, .non, _ => .non
  | _, _, .bl b, _ => .bl b
  | _, _, .int i, _ => .int i
  | _, _, .str x, _ => .str x
  | _, _, .ty n, _ => .ty n
  | _, _, .cls C, _ => .cls C
  | _, _, .tup h r, z => .tup (imm_seqT nl h) (Rps.imm nl r (by simpa [D.imm] using z))
  | _, _, .lst h r, z => by simp [D.imm] at z
  | _, _, .fz h r, z => by simp [D.imm] at z
  | _, _, .exc h hd, _ => .exc (nl _ _ h fun _ z => nomatch z) fun d e => let ⟨fs, q⟩ := hd d e; ⟨fs, nl _ _ q fun _ z => nomatch z⟩
  | _, _, .dk0 h, z => by simp [D.imm] at z
  | _, _, .pin h, z => by simp [D.imm] at z
theorem Rps.imm (nl : ∀ b o, H b = some o → (∀ xs, o ≠ .lst xs) → G b = some o) : ∀ {vs : List V} {ds : List D}, Rps K H vs ds → immAll ds = true → Rps K G vs ds
  | _, _, .nil, _ => .nil
  | _, _, .cons h r, z => by
    have z' := z
    rw [immAll, Bool.and_eq_true] at z'
    exact .cons (Rp.imm nl h z'.1) (Rps.imm nl r z'.2)
end
theorem Rps.length : ∀ {vs : List V} {ds : List D}, Rps K G vs ds → vs.length = ds.length
  | _, _, .nil => rfl
  | _, _, .cons _ r => by rw [List.length_cons, List.length_cons, Rps.length r]
theorem Rps.get : ∀ {vs : List V} {ds : List D} (i : Nat) {d : D}, Rps K G vs ds → ds[i]? = some d → ∃ v, vs[i]? = some v ∧ Rp K G v d
  | _, _, i, d, .nil, e => by simp at e
  | _, _, 0, d, .cons h _, e => by
    have e' := Option.some.inj e
    subst e'
    exact ⟨_, rfl, h⟩
  | _, _, i + 1, d, .cons _ r, e => by
    obtain ⟨v, e1, h1⟩ := Rps.get i r (by simpa using e)
    exact ⟨v, by simpa using e1, h1⟩
theorem Rps.getV : ∀ {vs : List V} {ds : List D} (i : Nat) {v : V}, Rps K G vs ds → vs[i]? = some v → ∃ d, ds[i]? = some d ∧ Rp K G v d
  | _, _, i, d, .nil, e => by simp at e
  | _, _, 0, d, .cons h _, e => by
    have e' := Option.some.inj e
    subst e'
    exact ⟨_, rfl, h⟩
  | _, _, i + 1, d, .cons _ r, e => by
    obtain ⟨v, e1, h1⟩ := Rps.getV i r (by simpa using e)
    exact ⟨v, by simpa using e1, h1⟩
theorem Rps.append : ∀ {vs ws : List V} {ds es : List D}, Rps K G vs ds → Rps K G ws es → Rps K G (vs ++ ws) (ds ++ es)
  | _, _, _, _, .nil, s => s
  | _, _, _, _, .cons h r, s => .cons h (Rps.append r s)
theorem Rps.take : ∀ {vs : List V} {ds : List D} (n : Nat), Rps K G vs ds → Rps K G (vs.take n) (ds.take n)
  | _, _, 0, _ => .nil
  | _, _, _ + 1, .nil => .nil
  | _, _, n + 1, .cons h r => .cons h (Rps.take n r)
theorem Rps.drop : ∀ {vs : List V} {ds : List D} (n : Nat), Rps K G vs ds → Rps K G (vs.drop n) (ds.drop n)
  | _, _, 0, r => r
  | _, _, _ + 1, .nil => .nil
  | _, _, n + 1, .cons _ r => Rps.drop n r
theorem Rps.set : ∀ {vs : List V} {ds : List D} (i : Nat) {v : V} {d : D}, Rps K G vs ds → Rp K G v d → Rps K G (vs.set i v) (ds.set i d)
  | _, _, _, _, _, .nil, _ => .nil
  | _, _, 0, _, _, .cons _ r, h => .cons h r
  | _, _, i + 1, _, _, .cons h' r, h => .cons h' (Rps.set i r h)
theorem Rps.one {v : V} {d : D} (h : Rp K G v d) : Rps K G [v] [d] := .cons h .nil
end

/-! ### how heaps go on: H all that is tracked, G the part that no list of one's own is in -/
structure Ev (G H G' H' : Hp) : Prop where
  hs : Same H H'
  gs : Same G G'
  sub : Same G' H'
  new : ∀ b xs, H b = some (.lst xs) → G b = none → G' b = none
theorem Ev.refl {G H : Hp} (s : Same G H) : Ev G H G H := ⟨Same.refl _, Same.refl _, s, fun _ _ _ h => h⟩
theorem Ev.trans {G H G1 H1 G2 H2 : Hp} (a : Ev G H G1 H1) (b : Ev G1 H1 G2 H2) : Ev G H G2 H2 :=
  ⟨a.hs.trans b.hs, a.gs.trans b.gs, b.sub, fun c xs h g => b.new c xs (a.hs _ _ h) (a.new c xs h g)⟩
/-- a new thing, shared -/
theorem Ev.laid {G H : Hp} {p : Addr} {o : HO} (s : Same G H) (n : H p = none) : Ev G H (upd G p o) (upd H p o) := by
  have ng : G p = none := s.free n
  refine ⟨fun b u e => by rw [upd_ne (ne_of_none e n)]; exact e, fun b u e => by rw [upd_ne (ne_of_none e ng)]; exact e, fun b u e => ?_, fun b xs e g => by rw [upd_ne (ne_of_none e n)]; exact g⟩
  by_cases hb : b = p
  · subst hb
    rw [upd_same] at e ⊢
    exact e
  · rw [upd_ne hb] at e ⊢
    exact s b u e
/-- a new thing of one's own -/
theorem Ev.own {G H : Hp} {p : Addr} {o : HO} (s : Same G H) (n : H p = none) : Ev G H G (upd H p o) :=
  ⟨fun b u e => by rw [upd_ne (ne_of_none e n)]; exact e, Same.refl _, fun b u e => by rw [upd_ne (ne_of_none (s b u e) n)]; exact s b u e, fun _ _ _ g => g⟩
/-- what was tracked, but no list that stood at (G0, H0), is shared from now on -/
def joinH (G H G' : Hp) : Hp := fun b => match H b with
  | some (.lst _) => G b
  | _ => G' b
theorem joinH_lst {G H G' : Hp} {b : Addr} {xs : List V} (e : H b = some (.lst xs)) : joinH G H G' b = G b := by
  unfold joinH
  rw [e]
theorem joinH_non {G H G' : Hp} {b : Addr} (e : ∀ xs, H b ≠ some (.lst xs)) : joinH G H G' b = G' b := by
  unfold joinH
  split
  · rename_i xs h
    exact absurd h (e xs)
  · rfl
theorem Ev.join {G H G' H' : Hp} (s : Same G H) (hg : Same H G') (gh : Same G' H') : Ev G H (joinH G H G') H' := by
  refine ⟨hg.trans gh, fun b o e => ?_, fun b o e => ?_, fun b xs e g => by rw [joinH_lst e]; exact g⟩
  · have h1 := s b o e
    by_cases c : ∃ xs, H b = some (.lst xs)
    · obtain ⟨xs, c⟩ := c
      rw [joinH_lst c]
      exact e
    · rw [joinH_non fun xs z => c ⟨xs, z⟩]
      exact hg _ _ h1
  · by_cases c : ∃ xs, H b = some (.lst xs)
    · obtain ⟨xs, c⟩ := c
      rw [joinH_lst c] at e
      exact gh _ _ (hg _ _ (s _ _ e))
    · rw [joinH_non fun xs z => c ⟨xs, z⟩] at e
      exact gh _ _ e
theorem join_imm {G H G' : Hp} (hg : Same H G') : ∀ b o, G' b = some o → (∀ xs, o ≠ .lst xs) → joinH G H G' b = some o := fun b o e n => by
  rw [joinH_non]
  · exact e
  · intro xs z
    have z2 := hg _ _ z
    rw [e] at z2
    exact n xs (Option.some.inj z2)

/-! ### slots -/
inductive Slot where
  | emp | val (d : D) | own (ds : List D)
structure Sig (K : PySem.W.Frag) (G0 H0 G : Hp) (ρ : List Slot) (σ : L2.St) (H : Hp) : Prop where
  ev : Ev G0 H0 G H
  len : σ.length = ρ.length
  val : ∀ (i : Nat) (d : D), ρ[i]? = some (.val d) → ∃ v, σ[i]? = some (some v) ∧ Rp K G v d
  own : ∀ (i : Nat) (ds : List D), ρ[i]? = some (.own ds) → ∃ l xs, σ[i]? = some (some (.ref l)) ∧ H0 l = none ∧ G l = none ∧ H l = some (.lst xs) ∧ Rps K G xs ds
  inj : ∀ (i j : Nat) (ds es : List D) (l : Addr), ρ[i]? = some (.own ds) → ρ[j]? = some (.own es) → σ[i]? = some (some (.ref l)) → σ[j]? = some (some (.ref l)) → i = j
section
variable {K : PySem.W.Frag} {G0 H0 G G' : Hp} {ρ : List Slot} {σ : L2.St} {H H' : Hp}
theorem Sig.step (S : Sig K G0 H0 G ρ σ H) (e : Ev G H G' H') : Sig K G0 H0 G' ρ σ H' :=
  ⟨S.ev.trans e, S.len, fun i d h => let ⟨v, h1, h2⟩ := S.val i d h; ⟨v, h1, h2.mono e.gs⟩,
    fun i ds h => let ⟨l, xs, h1, h2, h3, h4, h5⟩ := S.own i ds h; ⟨l, xs, h1, h2, e.new l xs h4 h3, e.hs _ _ h4, h5.mono e.gs⟩, S.inj⟩
theorem get_set_eq {α : Type} {l : List α} {i : Nat} {x : α} (h : i < l.length) : (l.set i x)[i]? = some x := List.getElem?_set_self h
theorem get_set_ne {α : Type} {l : List α} {i j : Nat} {x : α} (h : i ≠ j) : (l.set i x)[j]? = l[j]? := List.getElem?_set_ne h
/-- a slot gets shared data -/
theorem Sig.setVal (S : Sig K G0 H0 G ρ σ H) {i : Nat} {v : V} {d : D} (r : Rp K G v d) : Sig K G0 H0 G (ρ.set i (.val d)) (σ.set i (some v)) H := by
  refine ⟨S.ev, by rw [List.length_set, List.length_set]; exact S.len, fun j e h => ?_, fun j ds h => ?_, fun j k ds es l h1 h2 h3 h4 => ?_⟩
  · by_cases hj : i = j
    · subst hj
      by_cases hl : i < ρ.length
      · rw [get_set_eq hl] at h
        have z := Slot.val.inj (Option.some.inj h)
        subst z
        exact ⟨v, get_set_eq (S.len ▸ hl), r⟩
      · rw [List.getElem?_eq_none (by rw [List.length_set]; omega)] at h
        cases h
    · rw [get_set_ne hj] at h ⊢
      exact S.val j e h
  · by_cases hj : i = j
    · subst hj
      by_cases hl : i < ρ.length
      · rw [get_set_eq hl] at h
        cases h
      · rw [List.getElem?_eq_none (by rw [List.length_set]; omega)] at h
        cases h
    · rw [get_set_ne hj] at h ⊢
      exact S.own j ds h
  · have nj : ∀ m es', (ρ.set i (Slot.val d))[m]? = some (Slot.own es') → i ≠ m := fun m es' hm z => by
      subst z
      by_cases hl : i < ρ.length
      · rw [get_set_eq hl] at hm
        cases hm
      · rw [List.getElem?_eq_none (by rw [List.length_set]; omega)] at hm
        cases hm
    have n1 := nj j ds h1
    have n2 := nj k es h2
    rw [get_set_ne n1] at h1 h3
    rw [get_set_ne n2] at h2 h4
    exact S.inj j k ds es l h1 h2 h3 h4
/-- a slot gets a list that is new -/
theorem Sig.setOwn (S : Sig K G0 H0 G ρ σ H) {i : Nat} {l : Addr} {xs : List V} {ds : List D} (h0 : H0 l = none) (hg : G l = none) (hl : H l = some (.lst xs)) (r : Rps K G xs ds)
    (nw : ∀ j es, i ≠ j → ρ[j]? = some (.own es) → σ[j]? ≠ some (some (.ref l))) : Sig K G0 H0 G (ρ.set i (.own ds)) (σ.set i (some (.ref l))) H := by
  refine ⟨S.ev, by rw [List.length_set, List.length_set]; exact S.len, fun j e h => ?_, fun j es h => ?_, fun j k es fs m h1 h2 h3 h4 => ?_⟩
  · by_cases hj : i = j
    · subst hj
      by_cases hl : i < ρ.length
      · rw [get_set_eq hl] at h
        cases h
      · rw [List.getElem?_eq_none (by rw [List.length_set]; omega)] at h
        cases h
    · rw [get_set_ne hj] at h ⊢
      exact S.val j e h
  · by_cases hj : i = j
    · subst hj
      by_cases hlt : i < ρ.length
      · rw [get_set_eq hlt] at h
        have z := Slot.own.inj (Option.some.inj h)
        subst z
        exact ⟨l, xs, get_set_eq (S.len ▸ hlt), h0, hg, hl, r⟩
      · rw [List.getElem?_eq_none (by rw [List.length_set]; omega)] at h
        cases h
    · rw [get_set_ne hj] at h ⊢
      exact S.own j es h
  · by_cases hj : i = j
    · by_cases hk : i = k
      · rw [← hj, ← hk]
      · exfalso
        subst hj
        rw [get_set_ne hk] at h2 h4
        by_cases hlt : i < σ.length
        · rw [get_set_eq hlt] at h3
          have z := V.ref.inj (Option.some.inj (Option.some.inj h3))
          subst z
          exact nw k fs hk h2 h4
        · rw [List.getElem?_eq_none (by rw [List.length_set]; omega)] at h3
          cases h3
    · by_cases hk : i = k
      · exfalso
        subst hk
        rw [get_set_ne hj] at h1 h3
        by_cases hlt : i < σ.length
        · rw [get_set_eq hlt] at h4
          have z := V.ref.inj (Option.some.inj (Option.some.inj h4))
          subst z
          exact nw j es hj h1 h3
        · rw [List.getElem?_eq_none (by rw [List.length_set]; omega)] at h4
          cases h4
      · rw [get_set_ne hj] at h1 h3
        rw [get_set_ne hk] at h2 h4
        exact S.inj j k es fs m h1 h2 h3 h4
/-- a slot is emptied -/
theorem Sig.setEmp (S : Sig K G0 H0 G ρ σ H) {i : Nat} {v : Option V} : Sig K G0 H0 G (ρ.set i .emp) (σ.set i v) H := by
  have nj : ∀ m s, s ≠ Slot.emp → (ρ.set i .emp)[m]? = some s → i ≠ m := fun m s hs hm z => by
    subst z
    by_cases hl : i < ρ.length
    · rw [get_set_eq hl] at hm
      exact hs (Option.some.inj hm).symm
    · rw [List.getElem?_eq_none (by rw [List.length_set]; omega)] at hm
      cases hm
  refine ⟨S.ev, by rw [List.length_set, List.length_set]; exact S.len, fun j e h => ?_, fun j es h => ?_, fun j k es fs m h1 h2 h3 h4 => ?_⟩
  · have n := nj j (.val e) (fun z => nomatch z) h
    rw [get_set_ne n] at h ⊢
    exact S.val j e h
  · have n := nj j (.own es) (fun z => nomatch z) h
    rw [get_set_ne n] at h ⊢
    exact S.own j es h
  · have n1 := nj j (.own es) (fun z => nomatch z) h1
    have n2 := nj k (.own fs) (fun z => nomatch z) h2
    rw [get_set_ne n1] at h1 h3
    rw [get_set_ne n2] at h2 h4
    exact S.inj j k es fs m h1 h2 h3 h4
/-- a list of one's own is changed -/
theorem Sig.chg (S : Sig K G0 H0 G ρ σ H) {i : Nat} {l : Addr} {ds es : List D} {ys : List V} (hi : ρ[i]? = some (.own ds)) (hs : σ[i]? = some (some (.ref l))) (r : Rps K G ys es) :
    Sig K G0 H0 G (ρ.set i (.own es)) σ (upd H l (.lst ys)) := by
  obtain ⟨l', xs, h1, h2, h3, h4, h5⟩ := S.own i ds hi
  have e : l' = l := by
    rw [hs] at h1
    exact (V.ref.inj (Option.some.inj (Option.some.inj h1))).symm
  subst e
  have hlt : i < ρ.length := (List.getElem?_eq_some_iff.mp hi).1
  refine ⟨⟨fun b u q => ?_, S.ev.gs, fun b u q => ?_, S.ev.new⟩, by rw [List.length_set]; exact S.len, fun j e h => ?_, fun j fs h => ?_, fun j k fs gs m q1 q2 q3 q4 => ?_⟩
  · rw [upd_ne (ne_of_none q h2)]
    exact S.ev.hs b u q
  · rw [upd_ne (ne_of_none q h3)]
    exact S.ev.sub b u q
  · by_cases hj : i = j
    · subst hj
      rw [get_set_eq hlt] at h
      cases h
    · rw [get_set_ne hj] at h
      exact S.val j e h
  · by_cases hj : i = j
    · subst hj
      rw [get_set_eq hlt] at h
      have z := Slot.own.inj (Option.some.inj h)
      subst z
      exact ⟨l', ys, hs, h2, h3, upd_same, r⟩
    · rw [get_set_ne hj] at h
      obtain ⟨m, zs, k1, k2, k3, k4, k5⟩ := S.own j fs h
      refine ⟨m, zs, k1, k2, k3, ?_, k5⟩
      rw [upd_ne]
      · exact k4
      · intro z
        subst z
        exact hj (S.inj i j ds fs m hi h hs k1)
  · have old : ∀ m fs, (ρ.set i (Slot.own es))[m]? = some (Slot.own fs) → ∃ fs', ρ[m]? = some (Slot.own fs') := fun m fs q => by
      by_cases hm : i = m
      · subst hm
        exact ⟨ds, hi⟩
      · rw [get_set_ne hm] at q
        exact ⟨fs, q⟩
    obtain ⟨_, o1⟩ := old j fs q1
    obtain ⟨_, o2⟩ := old k gs q2
    exact S.inj j k _ _ m o1 o2 q3 q4
/-- a list of one's own is shared from now on -/
theorem Sig.freeze (S : Sig K G0 H0 G ρ σ H) {i : Nat} {ds : List D} (hi : ρ[i]? = some (.own ds)) : ∃ G', Same G G' ∧ Sig K G0 H0 G' (ρ.set i (.val (.lst ds))) σ H := by
  obtain ⟨l, xs, h1, h2, h3, h4, h5⟩ := S.own i ds hi
  have hlt : i < ρ.length := (List.getElem?_eq_some_iff.mp hi).1
  have e : Same G (upd G l (.lst xs)) := fun b u q => by
    rw [upd_ne (ne_of_none q h3)]
    exact q
  refine ⟨upd G l (.lst xs), e, ⟨S.ev.hs, S.ev.gs.trans e, fun b u q => ?_, fun b ys q g => ?_⟩, by rw [List.length_set]; exact S.len, fun j d h => ?_, fun j fs h => ?_, fun j k fs gs m q1 q2 q3 q4 => ?_⟩
  · by_cases hb : b = l
    · subst hb
      rw [upd_same] at q
      rw [h4]
      exact q
    · rw [upd_ne hb] at q
      exact S.ev.sub b u q
  · rw [upd_ne (ne_of_none q h2)]
    exact S.ev.new b ys q g
  · by_cases hj : i = j
    · subst hj
      rw [get_set_eq hlt] at h
      have z := Slot.val.inj (Option.some.inj h)
      subst z
      exact ⟨_, h1, .lst upd_same (h5.mono e)⟩
    · rw [get_set_ne hj] at h
      obtain ⟨v, k1, k2⟩ := S.val j d h
      exact ⟨v, k1, k2.mono e⟩
  · by_cases hj : i = j
    · subst hj
      rw [get_set_eq hlt] at h
      cases h
    · rw [get_set_ne hj] at h
      obtain ⟨m, zs, k1, k2, k3, k4, k5⟩ := S.own j fs h
      refine ⟨m, zs, k1, k2, ?_, k4, k5.mono e⟩
      rw [upd_ne]
      · exact k3
      · intro z
        subst z
        exact hj (S.inj i j ds fs m hi h h1 k1)
  · have old : ∀ m fs, (ρ.set i (Slot.val (.lst ds)))[m]? = some (Slot.own fs) → ∃ fs', ρ[m]? = some (Slot.own fs') := fun m fs q => by
      by_cases hm : i = m
      · subst hm
        exact ⟨ds, hi⟩
      · rw [get_set_ne hm] at q
        exact ⟨fs, q⟩
    obtain ⟨_, o1⟩ := old j fs q1
    obtain ⟨_, o2⟩ := old k gs q2
    exact S.inj j k _ _ m o1 o2 q3 q4
end

/-! ### results and judgements -/
inductive Res where
  | val (d : D) | own (ds : List D) | bor (ds : List D)
def Res.dat : Res → D
  | .val d => d
  | .own ds => .lst ds
  | .bor ds => .lst ds
def ROk (K : PySem.W.Frag) (H G' H' : Hp) (v : V) : Res → Prop
  | .val d => Rp K G' v d
  | .own ds => ∃ l xs, v = .ref l ∧ H l = none ∧ G' l = none ∧ H' l = some (.lst xs) ∧ Rps K G' xs ds
  | .bor ds => ∃ l xs, v = .ref l ∧ G' l = none ∧ H' l = some (.lst xs) ∧ Rps K G' xs ds
inductive ROks (K : PySem.W.Frag) (H G' H' : Hp) : List V → List Res → Prop
  | nil : ROks K H G' H' [] []
  | cons {v : V} {vs : List V} {r : Res} {rs : List Res} : ROk K H G' H' v r → ROks K H G' H' vs rs → ROks K H G' H' (v :: vs) (r :: rs)
section
variable {K : PySem.W.Frag} {H G1 H1 G2 H2 : Hp}
theorem ROk.step {v : V} : ∀ {r : Res}, ROk K H G1 H1 v r → Ev G1 H1 G2 H2 → ROk K H G2 H2 v r
  | .val d, h, e => Rp.mono e.gs h
  | .own ds, ⟨l, xs, h1, h2, h3, h4, h5⟩, e => ⟨l, xs, h1, h2, e.new l xs h4 h3, e.hs _ _ h4, h5.mono e.gs⟩
  | .bor ds, ⟨l, xs, h1, h3, h4, h5⟩, e => ⟨l, xs, h1, e.new l xs h4 h3, e.hs _ _ h4, h5.mono e.gs⟩
theorem ROk.rd {v : V} (s : Same G1 H1) : ∀ {r : Res}, ROk K H G1 H1 v r → Rp K H1 v r.dat
  | .val d, h => Rp.mono s h
  | .own ds, ⟨l, xs, h1, h2, h3, h4, h5⟩ => by
    subst h1
    exact .lst h4 (h5.mono s)
  | .bor ds, ⟨l, xs, h1, h3, h4, h5⟩ => by
    subst h1
    exact .lst h4 (h5.mono s)
theorem ROk.from {H0 : Hp} {v : V} (s : ∀ l, H l = none → H0 l = none) : ∀ {r : Res}, ROk K H G1 H1 v r → ROk K H0 G1 H1 v r
  | .val d, h => h
  | .own ds, ⟨l, xs, h1, h2, h3, h4, h5⟩ => ⟨l, xs, h1, s l h2, h3, h4, h5⟩
  | .bor ds, h => h
theorem ROks.step : ∀ {vs : List V} {rs : List Res}, ROks K H G1 H1 vs rs → Ev G1 H1 G2 H2 → ROks K H G2 H2 vs rs
  | _, _, .nil, _ => .nil
  | _, _, .cons h t, e => .cons (h.step e) (ROks.step t e)
theorem ROks.from {H0 : Hp} (s : ∀ l, H l = none → H0 l = none) : ∀ {vs : List V} {rs : List Res}, ROks K H G1 H1 vs rs → ROks K H0 G1 H1 vs rs
  | _, _, .nil => .nil
  | _, _, .cons h t => .cons (h.from s) (ROks.from s t)
theorem ROks.rd (s : Same G1 H1) : ∀ {vs : List V} {rs : List Res}, ROks K H G1 H1 vs rs → Rps K H1 vs (rs.map Res.dat)
  | _, _, .nil => .nil
  | _, _, .cons h t => .cons (h.rd s) (ROks.rd s t)
end
/-- what may be raised, and what is wanted of it -/
def Lk (K : PySem.W.Frag) (Ex : Value → List Slot → Prop) (E : L2.St → XK) (G0 H0 : Hp) : Prop := ∀ c ρ, Ex c ρ → ∀ (G : Hp) (σ : L2.St) (H : Hp) (dx : Option Addr), Sig K G0 H0 G ρ σ H → DxOk dx H → E σ c dx H
/-- an expression -/
def tE (K : PySem.W.Frag) (Ex : Value → List Slot → Prop) (E : L2.St → XK) (t : TE) (ρ : List Slot) (R : Res → Prop) : Prop :=
  ∀ (G0 H0 G : Hp) (σ : L2.St) (H : Hp) (Q : VK), Sig K G0 H0 G ρ σ H → Lk K Ex E G0 H0 →
    (∀ r, R r → ∀ (v : V) (G' H' : Hp), Ev G H G' H' → ROk K H G' H' v r → Q v H') → t σ H Q
/-- a test -/
def tT (K : PySem.W.Frag) (Ex : Value → List Slot → Prop) (E : L2.St → XK) (t : TT) (ρ : List Slot) (R : Bool → Prop) : Prop :=
  ∀ (G0 H0 G : Hp) (σ : L2.St) (H : Hp) (Q : Bool → Hp → Prop), Sig K G0 H0 G ρ σ H → Lk K Ex E G0 H0 →
    (∀ b, R b → ∀ (G' H' : Hp), Ev G H G' H' → Q b H') → t σ H Q
/-- arguments, each as it comes -/
def tA (K : PySem.W.Frag) (Ex : Value → List Slot → Prop) (E : L2.St → XK) (t : TA) (ρ : List Slot) (R : List Res → Prop) : Prop :=
  ∀ (G0 H0 G : Hp) (σ : L2.St) (H : Hp) (Q : List V → Hp → Prop), Sig K G0 H0 G ρ σ H → Lk K Ex E G0 H0 →
    (∀ rs, R rs → ∀ (vs : List V) (G' H' : Hp), Ev G H G' H' → ROks K H G' H' vs rs → Q vs H') → t σ H Q
/-- an expression whose value is shared from then on -/
def tV (K : PySem.W.Frag) (Ex : Value → List Slot → Prop) (E : L2.St → XK) (t : TE) (ρ : List Slot) (R : D → Prop) : Prop :=
  ∀ (G0 H0 G : Hp) (σ : L2.St) (H : Hp) (Q : VK), Sig K G0 H0 G ρ σ H → Lk K Ex E G0 H0 →
    (∀ d, R d → ∀ (v : V) (G' H' : Hp), Ev G H G' H' → Rp K G' v d → Q v H') → t σ H Q
def tVs (K : PySem.W.Frag) (Ex : Value → List Slot → Prop) (E : L2.St → XK) (t : TA) (ρ : List Slot) (R : List D → Prop) : Prop :=
  ∀ (G0 H0 G : Hp) (σ : L2.St) (H : Hp) (Q : List V → Hp → Prop), Sig K G0 H0 G ρ σ H → Lk K Ex E G0 H0 →
    (∀ ds, R ds → ∀ (vs : List V) (G' H' : Hp), Ev G H G' H' → Rps K G' vs ds → Q vs H') → t σ H Q
/-- what is wanted behind a statement, by data -/
structure DE where
  nx : List Slot → Prop
  rt : Res → Prop
  bk : List Slot → Prop := fun _ => False
  ct : List Slot → Prop := fun _ => False
structure EndsOk (K : PySem.W.Frag) (G0 H0 : Hp) (De : DE) (D : Ends) : Prop where
  nx : ∀ (ρ : List Slot) (G : Hp) (σ : L2.St) (H : Hp), De.nx ρ → Sig K G0 H0 G ρ σ H → D.nx σ H
  rt : ∀ (r : Res) (v : V) (G H : Hp), De.rt r → Ev G0 H0 G H → ROk K H0 G H v r → D.rt v H
  bk : ∀ (ρ : List Slot) (G : Hp) (σ : L2.St) (H : Hp), De.bk ρ → Sig K G0 H0 G ρ σ H → D.bk σ H
  ct : ∀ (ρ : List Slot) (G : Hp) (σ : L2.St) (H : Hp), De.ct ρ → Sig K G0 H0 G ρ σ H → D.ct σ H
def tS (K : PySem.W.Frag) (Ex : Value → List Slot → Prop) (E : L2.St → XK) (t : TS) (ρ : List Slot) (De : DE) : Prop :=
  ∀ (G0 H0 G : Hp) (σ : L2.St) (H : Hp) (D : Ends), Sig K G0 H0 G ρ σ H → Lk K Ex E G0 H0 → EndsOk K G0 H0 De D → t D σ H
end Y
end

section
namespace Y
open PySem PySem.Spec PyProof.Rows L2
/-- ρ' is ρ with s in slot i -/
inductive SS : List Slot → Nat → Slot → List Slot → Prop
  | zero {x s : Slot} {r : List Slot} : SS (x :: r) 0 s (s :: r)
  | succ {x s : Slot} {r r' : List Slot} {i : Nat} : SS r i s r' → SS (x :: r) (i + 1) s (x :: r')
theorem SS.eq : ∀ {ρ ρ' : List Slot} {i : Nat} {s : Slot}, SS ρ i s ρ' → ρ' = ρ.set i s
  | _, _, _, _, .zero => rfl
  | _, _, _, _, .succ h => by rw [SS.eq h]; rfl
/-- scalars: the same in every heap -/
def Sc (v : V) (d : D) : Prop := ∀ K G, Rp K G v d
theorem sc_int {i : Int} : Sc (.int i) (.int i) := fun _ _ => .int i
theorem sc_bl {b : Bool} : Sc (.bl b) (.bl b) := fun _ _ => .bl b
theorem sc_str {x : Str} : Sc (.str x) (.str x) := fun _ _ => .str x
theorem sc_non : Sc .non .non := fun _ _ => .non
theorem sc_ty {n : String} : Sc (.ty n) (.ty n) := fun _ _ => .ty n
section inv
variable {K : PySem.W.Frag} {G : Hp} {v : V}
theorem Rp.inv_int {i : Int} (h : Rp K G v (.int i)) : v = .int i := by cases h; rfl
theorem Rp.inv_bl {b : Bool} (h : Rp K G v (.bl b)) : v = .bl b := by cases h; rfl
theorem Rp.inv_str {x : Str} (h : Rp K G v (.str x)) : v = .str x := by cases h; rfl
theorem Rp.inv_non (h : Rp K G v .non) : v = .non := by cases h; rfl
theorem Rp.inv_ty {n : String} (h : Rp K G v (.ty n)) : v = .ty n := by cases h; rfl
theorem Rp.inv_cls {C : Addr} (h : Rp K G v (.cls C)) : v = .ref C := by cases h; rfl
theorem Rp.inv_tup {ds : List D} (h : Rp K G v (.tup ds)) : ∃ a xs, v = .ref a ∧ SqT K G a xs ∧ Rps K G xs ds := by cases h with | tup h r => exact ⟨_, _, rfl, h, r⟩
theorem Rp.inv_lst {ds : List D} (h : Rp K G v (.lst ds)) : ∃ a xs, v = .ref a ∧ G a = some (.lst xs) ∧ Rps K G xs ds := by cases h with | lst h r => exact ⟨_, _, rfl, h, r⟩
theorem Rp.inv_fz {ds : List D} (h : Rp K G v (.fz ds)) : ∃ a xs, v = .ref a ∧ SqL K G a xs ∧ Rps K G xs ds := by cases h with | fz h r => exact ⟨_, _, rfl, h, r⟩
theorem Rp.inv_exc {C : Addr} (h : Rp K G v (.exc C)) : ∃ a dx, v = .ref a ∧ G a = some (ExcO C dx a) ∧ DxOk dx G := by cases h with | exc h hd => exact ⟨_, _, rfl, h, hd⟩
end inv
/-- a value that is shared -/
def vR (R : D → Prop) : Res → Prop
  | .val d => R d
  | .own ds => R (.lst ds)
  | .bor _ => False
/-- a value that is put into a slot -/
def asgR (k : Slot → Prop) : Res → Prop
  | .val d => k (.val d)
  | .own ds => k (.own ds)
  | .bor _ => False

section
variable {K : PySem.W.Frag} {Ex : Value → List Slot → Prop} {E : L2.St → XK} {ρ : List Slot} {R : Res → Prop}
theorem tE.imp {t : TE} {R R' : Res → Prop} (h : tE K Ex E t ρ R) (q : ∀ r, R r → R' r) : tE K Ex E t ρ R' := fun G0 H0 G σ H Q S X k => h G0 H0 G σ H Q S X fun r hr => k r (q r hr)
theorem e_val {i : Nat} {d : D} (hi : ρ[i]? = some (.val d)) (h : R (.val d)) : tE K Ex E (tVar i) ρ R := fun G0 H0 G σ H Q S X k => by
  obtain ⟨v, h1, h2⟩ := S.val i d hi
  exact ⟨v, h1, k (.val d) h v G H (Ev.refl S.ev.sub) h2⟩
theorem e_own {i : Nat} {ds : List D} (hi : ρ[i]? = some (.own ds)) (h : R (.bor ds)) : tE K Ex E (tVar i) ρ R := fun G0 H0 G σ H Q S X k => by
  obtain ⟨l, xs, h1, h2, h3, h4, h5⟩ := S.own i ds hi
  exact ⟨_, h1, k (.bor ds) h _ G H (Ev.refl S.ev.sub) ⟨l, xs, rfl, h3, h4, h5⟩⟩
theorem e_c {v : V} {d : D} (s : Sc v d) (h : R (.val d)) : tE K Ex E (tC v) ρ R := fun G0 H0 G σ H Q S X k => k (.val d) h v G H (Ev.refl S.ev.sub) (s K G)
theorem e_int {i : Int} (h : R (.val (.int i))) : tE K Ex E (tC (.int i)) ρ R := e_c sc_int h
theorem e_bl {b : Bool} (h : R (.val (.bl b))) : tE K Ex E (tC (.bl b)) ρ R := e_c sc_bl h
theorem e_str {x : Str} (h : R (.val (.str x))) : tE K Ex E (tC (.str x)) ρ R := e_c sc_str h
theorem e_non (h : R (.val .non)) : tE K Ex E (tC .non) ρ R := e_c sc_non h
theorem e_ty {n : String} (h : R (.val (.ty n))) : tE K Ex E (tC (.ty n)) ρ R := e_c sc_ty h
theorem e_cls {C : Addr} (h : R (.val (.cls C))) : tE K Ex E (tC (.ref C)) ρ R := e_c (fun _ _ => .cls C) h
/-- operators of scalars -/
def OpS (K : PySem.W.Frag) (r : R2) (f : D → D → (D → Prop) → Prop) : Prop :=
  ∀ (H : Hp) (x y : V) (d e : D) (Q : VK) (k : D → Prop), Rp K H x d → Rp K H y e → f d e k → (∀ d' v, k d' → Sc v d' → Q v H) → r x y H Q
theorem e_op {r : R2} {f : D → D → (D → Prop) → Prop} {ta tb : TE} (o : OpS K r f) (h : tE K Ex E ta ρ fun a => tE K Ex E tb ρ fun b => f a.dat b.dat fun d => R (.val d)) : tE K Ex E (tOp r ta tb) ρ R :=
  fun G0 H0 G σ H Q S X k => h G0 H0 G σ H _ S X fun a ha v G1 H1 e1 r1 => ha G0 H0 G1 σ H1 _ (S.step e1) X fun b hb u G2 H2 e2 r2 =>
    o H2 v u a.dat b.dat Q _ ((r1.step e2).rd e2.sub) (r2.rd e2.sub) hb fun d' w hk hs => k (.val d') hk w G2 H2 (e1.trans e2) (hs K G2)
def UnS (K : PySem.W.Frag) (r : V → Hp → VK → Prop) (f : D → (D → Prop) → Prop) : Prop :=
  ∀ (H : Hp) (x : V) (d : D) (Q : VK) (k : D → Prop), Rp K H x d → f d k → (∀ d' v, k d' → Sc v d' → Q v H) → r x H Q
theorem e_un {r : V → Hp → VK → Prop} {f : D → (D → Prop) → Prop} {ta : TE} (o : UnS K r f) (h : tE K Ex E ta ρ fun a => f a.dat fun d => R (.val d)) : tE K Ex E (tUn r ta) ρ R :=
  fun G0 H0 G σ H Q S X k => h G0 H0 G σ H _ S X fun a ha v G1 H1 e1 r1 =>
    o H1 v a.dat Q _ (r1.rd e1.sub) ha fun d' w hk hs => k (.val d') hk w G1 H1 e1 (hs K G1)
theorem e_and {ta tb : TE} (h : tE K Ex E ta ρ fun a => ∃ c, a.dat = .bl c ∧ (c = true → tE K Ex E tb ρ R) ∧ (c = false → R (.val (.bl false)))) : tE K Ex E (tAndV ta tb) ρ R :=
  fun G0 H0 G σ H Q S X k => h G0 H0 G σ H _ S X fun a ⟨c, hd, h1, h2⟩ v G1 H1 e1 r1 => by
    have r := r1.rd e1.sub
    rw [hd] at r
    refine ⟨c, r.inv_bl, ?_⟩
    cases c with
    | true => exact iteT ((h1 rfl) G0 H0 G1 σ H1 Q (S.step e1) X fun b hb u G2 H2 e2 r2 => k b hb u G2 H2 (e1.trans e2) (r2.from fun l n => e1.hs.free n))
    | false => exact iteF (k _ (h2 rfl) _ G1 H1 e1 (.bl false))
theorem e_or {ta tb : TE} (h : tE K Ex E ta ρ fun a => ∃ c, a.dat = .bl c ∧ (c = false → tE K Ex E tb ρ R) ∧ (c = true → R (.val (.bl true)))) : tE K Ex E (tOrV ta tb) ρ R :=
  fun G0 H0 G σ H Q S X k => h G0 H0 G σ H _ S X fun a ⟨c, hd, h1, h2⟩ v G1 H1 e1 r1 => by
    have r := r1.rd e1.sub
    rw [hd] at r
    refine ⟨c, r.inv_bl, ?_⟩
    cases c with
    | false => exact iteF ((h1 rfl) G0 H0 G1 σ H1 Q (S.step e1) X fun b hb u G2 H2 e2 r2 => k b hb u G2 H2 (e1.trans e2) (r2.from fun l n => e1.hs.free n))
    | true => exact iteT (k _ (h2 rfl) _ G1 H1 e1 (.bl true))
theorem e_not {ta : TE} (h : tE K Ex E ta ρ fun a => ∃ c, a.dat = .bl c ∧ R (.val (.bl (!c)))) : tE K Ex E (tNotV ta) ρ R :=
  fun G0 H0 G σ H Q S X k => h G0 H0 G σ H _ S X fun a ⟨c, hd, h1⟩ v G1 H1 e1 r1 => by
    have r := r1.rd e1.sub
    rw [hd] at r
    exact ⟨c, r.inv_bl, k _ h1 _ G1 H1 e1 (.bl _)⟩
theorem e_if {tc : TT} {ta tb : TE} (h : tT K Ex E tc ρ fun c => (c = true → tE K Ex E ta ρ R) ∧ (c = false → tE K Ex E tb ρ R)) : tE K Ex E (tIf tc ta tb) ρ R :=
  fun G0 H0 G σ H Q S X k => h G0 H0 G σ H _ S X fun c hc G1 H1 e1 => by
    have fin : ∀ {t : TE}, tE K Ex E t ρ R → t σ H1 Q := fun q => q G0 H0 G1 σ H1 Q (S.step e1) X fun b hb u G2 H2 e2 r2 => k b hb u G2 H2 (e1.trans e2) (r2.from fun l n => e1.hs.free n)
    cases c with
    | true => exact iteT (fin (hc.1 rfl))
    | false => exact iteF (fin (hc.2 rfl))
/-- a op b op' c -/
theorem e_chain {r r' : R2} {f f' : D → D → (D → Prop) → Prop} {ta tb tc : TE} (o : OpS K r f) (o' : OpS K r' f')
    (h : tE K Ex E ta ρ fun a => tE K Ex E tb ρ fun b => f a.dat b.dat fun d => ∃ c, d = .bl c ∧ (c = true → tE K Ex E tc ρ fun z => f' b.dat z.dat fun d' => R (.val d')) ∧ (c = false → R (.val (.bl false)))) : tE K Ex E (tChain r r' ta tb tc) ρ R :=
  fun G0 H0 G σ H Q S X k => h G0 H0 G σ H _ S X fun a ha v G1 H1 e1 r1 => ha G0 H0 G1 σ H1 _ (S.step e1) X fun b hb u G2 H2 e2 r2 =>
    o H2 v u a.dat b.dat _ _ ((r1.step e2).rd e2.sub) (r2.rd e2.sub) hb fun d' w ⟨c, hd, h1, h2⟩ hs => by
      subst hd
      refine ⟨c, (hs K G2).inv_bl, ?_⟩
      cases c with
      | false => exact iteF (k _ (h2 rfl) _ G2 H2 (e1.trans e2) (.bl false))
      | true => exact iteT ((h1 rfl) G0 H0 G2 σ H2 _ ((S.step e1).step e2) X fun z hz w' G3 H3 e3 r3 =>
          o' H3 u w' b.dat z.dat Q _ ((r2.step e3).rd e3.sub) (r3.rd e3.sub) hz fun d'' w'' hk hs' => k (.val d'') hk w'' G3 H3 ((e1.trans e2).trans e3) (hs' K G3))
/-! tests -/
theorem t_test {t : TE} {R : Bool → Prop} (h : tE K Ex E t ρ fun a => ∃ c, a.dat = .bl c ∧ R c) : tT K Ex E (tTest t) ρ R :=
  fun G0 H0 G σ H Q S X k => h G0 H0 G σ H _ S X fun a ⟨c, hd, h1⟩ v G1 H1 e1 r1 => by
    have r := r1.rd e1.sub
    rw [hd] at r
    exact ⟨c, r.inv_bl, k c h1 G1 H1 e1⟩
theorem t_b {t : TE} {R : Bool → Prop} (h : tE K Ex E t ρ fun a => ∃ c, a.dat = .bl c ∧ R c) : tT K Ex E (tB t) ρ R := t_test h
theorem t_not {t : TT} {R : Bool → Prop} (h : tT K Ex E t ρ fun c => R (!c)) : tT K Ex E (tNot t) ρ R := fun G0 H0 G σ H Q S X k => h G0 H0 G σ H _ S X fun c hc G1 H1 e1 => k _ hc G1 H1 e1
theorem t_and {t u : TT} {R : Bool → Prop} (h : tT K Ex E t ρ fun c => (c = true → tT K Ex E u ρ R) ∧ (c = false → R false)) : tT K Ex E (tAnd t u) ρ R :=
  fun G0 H0 G σ H Q S X k => h G0 H0 G σ H _ S X fun c hc G1 H1 e1 => by
    cases c with
    | true => exact iteT ((hc.1 rfl) G0 H0 G1 σ H1 Q (S.step e1) X fun b hb G2 H2 e2 => k b hb G2 H2 (e1.trans e2))
    | false => exact iteF (k _ (hc.2 rfl) G1 H1 e1)
theorem t_or {t u : TT} {R : Bool → Prop} (h : tT K Ex E t ρ fun c => (c = false → tT K Ex E u ρ R) ∧ (c = true → R true)) : tT K Ex E (tOr t u) ρ R :=
  fun G0 H0 G σ H Q S X k => h G0 H0 G σ H _ S X fun c hc G1 H1 e1 => by
    cases c with
    | false => exact iteF ((hc.1 rfl) G0 H0 G1 σ H1 Q (S.step e1) X fun b hb G2 H2 e2 => k b hb G2 H2 (e1.trans e2))
    | true => exact iteT (k _ (hc.2 rfl) G1 H1 e1)
/-- the truth of data -/
def TrD : D → Bool → Prop
  | .non, k => k = false
  | .bl b, k => k = b
  | .int i, k => k = (i != 0)
  | .str y, k => y.length ≤ sizeLine ∧ k = ((y.length : Int) != 0)
  | .lst ds, k => k = !ds.isEmpty
  | .fz ds, k => k = !ds.isEmpty
  | .tup ds, k => k = !ds.isEmpty
  | _, _ => False
theorem isE {K : PySem.W.Frag} {G : Hp} {xs : List V} {ds : List D} (r : Rps K G xs ds) : xs.isEmpty = ds.isEmpty := by cases r <;> rfl
theorem trD_ok {H : Hp} {v : V} {d : D} {k : Bool} (r : Rp K H v d) (h : TrD d k) : TruV K v H k := by
  cases r with
  | non => exact h
  | bl b => exact h
  | int i => exact h
  | str x => exact h
  | ty n => exact h.elim
  | cls C => exact h.elim
  | tup s q => exact .inr (.inl ⟨_, s, by rw [isE q]; exact h⟩)
  | lst s q => exact .inl ⟨_, .inl (.inl s), by rw [isE q]; exact h⟩
  | fz s q => exact .inl ⟨_, s, by rw [isE q]; exact h⟩
  | exc s => exact h.elim
  | dk0 s => exact h.elim
  | pin s => exact h.elim
def tTru (K : PySem.W.Frag) (ta : TE) : TT := fun σ H Q => ta σ H fun x H' => ∃ k, TruV K x H' k ∧ Q k H'
theorem t_tru {ta : TE} {R : Bool → Prop} (h : tE K Ex E ta ρ fun a => ∃ c, TrD a.dat c ∧ R c) : tT K Ex E (tTru K ta) ρ R :=
  fun G0 H0 G σ H Q S X k => h G0 H0 G σ H _ S X fun a ⟨c, hd, h1⟩ v G1 H1 e1 r1 => ⟨c, trD_ok (r1.rd e1.sub) hd, k c h1 G1 H1 e1⟩
/-! arguments -/
theorem v_of {t : TE} {R : D → Prop} (h : tE K Ex E t ρ (vR R)) : tV K Ex E t ρ R :=
  fun G0 H0 G σ H Q S X k => h G0 H0 G σ H _ S X fun r hr v G1 H1 e1 r1 => by
    cases r with
    | val d => exact k d hr v G1 H1 e1 r1
    | own ds =>
      obtain ⟨l, xs, rfl, h2, h3, h4, h5⟩ := r1
      have gs : Same G1 (upd G1 l (.lst xs)) := fun b u q => by
        rw [upd_ne (ne_of_none q h3)]
        exact q
      refine k _ hr _ (upd G1 l (.lst xs)) H1 ⟨e1.hs, e1.gs.trans gs, fun b u q => ?_, fun b ys q g => ?_⟩ (.lst upd_same (h5.mono gs))
      · by_cases hb : b = l
        · subst hb
          rw [upd_same] at q
          rw [h4]
          exact q
        · rw [upd_ne hb] at q
          exact e1.sub b u q
      · rw [upd_ne (ne_of_none q h2)]
        exact e1.new b ys q g
    | bor ds => exact hr.elim
theorem vs_nil {R : List D → Prop} (h : R []) : tVs K Ex E tNil ρ R := fun G0 H0 G σ H Q S X k => k [] h [] G H (Ev.refl S.ev.sub) .nil
theorem vs_cons {t : TE} {tr : TA} {R : List D → Prop} (h : tE K Ex E t ρ (vR fun d => tVs K Ex E tr ρ fun ds => R (d :: ds))) : tVs K Ex E (tCons t tr) ρ R :=
  fun G0 H0 G σ H Q S X k => (v_of h) G0 H0 G σ H _ S X fun d hd v G1 H1 e1 r1 => hd G0 H0 G1 σ H1 _ (S.step e1) X fun ds hds vs G2 H2 e2 r2 => k (d :: ds) hds (v :: vs) G2 H2 (e1.trans e2) (.cons (r1.mono e2.gs) r2)
theorem a_nil {R : List Res → Prop} (h : R []) : tA K Ex E tNil ρ R := fun G0 H0 G σ H Q S X k => k [] h [] G H (Ev.refl S.ev.sub) .nil
theorem a_cons {t : TE} {tr : TA} {R : List Res → Prop} (h : tE K Ex E t ρ fun r => tA K Ex E tr ρ fun rs => R (r :: rs)) : tA K Ex E (tCons t tr) ρ R :=
  fun G0 H0 G σ H Q S X k => h G0 H0 G σ H _ S X fun r hr v G1 H1 e1 r1 => hr G0 H0 G1 σ H1 _ (S.step e1) X fun rs hrs vs G2 H2 e2 r2 => k (r :: rs) hrs (v :: vs) G2 H2 (e1.trans e2) (.cons (r1.step e2) (r2.from fun l n => e1.hs.free n))
theorem e_tup {t : TA} (h : tVs K Ex E t ρ fun ds => ds.length ≤ sizeLine ∧ R (.val (.tup ds))) : tE K Ex E (tTup t) ρ R :=
  fun G0 H0 G σ H Q S X k => h G0 H0 G σ H _ S X fun ds ⟨hl, hr⟩ vs G1 H1 e1 r1 => ⟨by rw [r1.length]; exact hl, fun p np =>
    k _ hr _ (upd G1 p (.tup vs)) _ (e1.trans (Ev.laid e1.sub np)) (.tup (.inl (.inl upd_same)) (r1.mono (Ev.laid (o := .tup vs) e1.sub np).gs))⟩
theorem e_lst {t : TA} (h : tVs K Ex E t ρ fun ds => ds.length ≤ sizeLine ∧ R (.own ds)) : tE K Ex E (tLst t) ρ R :=
  fun G0 H0 G σ H Q S X k => h G0 H0 G σ H _ S X fun ds ⟨hl, hr⟩ vs G1 H1 e1 r1 => ⟨by rw [r1.length]; exact hl, fun p np =>
    k _ hr _ G1 _ (e1.trans (Ev.own e1.sub np)) ⟨p, vs, rfl, e1.hs.free np, e1.sub.free np, upd_same, r1⟩⟩
/-! built-ins of scalars' results -/
def CbS (K : PySem.W.Frag) (r : List V → Hp → VK → Prop) (f : List D → (D → Prop) → Prop) : Prop :=
  ∀ (H : Hp) (vs : List V) (ds : List D) (Q : VK) (k : D → Prop), Rps K H vs ds → f ds k → (∀ d' v, k d' → Sc v d' → Q v H) → r vs H Q
theorem e_cb {r : List V → Hp → VK → Prop} {f : List D → (D → Prop) → Prop} {t : TA} (o : CbS K r f) (h : tA K Ex E t ρ fun rs => f (rs.map Res.dat) fun d => R (.val d)) : tE K Ex E (tCB r t) ρ R :=
  fun G0 H0 G σ H Q S X k => h G0 H0 G σ H _ S X fun rs hrs vs G1 H1 e1 r1 => o H1 vs _ Q _ (r1.rd e1.sub) hrs fun d' w hk hs => k (.val d') hk w G1 H1 e1 (hs K G1)
/-! items -/
def IxD (a : D) (i : Int) (d : D) : Prop := match a with
  | .tup ds => atI ds i = some d
  | .lst ds => atI ds i = some d
  | .fz ds => atI ds i = some d
  | .str z => z.length ≤ sizeLine ∧ ∃ c, atI z.cps.toList i = some c ∧ d = .str ⟨#[c]⟩
  | _ => False
theorem Rps.at {G : Hp} {xs : List V} {ds : List D} {i : Int} {d : D} (r : Rps K G xs ds) (h : atI ds i = some d) : ∃ v, atI xs i = some v ∧ Rp K G v d := by
  unfold atI at h ⊢
  rw [r.length]
  cases e : ixN ds.length i with
  | none => rw [e] at h; cases h
  | some j =>
    rw [e] at h
    exact r.get j h
theorem e_ix {ta tb : TE} (h : tE K Ex E ta ρ fun a => tE K Ex E tb ρ fun b => ∃ i d, b.dat = .int i ∧ IxD a.dat i d ∧ R (.val d)) : tE K Ex E (tOp (rIx K) ta tb) ρ R :=
  fun G0 H0 G σ H Q S X k => h G0 H0 G σ H _ S X fun a ha v G1 H1 e1 r1 => ha G0 H0 G1 σ H1 _ (S.step e1) X fun b hb u G2 H2 e2 r2 => by
    obtain ⟨i, d, hi, hx, hr⟩ := hb
    have hu := r2.rd e2.sub
    rw [hi] at hu
    have hu := hu.inv_int
    subst hu
    have r1 := r1.step e2
    have fin : ∀ w, Rp K G2 w d → Q w H2 := fun w q => k (.val d) hr w G2 H2 (e1.trans e2) q
    have lst : ∀ (l : Addr) (xs : List V) (ds : List D), SqL K H2 l xs → Rps K G2 xs ds → atI ds i = some d → rIx K (.ref l) (.int i) H2 Q := fun l xs ds s q z => by
      obtain ⟨w, hw, rw'⟩ := q.at z
      exact .inl ⟨l, xs, i, w, rfl, rfl, s, hw, fin w rw'⟩
    cases a with
    | val a =>
      cases (show Rp K G2 v a from r1) with
      | tup s q =>
        obtain ⟨w, hw, rw'⟩ := q.at (show atI _ i = some d from hx)
        exact .inr (.inl ⟨_, _, i, w, rfl, rfl, same_seqT e2.sub s, hw, fin w rw'⟩)
      | lst s q => exact lst _ _ _ (.inl (.inl (e2.sub _ _ s))) q hx
      | fz s q => exact lst _ _ _ (e2.sub.seq s) q hx
      | str z =>
        obtain ⟨hz, c, hc, hd⟩ := hx
        subst hd
        exact .inr (.inr ⟨z, i, c, rfl, rfl, hz, hc, fin _ (.str _)⟩)
      | non => exact hx.elim
      | bl _ => exact hx.elim
      | int _ => exact hx.elim
      | ty _ => exact hx.elim
      | cls _ => exact hx.elim
      | exc _ => exact hx.elim
      | dk0 _ => exact hx.elim
      | pin _ => exact hx.elim
    | own ds =>
      obtain ⟨l, xs, rfl, h2, h3, h4, h5⟩ := r1
      exact lst l xs ds (.inl (.inl h4)) h5 hx
    | bor ds =>
      obtain ⟨l, xs, rfl, h3, h4, h5⟩ := r1
      exact lst l xs ds (.inl (.inl h4)) h5 hx
/-! slices -/
def tOo (K : PySem.W.Frag) (Ex : Value → List Slot → Prop) (E : L2.St → XK) (t : TO) (ρ : List Slot) (R : Option Int → Prop) : Prop :=
  ∀ (G0 H0 G : Hp) (σ : L2.St) (H : Hp) (Q : Option Int → Hp → Prop), Sig K G0 H0 G ρ σ H → Lk K Ex E G0 H0 →
    (∀ o, R o → ∀ (G' H' : Hp), Ev G H G' H' → Q o H') → t σ H Q
theorem o_none {R : Option Int → Prop} (h : R none) : tOo K Ex E tNoPart ρ R := fun G0 H0 G σ H Q S X k => k none h G H (Ev.refl S.ev.sub)
theorem o_some {t : TE} {R : Option Int → Prop} (h : tE K Ex E t ρ fun a => ∃ i, a.dat = .int i ∧ R (some i)) : tOo K Ex E (tPart t) ρ R :=
  fun G0 H0 G σ H Q S X k => h G0 H0 G σ H _ S X fun a ⟨i, hd, h1⟩ v G1 H1 e1 r1 => by
    have r := r1.rd e1.sub
    rw [hd] at r
    exact ⟨i, r.inv_int, k (some i) h1 G1 H1 e1⟩
def cutD (ds : List D) (lo hi : Option Int) : List D := (ds.drop (HT.sIx ds.length 0 lo)).take (HT.sIx ds.length ds.length hi - HT.sIx ds.length 0 lo)
theorem Rps.cut {G : Hp} {xs : List V} {ds : List D} (r : Rps K G xs ds) (lo hi : Option Int) : Rps K G (cutV xs lo hi) (cutD ds lo hi) := by
  unfold cutV cutD
  rw [r.length]
  exact (r.drop _).take _
/-- what a slice gives -/
def SlD (a : D) (lo hi : Option Int) (R : Res → Prop) : Prop := match a with
  | .lst ds => R (.own (cutD ds lo hi))
  | .fz ds => R (.own (cutD ds lo hi))
  | .str z => z.length ≤ sizeLine ∧ R (.val (.str (cutS z lo hi)))
  | _ => False
def rSlU (K : PySem.W.Frag) : V → Option Int → Option Int → Hp → VK → Prop := fun x lo hi H Q => rSlL K x lo hi H Q ∨ rSlS x lo hi H Q
theorem e_sl {ta : TE} {tl th : TO} (h : tE K Ex E ta ρ fun a => tOo K Ex E tl ρ fun lo => tOo K Ex E th ρ fun hi => SlD a.dat lo hi R) : tE K Ex E (tSl (rSlU K) ta tl th) ρ R :=
  fun G0 H0 G σ H Q S X k => h G0 H0 G σ H _ S X fun a ha v G1 H1 e1 r1 => ha G0 H0 G1 σ H1 _ (S.step e1) X fun lo hlo G2 H2 e2 => hlo G0 H0 G2 σ H2 _ ((S.step e1).step e2) X fun hi hhi G3 H3 e3 => by
    have e := (e1.trans e2).trans e3
    have r1 := (r1.step e2).step e3
    have lst : ∀ (l : Addr) (xs : List V) (ds : List D), SqL K H3 l xs → Rps K G3 xs ds → R (.own (cutD ds lo hi)) → rSlU K (.ref l) lo hi H3 Q := fun l xs ds s q z =>
      .inl ⟨l, xs, rfl, s, fun p np => k _ z _ G3 _ (e.trans (Ev.own e3.sub np)) ⟨p, _, rfl, e.hs.free np, e3.sub.free np, upd_same, q.cut lo hi⟩⟩
    cases a with
    | val a =>
      cases (show Rp K G3 v a from r1) with
      | tup s q => exact hhi.elim
      | lst s q => exact lst _ _ _ (.inl (.inl (e3.sub _ _ s))) q hhi
      | fz s q => exact lst _ _ _ (e3.sub.seq s) q hhi
      | str z => exact .inr ⟨z, rfl, hhi.1, k _ hhi.2 _ G3 H3 e (.str _)⟩
      | non => exact hhi.elim
      | bl _ => exact hhi.elim
      | int _ => exact hhi.elim
      | ty _ => exact hhi.elim
      | cls _ => exact hhi.elim
      | exc _ => exact hhi.elim
      | dk0 _ => exact hhi.elim
      | pin _ => exact hhi.elim
    | own ds =>
      obtain ⟨l, xs, rfl, h2, h3, h4, h5⟩ := r1
      exact lst l xs ds (.inl (.inl h4)) h5 hhi
    | bor ds =>
      obtain ⟨l, xs, rfl, h3, h4, h5⟩ := r1
      exact lst l xs ds (.inl (.inl h4)) h5 hhi
/-! + of ints, texts, lists -/
def rAddU : R2 := fun x y H Q => rI0 (fun i j => .int (i + j)) x y H Q ∨ (∃ i j, x = .str i ∧ y = .str j ∧ i.length + j.length ≤ sizeLine ∧ Q (.str (i ++ j)) H) ∨ rCat x y H Q
def AddD (a b : D) (R : Res → Prop) : Prop :=
  (∃ i j, a = .int i ∧ b = .int j ∧ R (.val (.int (i + j)))) ∨ (∃ x y, a = .str x ∧ b = .str y ∧ x.length + y.length ≤ sizeLine ∧ R (.val (.str (x ++ y)))) ∨
    ∃ ds es, a = .lst ds ∧ b = .lst es ∧ ds.length + es.length ≤ sizeLine ∧ R (.own (ds ++ es))
/-- a list, wherever it comes from -/
theorem ROk.list {H G' H' : Hp} {v : V} {ds : List D} (s : Same G' H') : ∀ {r : Res}, ROk K H G' H' v r → r.dat = .lst ds → ∃ l xs, v = .ref l ∧ H' l = some (.lst xs) ∧ Rps K G' xs ds
  | .val d, h, e => by
    have e' : d = .lst ds := e
    subst e'
    obtain ⟨l, xs, h1, h2, h3⟩ := Rp.inv_lst h
    exact ⟨l, xs, h1, s _ _ h2, h3⟩
  | .own es, ⟨l, xs, h1, _, _, h4, h5⟩, e => by
    have e' := D.lst.inj e
    subst e'
    exact ⟨l, xs, h1, h4, h5⟩
  | .bor es, ⟨l, xs, h1, _, h4, h5⟩, e => by
    have e' := D.lst.inj e
    subst e'
    exact ⟨l, xs, h1, h4, h5⟩
theorem e_add {ta tb : TE} (h : tE K Ex E ta ρ fun a => tE K Ex E tb ρ fun b => AddD a.dat b.dat R) : tE K Ex E (tOp rAddU ta tb) ρ R :=
  fun G0 H0 G σ H Q S X k => h G0 H0 G σ H _ S X fun a ha v G1 H1 e1 r1 => ha G0 H0 G1 σ H1 _ (S.step e1) X fun b hb u G2 H2 e2 r2 => by
    have e := e1.trans e2
    have r1 := r1.step e2
    rcases hb with ⟨i, j, ha, hb, hr⟩ | ⟨x, y, ha, hb, hl, hr⟩ | ⟨ds, es, ha, hb, hl, hr⟩
    · have q1 := r1.rd e2.sub
      have q2 := r2.rd e2.sub
      rw [ha] at q1
      rw [hb] at q2
      exact .inl ⟨i, j, q1.inv_int, q2.inv_int, k _ hr _ G2 H2 e (.int _)⟩
    · have q1 := r1.rd e2.sub
      have q2 := r2.rd e2.sub
      rw [ha] at q1
      rw [hb] at q2
      exact .inr (.inl ⟨x, y, q1.inv_str, q2.inv_str, hl, k _ hr _ G2 H2 e (.str _)⟩)
    · obtain ⟨l, xs, rfl, h1, q1⟩ := r1.list e2.sub ha
      obtain ⟨m, ys, rfl, h2, q2⟩ := r2.list e2.sub hb
      exact .inr (.inr ⟨l, m, xs, ys, rfl, rfl, h1, h2, by rw [q1.length, q2.length]; exact hl, fun p np => k _ hr _ G2 _ (e.trans (Ev.own e2.sub np)) ⟨p, _, rfl, e.hs.free np, e2.sub.free np, upd_same, q1.append q2⟩⟩)
theorem Rps.rep {G : Hp} {xs : List V} {ds : List D} (r : Rps K G xs ds) : ∀ n : Nat, Rps K G (List.replicate n xs).flatten (List.replicate n ds).flatten
  | 0 => .nil
  | n + 1 => by
    rw [List.replicate_succ, List.replicate_succ, List.flatten_cons, List.flatten_cons]
    exact r.append (Rps.rep r n)
/-- * of ints, list * int -/
def rMulU : R2 := fun x y H Q => rI CMulW (fun i j => .int (i * j)) x y H Q ∨ rRep x y H Q
def MulD (a b : D) (R : Res → Prop) : Prop :=
  (∃ i j, a = .int i ∧ b = .int j ∧ CMulW i j ∧ R (.val (.int (i * j)))) ∨
    ∃ ds k, a = .lst ds ∧ b = .int k ∧ -(2 ^ 63) ≤ k ∧ k < 2 ^ 63 ∧ ds.length * k.toNat ≤ sizeLine ∧ R (.own (List.replicate k.toNat ds).flatten)
theorem e_mul {ta tb : TE} (h : tE K Ex E ta ρ fun a => tE K Ex E tb ρ fun b => MulD a.dat b.dat R) : tE K Ex E (tOp rMulU ta tb) ρ R :=
  fun G0 H0 G σ H Q S X k => h G0 H0 G σ H _ S X fun a ha v G1 H1 e1 r1 => ha G0 H0 G1 σ H1 _ (S.step e1) X fun b hb u G2 H2 e2 r2 => by
    have e := e1.trans e2
    have r1 := r1.step e2
    have q2 := r2.rd e2.sub
    rcases hb with ⟨i, j, ha, hb, hc, hr⟩ | ⟨ds, n, ha, hb, h1, h2, hl, hr⟩
    · have q1 := r1.rd e2.sub
      rw [ha] at q1
      rw [hb] at q2
      exact .inl ⟨i, j, q1.inv_int, q2.inv_int, hc, k _ hr _ G2 H2 e (.int _)⟩
    · rw [hb] at q2
      obtain ⟨l, xs, rfl, g1, q1⟩ := r1.list e2.sub ha
      exact .inr ⟨l, n, xs, rfl, q2.inv_int, g1, h1, h2, by rw [q1.length]; exact hl, fun p np => k _ hr _ G2 _ (e.trans (Ev.own e2.sub np)) ⟨p, _, rfl, e.hs.free np, e2.sub.free np, upd_same, q1.rep _⟩⟩
/-- list(x), x a list or a tuple -/
def rListU (K : PySem.W.Frag) : List V → Hp → VK → Prop := fun xs H Q => ∃ p ys, xs = [.ref p] ∧ (SqL K H p ys ∨ SqT K H p ys) ∧ ∀ l, H l = none → Q (.ref l) (upd H l (.lst ys))
def seqD : D → Option (List D)
  | .lst ds => some ds
  | .fz ds => some ds
  | .tup ds => some ds
  | _ => none
/-- a list or tuple, wherever it comes from -/
theorem ROk.seq {H G' H' : Hp} {v : V} {ds : List D} (s : Same G' H') : ∀ {r : Res}, ROk K H G' H' v r → seqD r.dat = some ds → ∃ l xs, v = .ref l ∧ (SqL K H' l xs ∨ SqT K H' l xs) ∧ Rps K G' xs ds
  | .val d, h, e => by
    cases (show Rp K G' v d from h) with
    | tup q r => cases (Option.some.inj e); exact ⟨_, _, rfl, .inr (same_seqT s q), r⟩
    | lst q r => cases (Option.some.inj e); exact ⟨_, _, rfl, .inl (.inl (.inl (s _ _ q))), r⟩
    | fz q r => cases (Option.some.inj e); exact ⟨_, _, rfl, .inl (s.seq q), r⟩
    | _ => cases e
  | .own es, ⟨l, xs, h1, _, _, h4, h5⟩, e => by
    have e' := Option.some.inj e
    subst e'
    exact ⟨l, xs, h1, .inl (.inl (.inl h4)), h5⟩
  | .bor es, ⟨l, xs, h1, _, h4, h5⟩, e => by
    have e' := Option.some.inj e
    subst e'
    exact ⟨l, xs, h1, .inl (.inl (.inl h4)), h5⟩
theorem e_list {t : TE} (h : tE K Ex E t ρ fun a => ∃ ds, seqD a.dat = some ds ∧ R (.own ds)) : tE K Ex E (tCB (rListU K) (tCons t tNil)) ρ R :=
  fun G0 H0 G σ H Q S X k => h G0 H0 G σ H _ S X fun a ⟨ds, hd, hr⟩ v G1 H1 e1 r1 => by
    obtain ⟨l, xs, rfl, h1, q1⟩ := r1.seq e1.sub hd
    exact ⟨l, xs, rfl, h1, fun p np => k _ hr _ G1 _ (e1.trans (Ev.own e1.sub np)) ⟨p, xs, rfl, e1.hs.free np, e1.sub.free np, upd_same, q1⟩⟩
end
end Y
end

section
namespace Y
open PySem PySem.Spec PyProof.Rows L2
section
variable {K : PySem.W.Frag} {Ex : Value → List Slot → Prop} {E : L2.St → XK} {ρ : List Slot} {De : DE}
theorem tS.imp {t : TS} {De' : DE} (h : tS K Ex E t ρ De) (q1 : ∀ ρ, De.nx ρ → De'.nx ρ) (q2 : ∀ r, De.rt r → De'.rt r) (q3 : ∀ ρ, De.bk ρ → De'.bk ρ) (q4 : ∀ ρ, De.ct ρ → De'.ct ρ) : tS K Ex E t ρ De' :=
  fun G0 H0 G σ H D S X k => h G0 H0 G σ H D S X ⟨fun a b c d e => k.nx a b c d (q1 a e), fun a b c d e => k.rt a b c d (q2 a e), fun a b c d e => k.bk a b c d (q3 a e), fun a b c d e => k.ct a b c d (q4 a e)⟩
theorem s_seq {t u : TS} (h : tS K Ex E t ρ { De with nx := fun ρ' => tS K Ex E u ρ' De }) : tS K Ex E (tSeq t u) ρ De :=
  fun G0 H0 G σ H D S X k => h G0 H0 G σ H { D with nx := u D } S X ⟨fun ρ' G' σ' H' q S' => q G0 H0 G' σ' H' D S' X k, k.rt, k.bk, k.ct⟩
theorem s_next (h : De.nx ρ) : tS K Ex E tNext ρ De := fun G0 H0 G σ H D S X k => k.nx ρ G σ H h S
theorem s_break (h : De.bk ρ) : tS K Ex E tBreak ρ De := fun G0 H0 G σ H D S X k => k.bk ρ G σ H h S
theorem s_cont (h : De.ct ρ) : tS K Ex E tCont ρ De := fun G0 H0 G σ H D S X k => k.ct ρ G σ H h S
theorem s_ret {te : TE} (h : tE K Ex E te ρ De.rt) : tS K Ex E (tRet te) ρ De :=
  fun G0 H0 G σ H D S X k => h G0 H0 G σ H _ S X fun r hr v G' H' e q => k.rt r v G' H' hr (S.ev.trans e) (q.from fun l n => S.ev.hs.free n)
/-- return of a list of one's own -/
theorem s_retOwn {i : Nat} {ds : List D} (hi : ρ[i]? = some (.own ds)) (h : De.rt (.own ds)) : tS K Ex E (tRet (tVar i)) ρ De :=
  fun G0 H0 G σ H D S X k => by
    obtain ⟨l, xs, h1, h2, h3, h4, h5⟩ := S.own i ds hi
    exact ⟨_, h1, k.rt (.own ds) _ G H h S.ev ⟨l, xs, rfl, h2, h3, h4, h5⟩⟩
theorem s_retN (h : De.rt (.val .non)) : tS K Ex E tRetN ρ De := fun G0 H0 G σ H D S X k => k.rt (.val .non) .non G H h S.ev .non
theorem s_if {c : TT} {t u : TS} (h : tT K Ex E c ρ fun b => (b = true → tS K Ex E t ρ De) ∧ (b = false → tS K Ex E u ρ De)) : tS K Ex E (tIfS c t u) ρ De :=
  fun G0 H0 G σ H D S X k => h G0 H0 G σ H _ S X fun b hb G1 H1 e1 => by
    cases b with
    | true => exact iteT (hb.1 rfl G0 H0 G1 σ H1 D (S.step e1) X k)
    | false => exact iteF (hb.2 rfl G0 H0 G1 σ H1 D (S.step e1) X k)
theorem s_set {te : TE} {i : Nat} (h : tE K Ex E te ρ (asgR fun s => ∀ ρ', SS ρ i s ρ' → De.nx ρ')) (hi : i < ρ.length) : tS K Ex E (tAsg te (gName i)) ρ De :=
  fun G0 H0 G σ H D S X k => h G0 H0 G σ H _ S X fun r hr v G1 H1 e1 q => by
    have ss : ∀ s, SS ρ i s (ρ.set i s) := fun s => by
      have key : ∀ (l : List Slot) (j : Nat), j < l.length → SS l j s (l.set j s) := by
        intro l
        induction l with
        | nil => intro j hj; simp at hj
        | cons x r ih =>
          intro j hj
          cases j with
          | zero => exact .zero
          | succ j => exact .succ (ih j (by simpa using hj))
      exact key ρ i hi
    cases r with
    | val d => exact k.nx _ G1 _ H1 (hr _ (ss _)) ((S.step e1).setVal q)
    | own ds =>
      obtain ⟨l, xs, rfl, h2, h3, h4, h5⟩ := q
      refine k.nx _ G1 _ H1 (hr _ (ss _)) ((S.step e1).setOwn (S.ev.hs.free h2) h3 h4 h5 fun j es hj he z => ?_)
      obtain ⟨m, ys, k1, k2, k3, k4, k5⟩ := S.own j es he
      rw [z] at k1
      have e := V.ref.inj (Option.some.inj (Option.some.inj k1))
      subst e
      rw [h2] at k4
      cases k4
    | bor ds => exact hr.elim
/-- .. by a list with one slot set -/
theorem s_setV {te : TE} {i : Nat} (hi : i < ρ.length) (h : tE K Ex E te ρ (asgR fun s => De.nx (ρ.set i s))) : tS K Ex E (tAsg te (gName i)) ρ De :=
  s_set (h.imp fun r q => by
    cases r with
    | val d => exact fun ρ' z => by rw [z.eq]; exact q
    | own ds => exact fun ρ' z => by rw [z.eq]; exact q
    | bor ds => exact q.elim) hi
/-! targets -/
def tG (K : PySem.W.Frag) (W : Nat → Prop) (g : TG) (d : D) (ρ : List Slot) (k : List Slot → Prop) : Prop :=
  ∀ (G0 H0 G : Hp) (σ : L2.St) (H : Hp) (v : V) (Q : L2.St → Hp → Prop), Sig K G0 H0 G ρ σ H → Rp K G v d →
    (∀ ρ' σ', k ρ' → Sig K G0 H0 G ρ' σ' H → (∀ j, ¬ W j → σ'[j]? = σ[j]?) ∧ σ'.length = σ.length → Q σ' H) → g v σ H Q
def tGs (K : PySem.W.Frag) (W : Nat → Prop) (g : TGs) (ds : List D) (ρ : List Slot) (k : List Slot → Prop) : Prop :=
  ∀ (G0 H0 G : Hp) (σ : L2.St) (H : Hp) (vs : List V) (Q : L2.St → Hp → Prop), Sig K G0 H0 G ρ σ H → Rps K G vs ds →
    (∀ ρ' σ', k ρ' → Sig K G0 H0 G ρ' σ' H → (∀ j, ¬ W j → σ'[j]? = σ[j]?) ∧ σ'.length = σ.length → Q σ' H) → g vs σ H Q
theorem g_name {W : Nat → Prop} {i : Nat} {d : D} {k : List Slot → Prop} (hw : W i) (h : k (ρ.set i (.val d))) : tG K W (gName i) d ρ k :=
  fun G0 H0 G σ H v Q S r q => q _ _ h (S.setVal r) ⟨fun j hj => get_set_ne fun z => hj (z ▸ hw), List.length_set⟩
theorem gs_nil {W : Nat → Prop} {k : List Slot → Prop} (h : k ρ) : tGs K W gNil [] ρ k := fun G0 H0 G σ H vs Q S r q => by
  cases r
  exact ⟨rfl, q ρ σ h S ⟨fun _ _ => rfl, rfl⟩⟩
theorem gs_cons {W : Nat → Prop} {g : TG} {gs : TGs} {d : D} {ds : List D} {k : List Slot → Prop} (h : tG K W g d ρ fun ρ' => tGs K W gs ds ρ' k) : tGs K W (gCons g gs) (d :: ds) ρ k := fun G0 H0 G σ H vs Q S r q => by
  cases r with
  | cons r1 r2 =>
    exact ⟨_, _, rfl, h G0 H0 G σ H _ _ S r1 fun ρ' σ' hk S' hj => hk G0 H0 G σ' H _ _ S' r2 fun ρ2 σ2 hk2 S2 hj2 => q ρ2 σ2 hk2 S2 ⟨fun j z => (hj2.1 j z).trans (hj.1 j z), hj2.2.trans hj.2⟩⟩
theorem g_tup {W : Nat → Prop} {n : Nat} {gs : TGs} {ds : List D} {k : List Slot → Prop} (hn : ds.length = n) (h : tGs K W gs ds ρ k) : tG K W (gTup K n gs) (.tup ds) ρ k := fun G0 H0 G σ H v Q S r q => by
  obtain ⟨a, xs, rfl, s, rs⟩ := r.inv_tup
  exact ⟨a, xs, rfl, same_seqT S.ev.sub s, by rw [rs.length]; exact hn, h G0 H0 G σ H xs Q S rs q⟩
theorem s_asgG {te : TE} {g : TG} (h : tE K Ex E te ρ (vR fun d => tG K (fun _ => True) g d ρ De.nx)) : tS K Ex E (tAsg te g) ρ De :=
  fun G0 H0 G σ H D S X k => (v_of h) G0 H0 G σ H _ S X fun d hd v G1 H1 e1 r1 => hd G0 H0 G1 σ H1 v _ (S.step e1) r1 fun ρ' σ' hk S' _ => k.nx ρ' G1 σ' H1 hk S'
theorem s_par {i j : Nat} {ta : TA} (h : tVs K Ex E ta ρ fun ds => ∃ d e, ds = [d, e] ∧ De.nx ((ρ.set i (.val d)).set j (.val e))) : tS K Ex E (tPar i j ta) ρ De :=
  fun G0 H0 G σ H D S X k => h G0 H0 G σ H _ S X fun ds ⟨d, e, hds, hn⟩ vs G1 H1 e1 r1 => by
    subst hds
    cases r1 with
    | cons r1 r2 =>
      cases r2 with
      | cons r2 r3 =>
        cases r3
        exact ⟨_, _, rfl, k.nx _ G1 _ H1 hn (((S.step e1).setVal r1).setVal r2)⟩
/-- x += e of ints -/
theorem s_augI {i : Nat} {te : TE} {f : Int → Int → Int} {a : Int} (hi : ρ[i]? = some (.val (.int a))) (h : tE K Ex E te ρ fun r => ∃ b, r.dat = .int b ∧ De.nx (ρ.set i (.val (.int (f a b))))) : tS K Ex E (tAug i te (ipI f)) ρ De :=
  fun G0 H0 G σ H D S X k => by
    obtain ⟨v, h1, h2⟩ := S.val i _ hi
    have hv := h2.inv_int
    subst hv
    refine ⟨_, h1, h G0 H0 G σ H _ S X fun r ⟨b, hb, hn⟩ u G1 H1 e1 r1 => ?_⟩
    have q := r1.rd e1.sub
    rw [hb] at q
    exact ⟨a, b, rfl, q.inv_int, k.nx _ G1 _ H1 hn ((S.step e1).setVal (.int _))⟩
theorem s_expr {te : TE} (h : tE K Ex E te ρ fun _ => De.nx ρ) : tS K Ex E (tDrop te) ρ De :=
  fun G0 H0 G σ H D S X k => h G0 H0 G σ H _ S X fun r hr v G1 H1 e1 r1 => k.nx ρ G1 σ H1 hr (S.step e1)
/-- xs.append(e), xs of one's own in slot i -/
theorem s_append {i : Nat} {te : TE} {ds : List D} (hi : ρ[i]? = some (.own ds)) (h : tE K Ex E te ρ (vR fun d => ds.length < sizeLine ∧ De.nx (ρ.set i (.own (ds ++ [d]))))) : tS K Ex E (tDrop (tBM K "list" rAppend (tVar i) (tCons te tNil))) ρ De :=
  fun G0 H0 G σ H D S X k => by
    obtain ⟨l, xs, h1, h2, h3, h4, h5⟩ := S.own i ds hi
    refine ⟨_, h1, .inl ⟨rfl, xs, .inl (.inl h4)⟩, (v_of h) G0 H0 G σ H _ S X fun d ⟨hl, hn⟩ v G1 H1 e1 r1 => ?_⟩
    exact ⟨l, xs, v, rfl, rfl, e1.hs _ _ h4, by rw [h5.length]; exact hl, k.nx _ G1 _ _ hn ((S.step e1).chg hi h1 ((h5.mono e1.gs).append (Rps.one r1)))⟩
/-- xs[j] = e, xs of one's own in slot i -/
theorem s_setItem {i : Nat} {te ti : TE} {ds : List D} (hi : ρ[i]? = some (.own ds)) (h : tE K Ex E te ρ (vR fun d => tE K Ex E ti ρ fun r => ∃ m j, r.dat = .int m ∧ ixN ds.length m = some j ∧ De.nx (ρ.set i (.own (ds.set j d))))) :
    tS K Ex E (tAsg te (gSub (tVar i) ti rSetL)) ρ De :=
  fun G0 H0 G σ H D S X k => (v_of h) G0 H0 G σ H _ S X fun d hd v G1 H1 e1 r1 => by
    obtain ⟨l, xs, h1, h2, h3, h4, h5⟩ := (S.step e1).own i ds hi
    refine ⟨_, h1, hd G0 H0 G1 σ H1 _ (S.step e1) X fun r ⟨m, j, hm, hj, hn⟩ u G2 H2 e2 r2 => ?_⟩
    have q := r2.rd e2.sub
    rw [hm] at q
    exact ⟨l, xs, m, j, rfl, q.inv_int, e2.hs _ _ h4, by rw [h5.length]; exact hj, k.nx _ G2 _ _ hn (((S.step e1).step e2).chg hi h1 ((h5.mono e2.gs).set j (r1.mono e2.gs)))⟩
/-- xs.clear() -/
theorem s_clear {i : Nat} {ds : List D} (hi : ρ[i]? = some (.own ds)) (h : De.nx (ρ.set i (.own []))) : tS K Ex E (tDrop (tBM0 K "list" rClear (tVar i))) ρ De :=
  fun G0 H0 G σ H D S X k => by
    obtain ⟨l, xs, h1, h2, h3, h4, h5⟩ := S.own i ds hi
    exact ⟨_, h1, .inl ⟨rfl, xs, .inl (.inl h4)⟩, l, xs, rfl, rfl, h4, k.nx _ G _ _ h (S.chg hi h1 .nil)⟩
/-- a list of one's own is only read from here on -/
theorem s_freeze {t : TS} {i : Nat} {ds : List D} (hi : ρ[i]? = some (.own ds)) (h : tS K Ex E t (ρ.set i (.val (.lst ds))) De) : tS K Ex E t ρ De :=
  fun G0 H0 G σ H D S X k => by
    obtain ⟨G', _, S'⟩ := S.freeze hi
    exact h G0 H0 G' σ H D S' X k
/-- a slot that isn't asked any more -/
theorem Sig.drop {G0 H0 G : Hp} {σ : L2.St} {H : Hp} (S : Sig K G0 H0 G ρ σ H) (i : Nat) : Sig K G0 H0 G (ρ.set i .emp) σ H := by
  by_cases hl : i < σ.length
  · have q := S.setEmp (i := i) (v := σ[i])
    rw [List.set_getElem_self] at q
    exact q
  · rw [List.set_eq_of_length_le (by have := S.len; omega)]
    exact S
theorem s_drop {t : TS} (i : Nat) (h : tS K Ex E t (ρ.set i .emp) De) : tS K Ex E t ρ De := fun G0 H0 G σ H D S X k => h G0 H0 G σ H D (S.drop i) X k
/-! ### calls of one's own defs -/
abbrev FSpec := List D → (Res → Prop) → (Value → Prop) → Prop
def spD (K : PySem.W.Frag) (f : FSpec) : Sp := fun vs H Q E => ∃ (G : Hp) (ds : List D) (R : Res → Prop) (Ex : Value → Prop), Same G H ∧ Rps K G vs ds ∧ f ds R Ex ∧
  (∀ r, R r → ∀ (v : V) (G' H' : Hp), Ev G H G' H' → ROk K H G' H' v r → Q v H') ∧ ∀ c, Ex c → ∀ H' dx, Same H H' → DxOk dx H' → E c dx H'
def immR : Res → Prop
  | .val d => d.imm = true
  | .own ds => immAll ds = true
  | .bor _ => False
/-- the same slots in a heap that has more -/
theorem Sig.same {G0 H0 G : Hp} {σ : L2.St} {H H' : Hp} (S : Sig K G0 H0 G ρ σ H) (s : Same H H') : Sig K G0 H0 G ρ σ H' := S.step ⟨s, Same.refl _, S.ev.sub.trans s, fun _ _ _ g => g⟩
/-- raise C('..') -/
def tRz (E : XK) (C : Addr) : TS := fun _ _ H => ∀ (dx : Option Addr) (H' : Hp), Same H H' → DxOk dx H' → E (.ref C) dx H'
theorem s_rz {C : Addr} {E : XK} (h : Ex (.ref C) ρ) : tS K Ex (fun _ => E) (tRz E C) ρ De := fun G0 H0 G σ H D S X k dx H' s hd => X _ ρ h G σ H' dx (S.same s) hd

theorem e_callX {E : XK} {f : FSpec} {t : TA} {R : Res → Prop} {dvs : List V} {dds : List D} (hd : ∀ G, Rps K G dvs dds) (h : tVs K Ex (fun _ => E) t ρ fun ds => f (ds ++ dds) R fun c => Ex c ρ) : tE K Ex (fun _ => E) (tCall (spD K f) dvs E t) ρ R :=
  fun G0 H0 G σ H Q S X k => h G0 H0 G σ H _ S X fun ds hf vs G1 H1 e1 r1 =>
    ⟨G1, ds ++ dds, R, _, e1.sub, r1.append (hd G1), hf, fun r hr v G2 H2 e2 r2 => k r hr v G2 H2 (e1.trans e2) (r2.from fun l n => e1.hs.free n), fun c hc H' dx s hd => X c ρ hc G1 σ H' dx ((S.step e1).same s) hd⟩
/-- .. in a try's body -/
theorem e_callS {f : FSpec} {t : TA} {R : Res → Prop} (h : tVs K Ex E t ρ fun ds => f ds R fun c => Ex c ρ) : tE K Ex E (tCallS (spD K f) E t) ρ R :=
  fun G0 H0 G σ H Q S X k => h G0 H0 G σ H _ S X fun ds hf vs G1 H1 e1 r1 =>
    ⟨G1, ds, R, _, e1.sub, r1, hf, fun r hr v G2 H2 e2 r2 => k r hr v G2 H2 (e1.trans e2) (r2.from fun l n => e1.hs.free n), fun c hc H' dx s hd => X c ρ hc G1 σ H' dx ((S.step e1).same s) hd⟩
theorem e_call {f : FSpec} {t : TA} {R : Res → Prop} {dvs : List V} {dds : List D} (hd : ∀ G, Rps K G dvs dds) (h : tVs K Ex E t ρ fun ds => f (ds ++ dds) R fun _ => False) : tE K Ex E (tCall (spD K f) dvs E0 t) ρ R :=
  fun G0 H0 G σ H Q S X k => h G0 H0 G σ H _ S X fun ds hf vs G1 H1 e1 r1 =>
    ⟨G1, ds ++ dds, R, fun _ => False, e1.sub, r1.append (hd G1), hf, fun r hr v G2 H2 e2 r2 => k r hr v G2 H2 (e1.trans e2) (r2.from fun l n => e1.hs.free n), fun c hc _ _ _ _ => hc.elim⟩
theorem ROk.imm {H G1 H1 G2 : Hp} {v : V} (hg : Same H1 G2) {H2 : Hp} : ∀ {r : Res}, immR r → ROk K H1 G2 H2 v r → ROk K H1 (joinH G1 H1 G2) H2 v r
  | .val d, i, h => Rp.imm (join_imm hg) h i
  | .own ds, i, ⟨l, xs, h1, h2, h3, h4, h5⟩ => ⟨l, xs, h1, h2, by rw [joinH_non fun xs z => by rw [h2] at z; cases z]; exact h3, h4, Rps.imm (join_imm hg) h5 i⟩
  | .bor ds, i, h => i.elim
theorem e_callB {f : FSpec} {t : TA} {R : Res → Prop} {dvs : List V} {dds : List D} (hd : ∀ G, Rps K G dvs dds) (h : tA K Ex E t ρ fun rs => f (rs.map Res.dat ++ dds) (fun r => immR r ∧ R r) fun _ => False) : tE K Ex E (tCall (spD K f) dvs E0 t) ρ R :=
  fun G0 H0 G σ H Q S X k => h G0 H0 G σ H _ S X fun rs hf vs G1 H1 e1 r1 =>
    ⟨H1, rs.map Res.dat ++ dds, _, fun _ => False, Same.refl _, (r1.rd e1.sub).append (hd H1), hf, fun r hr v G2 H2 e2 r2 =>
      k r hr.2 v (joinH G1 H1 G2) H2 (e1.trans (Ev.join e1.sub e2.gs e2.sub)) ((r2.imm (H := H) e2.gs hr.1).from fun l n => e1.hs.free n), fun c hc _ _ _ _ => hc.elim⟩
theorem e_callBX {E : XK} {f : FSpec} {t : TA} {R : Res → Prop} {dvs : List V} {dds : List D} (hd : ∀ G, Rps K G dvs dds) (h : tA K Ex (fun _ => E) t ρ fun rs => f (rs.map Res.dat ++ dds) (fun r => immR r ∧ R r) fun c => Ex c ρ) : tE K Ex (fun _ => E) (tCall (spD K f) dvs E t) ρ R :=
  fun G0 H0 G σ H Q S X k => h G0 H0 G σ H _ S X fun rs hf vs G1 H1 e1 r1 =>
    ⟨H1, rs.map Res.dat ++ dds, _, fun c => Ex c ρ, Same.refl _, (r1.rd e1.sub).append (hd H1), hf, fun r hr v G2 H2 e2 r2 =>
      k r hr.2 v (joinH G1 H1 G2) H2 (e1.trans (Ev.join e1.sub e2.gs e2.sub)) ((r2.imm (H := H) e2.gs hr.1).from fun l n => e1.hs.free n), fun c hc H' dx s hd => X c ρ hc G1 σ H' dx ((S.step e1).same s) hd⟩
/-! ### a def's promise by its body's reading -/
def slots0 (N : List Str) (ds : List D) : List Slot := ds.map Slot.val ++ List.replicate (N.length - ds.length) .emp
theorem sig0 {G H : Hp} {vs : List V} {ds : List D} {N : List Str} (s : Same G H) (r : Rps K G vs ds) : Sig K G H G (slots0 N ds) (start N vs) H := by
  have hl := r.length
  have get : ∀ (i : Nat) (sl : Slot), (slots0 N ds)[i]? = some sl → (∃ d, ds[i]? = some d ∧ sl = .val d) ∨ (ds.length ≤ i ∧ sl = .emp) := fun i sl h => by
    unfold slots0 at h
    by_cases hi : i < ds.length
    · rw [List.getElem?_append_left (by rw [List.length_map]; exact hi), List.getElem?_map] at h
      cases e : ds[i]? with
      | none => rw [e] at h; cases h
      | some d =>
        rw [e] at h
        exact .inl ⟨d, rfl, (Option.some.inj h).symm⟩
    · rw [List.getElem?_append_right (by rw [List.length_map]; omega)] at h
      have h2 := (List.mem_of_getElem? h)
      exact .inr ⟨by omega, (List.mem_replicate.mp h2).2⟩
  refine ⟨Ev.refl s, ?_, fun i d h => ?_, fun i ds' h => ?_, fun i j ds' es l h => ?_⟩
  · unfold slots0 L2.start
    simp [hl]
  · rcases get i _ h with ⟨d', h1, h2⟩ | ⟨_, h2⟩
    · have e := Slot.val.inj h2
      subst e
      obtain ⟨v, h3, h4⟩ := r.get i h1
      refine ⟨v, ?_, h4⟩
      unfold L2.start
      rw [List.getElem?_append_left (by rw [List.length_map]; exact (List.getElem?_eq_some_iff.mp h3).1), List.getElem?_map, h3]
      rfl
    · cases h2
  · rcases get i _ h with ⟨d', h1, h2⟩ | ⟨_, h2⟩ <;> cases h2
  · rcases get i _ h with ⟨d', h1, h2⟩ | ⟨_, h2⟩ <;> cases h2
abbrev endDE (R : Res → Prop) : DE := { nx := fun _ => R (.val .non), rt := R }
theorem run_body {Ex : Value → Prop} {E : XK} {G H : Hp} {vs : List V} {ds : List D} {N : List Str} {t : TS} {R : Res → Prop} {Q : VK} (s : Same G H) (r : Rps K G vs ds) (h : tS K (fun c _ => Ex c) (fun _ => E) t (slots0 N ds) (endDE R))
    (hq : ∀ r, R r → ∀ (v : V) (G' H' : Hp), Ev G H G' H' → ROk K H G' H' v r → Q v H') (hx : ∀ c, Ex c → ∀ H' dx, Same H H' → DxOk dx H' → E c dx H') : t { nx := fun _ H' => Q .non H', rt := Q } (start N vs) H :=
  h G H G _ H _ (sig0 s r) (fun c ρ hc G' σ' H' dx S' hd => hx c hc H' dx S'.ev.hs hd) ⟨fun ρ' G' σ' H' q S' => hq _ q .non G' H' S'.ev .non, fun r v G' H' q e k => hq r q v G' H' e k, fun _ _ _ _ q _ => q.elim, fun _ _ _ _ q _ => q.elim⟩
end
section
variable {P : Program} {w : World} {K : PySem.W.Frag} {mg : Str → Option Value} {base : Heap}
theorem fn0 {x qual : Str} {st : Stmt} {f : Addr} {fd : FuncData} {N ps : List Str} {k : Nat} {fs : FSpec} (F : Fun K x qual st f fd) (S : FnScope N ps (defScope st)) (len : ∀ ds R Ex, fs ds R Ex → ds.length = ps.length)
    (hb : ∀ (cdv : Value) (A : Around) (outer : List Env) (s : Shared) (H : Hp) (E : XK), Room k (A.deeper (envOfC qual (defScope st) s.heap.objs.size f cdv)) →
      ∃ t, PSs (cxOf CX0 P w K mg base N qual (defScope st) f cdv A outer s H E).nox (defBody st) t ∧ ∀ ds R Ex, fs ds R Ex → tS K (fun c _ => Ex c) (fun _ => E) t (slots0 N ds) (endDE R)) : FnOk P w K mg base CX0 (k + 1) f fd ps (spD K fs) := by
  refine F.ok S (fun vs H Q E ⟨G, ds, R, Ex, s, r, h, _⟩ => by rw [r.length]; exact len ds R Ex h) fun cdv A outer s H vs Q E hr ⟨G, ds, R, Ex, sm, r, h, hq, hx⟩ => ?_
  obtain ⟨t, h1, h2⟩ := hb cdv A outer s H E hr
  exact ⟨t, h1, run_body sm r (h2 ds R Ex h) hq hx⟩
theorem fnX {x qual : Str} {st : Stmt} {f : Addr} {fd : FuncData} {N ps : List Str} {k : Nat} {fs : FSpec} (F : Fun K x qual st f fd) (S : FnScope N ps (defScope st)) (len : ∀ ds R Ex, fs ds R Ex → ds.length = ps.length)
    (hb : ∀ (cdv : Value) (A : Around) (outer : List Env) (s : Shared) (H : Hp) (E : XK), Room k (A.deeper (envOfC qual (defScope st) s.heap.objs.size f cdv)) →
      ∃ t, PSs (cxOf (L2.CX P w) P w K mg base N qual (defScope st) f cdv A outer s H E) (defBody st) t ∧ ∀ ds R Ex, fs ds R Ex → tS K (fun c _ => Ex c) (fun _ => E) t (slots0 N ds) (endDE R)) : FnOk P w K mg base (L2.CX P w) (k + 1) f fd ps (spD K fs) := by
  refine F.okX S (fun vs H Q E ⟨G, ds, R, Ex, s, r, h, _⟩ => by rw [r.length]; exact len ds R Ex h) fun cdv A outer s H vs Q E hr ⟨G, ds, R, Ex, sm, r, h, hq, hx⟩ => ?_
  obtain ⟨t, h1, h2⟩ := hb cdv A outer s H E hr
  exact ⟨t, h1, run_body sm r (h2 ds R Ex h) hq hx⟩
theorem fnD {x qual : Str} {params : Arguments} {body : List Stmt} {scope : Scope} {dvs : List V} {kws : List (Str × V)} {f : Addr} {fd : FuncData} {CXx : CXT} {N ps : List Str} {k : Nat} {fs : FSpec} (F : FunD K x qual params body scope dvs kws f fd) (S : FnScope N ps scope) (len : ∀ ds R Ex, fs ds R Ex → ds.length = ps.length)
    (hb : ∀ (cdv : Value) (A : Around) (outer : List Env) (s : Shared) (H : Hp) (E : XK), Room k (A.deeper (envOfC qual scope s.heap.objs.size f cdv)) →
      ∃ t, PSs (cxOf CXx P w K mg base N qual scope f cdv A outer s H E) body t ∧ ∀ ds R Ex, fs ds R Ex → tS K (fun c _ => Ex c) (fun _ => E) t (slots0 N ds) (endDE R)) : FnOk P w K mg base CXx (k + 1) f fd ps (spD K fs) := by
  refine F.ok S (fun vs H Q E ⟨G, ds, R, Ex, s, r, h, _⟩ => by rw [r.length]; exact len ds R Ex h) fun cdv A outer s H vs Q E hr ⟨G, ds, R, Ex, sm, r, h, hq, hx⟩ => ?_
  obtain ⟨t, h1, h2⟩ := hb cdv A outer s H E hr
  exact ⟨t, h1, run_body sm r (h2 ds R Ex h) hq hx⟩
end
end Y
end

section
namespace Y
open PySem PySem.Spec PyProof.Rows L2
section
variable {K : PySem.W.Frag} {Ex : Value → List Slot → Prop} {E : L2.St → XK} {ρ : List Slot} {De : DE} {G0 H0 G : Hp} {σ : L2.St} {H : Hp}
open Classical in
/-- the heap without the lists of one's own -/
noncomputable def unown (ρ : List Slot) (σ : L2.St) (H : Hp) : Hp := fun b => if (∃ (i : Nat) (ds : List D), ρ[i]? = some (.own ds) ∧ σ[i]? = some (some (.ref b))) then none else H b
theorem Sig.root (S : Sig K G0 H0 G ρ σ H) : ∃ H1, Sig K G H1 G ρ σ H ∧ Same H0 H1 := by
  refine ⟨unown ρ σ H, ⟨⟨fun b o e => ?_, Same.refl _, S.ev.sub, fun b xs e g => g⟩, S.len, S.val, fun i ds h => ?_, S.inj⟩, fun b o e => ?_⟩
  · unfold unown at e
    split at e
    · cases e
    · exact e
  · obtain ⟨l, xs, h1, h2, h3, h4, h5⟩ := S.own i ds h
    exact ⟨l, xs, h1, if_pos ⟨i, ds, h, h1⟩, h3, h4, h5⟩
  · unfold unown
    rw [if_neg]
    · exact S.ev.hs _ _ e
    · rintro ⟨i, ds, h, h1⟩
      obtain ⟨l, xs, k1, k2, _⟩ := S.own i ds h
      rw [h1] at k1
      have z := V.ref.inj (Option.some.inj (Option.some.inj k1))
      subst z
      rw [e] at k2
      cases k2
theorem Ev.up {H1 G' H' : Hp} (e : Ev G0 H0 G H) (h : Same H0 H1) (e' : Ev G H1 G' H') : Ev G0 H0 G' H' :=
  ⟨h.trans e'.hs, e.gs.trans e'.gs, e'.sub, fun b xs hb g => e'.new b xs (h _ _ hb) (e.new b xs hb g)⟩
theorem Sig.up {H1 G' H' : Hp} {ρ' : List Slot} {σ' : L2.St} (e : Ev G0 H0 G H) (h : Same H0 H1) (S : Sig K G H1 G' ρ' σ' H') : Sig K G0 H0 G' ρ' σ' H' :=
  ⟨e.up h S.ev, S.len, S.val, fun i ds q => let ⟨l, xs, h1, h2, h3⟩ := S.own i ds q; ⟨l, xs, h1, h.free h2, h3⟩, S.inj⟩
/-! ### what is walked -/
def YD (K : PySem.W.Frag) (G' : Hp) (ds : List D) : Nat → Hp → V → Hp → Prop := fun i H x H' => ∀ G2, Same G' G2 → Same G2 H → ∃ d G3, ds[i]? = some d ∧ Ev G2 H G3 H' ∧ Rp K G3 x d
def tIt (K : PySem.W.Frag) (Ex : Value → List Slot → Prop) (E : L2.St → XK) (wi : TI) (ρ : List Slot) (R : List D → Prop) : Prop :=
  ∀ (G0 H0 G : Hp) (σ : L2.St) (H : Hp) (Q : It → Hp → Prop), Sig K G0 H0 G ρ σ H → Lk K Ex E G0 H0 →
    (∀ ds, R ds → ∀ (J : It) (G' H' : Hp), Ev G H G' H' → Walk J ds.length (fun H => Same G' H) (YD K G' ds) → Q J H') → wi σ H Q
def listD : D → Option (List D)
  | .lst ds => some ds
  | .fz ds => some ds
  | _ => none
theorem walkL {a : Addr} {xs : List V} {ds : List D} {G' : Hp} (s : ∀ H, Same G' H → SqL K H a xs) (r : Rps K G' xs ds) : Walk (Itl K a) ds.length (fun H => Same G' H) (YD K G' ds) := by
  have w := (walk_list (K := K) (a := a) (xs := xs)).mono (G' := fun H => Same G' H) (Y' := YD K G' ds) (fun H h => s H h) fun i H x H' hi g y G2 g2 h2 => by
    obtain ⟨rfl, e⟩ := y
    obtain ⟨d, hd, rd⟩ := r.getV i e
    exact ⟨d, G2, hd, Ev.refl h2, rd.mono g2⟩
  rw [r.length] at w
  exact w
theorem walkT {a : Addr} {xs : List V} {ds : List D} {G' : Hp} (s : ∀ H, Same G' H → SqT K H a xs) (r : Rps K G' xs ds) : Walk (Itt K a) ds.length (fun H => Same G' H) (YD K G' ds) := by
  have w := (walk_tup (K := K) (a := a) (xs := xs)).mono (G' := fun H => Same G' H) (Y' := YD K G' ds) (fun H h => s H h) fun i H x H' hi g y G2 g2 h2 => by
    obtain ⟨rfl, e⟩ := y
    obtain ⟨d, hd, rd⟩ := r.getV i e
    exact ⟨d, G2, hd, Ev.refl h2, rd.mono g2⟩
  rw [r.length] at w
  exact w
theorem Rp.listSq {v : V} {d : D} {ds : List D} (h : Rp K G v d) (e : listD d = some ds) : ∃ a xs, v = .ref a ∧ SqL K G a xs ∧ Rps K G xs ds := by
  cases h with
  | lst q r => cases e; exact ⟨_, _, rfl, .inl (.inl q), r⟩
  | fz q r => cases e; exact ⟨_, _, rfl, q, r⟩
  | _ => cases e
theorem i_list {tl : TE} {R : List D → Prop} (h : tE K Ex E tl ρ (vR fun d => ∃ ds, listD d = some ds ∧ R ds)) : tIt K Ex E (iList K tl) ρ R :=
  fun G0 H0 G σ H Q S X k => (v_of h) G0 H0 G σ H _ S X fun d ⟨ds, hd, hr⟩ v G1 H1 e1 r1 => by
    obtain ⟨a, xs, rfl, s, r⟩ := r1.listSq hd
    exact ⟨a, rfl, ⟨xs, e1.sub.seq s⟩, k ds hr (Itl K a) G1 H1 e1 (walkL (fun H h => h.seq s) r)⟩
theorem i_tup {tl : TE} {R : List D → Prop} (h : tE K Ex E tl ρ (vR fun d => ∃ ds, d = .tup ds ∧ R ds)) : tIt K Ex E (iTup K tl) ρ R :=
  fun G0 H0 G σ H Q S X k => (v_of h) G0 H0 G σ H _ S X fun d ⟨ds, hd, hr⟩ v G1 H1 e1 r1 => by
    subst hd
    obtain ⟨a, xs, rfl, s, r⟩ := r1.inv_tup
    exact ⟨a, rfl, ⟨xs, same_seqT e1.sub s⟩, k ds hr (Itt K a) G1 H1 e1 (walkT (fun H h => same_seqT h s) r)⟩
def rangeD (lo : Int) (n : Nat) : List D := (List.range n).map fun (i : Nat) => D.int (lo + ((i : Nat) : Int))
theorem rangeD_len {lo : Int} {n : Nat} : (rangeD lo n).length = n := by unfold rangeD; rw [List.length_map, List.length_range]
theorem rangeD_get {lo : Int} {n i : Nat} {d : D} (h : (rangeD lo n)[i]? = some d) : i < n ∧ d = .int (lo + (i : Int)) := by
  have hi : i < n := by
    have := (List.getElem?_eq_some_iff.mp h).1
    rw [rangeD_len] at this
    exact this
  unfold rangeD at h
  rw [List.getElem?_map, List.getElem?_range hi] at h
  exact ⟨hi, (Option.some.inj h).symm⟩
theorem walkR {lo : Int} {n : Nat} {G' : Hp} : Walk (Itr lo n) (rangeD lo n).length (fun H => Same G' H) (YD K G' (rangeD lo n)) := by
  have w := (walk_range (lo := lo) (n := n)).mono (G' := fun H => Same G' H) (Y' := YD K G' (rangeD lo n)) (fun _ _ => trivial) fun i H x H' hi g y G2 g2 h2 => by
    obtain ⟨rfl, e⟩ := y
    refine ⟨.int (lo + (i : Int)), G2, ?_, Ev.refl h2, by rw [e]; exact .int _⟩
    unfold rangeD
    rw [List.getElem?_map, List.getElem?_range hi]
    rfl
  have e : (rangeD lo n).length = n := rangeD_len
  rw [e]
  exact w
theorem i_range1 {t : TE} {R : List D → Prop} (h : tE K Ex E t ρ fun a => ∃ j, a.dat = .int j ∧ -(2 ^ 62) ≤ j ∧ j < 2 ^ 62 ∧ R (rangeD 0 j.toNat)) : tIt K Ex E (iRng1 (tCons t tNil)) ρ R :=
  fun G0 H0 G σ H Q S X k => h G0 H0 G σ H _ S X fun a ⟨j, hd, h1, h2, hr⟩ v G1 H1 e1 r1 => by
    have q := r1.rd e1.sub
    rw [hd] at q
    exact ⟨j, by rw [q.inv_int], h1, h2, k _ hr _ G1 H1 e1 walkR⟩
theorem i_range2 {t u : TE} {R : List D → Prop} (h : tE K Ex E t ρ fun a => tE K Ex E u ρ fun b => ∃ i j, a.dat = .int i ∧ b.dat = .int j ∧ (-(2 ^ 62) ≤ i ∧ i < 2 ^ 62 ∧ -(2 ^ 62) ≤ j ∧ j < 2 ^ 62) ∧ R (rangeD i (j - i).toNat)) : tIt K Ex E (iRng2 (tCons t (tCons u tNil))) ρ R :=
  fun G0 H0 G σ H Q S X k => h G0 H0 G σ H _ S X fun a ha v G1 H1 e1 r1 => ha G0 H0 G1 σ H1 _ (S.step e1) X fun b ⟨i, j, h1, h2, h3, hr⟩ u G2 H2 e2 r2 => by
    have q := (r1.step e2).rd e2.sub
    rw [h1] at q
    have q2 := r2.rd e2.sub
    rw [h2] at q2
    exact ⟨i, j, by rw [q.inv_int, q2.inv_int], h3, k _ hr _ G2 H2 (e1.trans e2) walkR⟩
/-! pairs that are laid on the way -/
theorem walkP {J : It} {n : Nat} {xs ys : Nat → Option V} {ds es : List D} {P : Hp → Prop} {G' : Hp} {out : List D} (w : Walk J n P (YPair xs ys)) (hP : ∀ H, Same G' H → P H)
    (h : ∀ i x y, i < n → xs i = some x → ys i = some y → ∃ d e, out[i]? = some (.tup [d, e]) ∧ Rp K G' x d ∧ Rp K G' y e) (hn : out.length = n) : Walk J out.length (fun H => Same G' H) (YD K G' out) := by
  rw [hn]
  refine w.mono hP fun i H v H' hi g y G2 g2 h2 => ?_
  obtain ⟨T, x, z, rfl, nT, rfl, h3, h4⟩ := y
  obtain ⟨d, e, ho, rx, ry⟩ := h i x z hi h3 h4
  have el := Ev.laid (o := .tup [x, z]) h2 nT
  exact ⟨_, _, ho, el, .tup (.inl (.inl upd_same)) (.cons ((rx.mono g2).mono el.gs) (.cons ((ry.mono g2).mono el.gs) .nil))⟩
def enumD (ds : List D) : List D := ds.zipIdx.map fun p => .tup [.int (p.2 : Int), p.1]
theorem enumD_len {ds : List D} : (enumD ds).length = ds.length := by unfold enumD; rw [List.length_map, List.length_zipIdx]
theorem enumD_get {ds : List D} {i : Nat} : (enumD ds)[i]? = ds[i]?.map fun d => .tup [.int (i : Int), d] := by
  unfold enumD
  rw [List.getElem?_map, List.getElem?_zipIdx]
  cases ds[i]? with
  | none => rfl
  | some d => simp
theorem i_enum {t : TE} {R : List D → Prop} (h : tE K Ex E t ρ (vR fun d => ∃ ds, listD d = some ds ∧ R (enumD ds))) : tIt K Ex E (iEnum K (tCons t tNil)) ρ R :=
  fun G0 H0 G σ H Q S X k => (v_of h) G0 H0 G σ H _ S X fun d ⟨ds, hd, hr⟩ v G1 H1 e1 r1 => by
    obtain ⟨a, xs, rfl, s, r⟩ := r1.listSq hd
    refine ⟨a, xs, rfl, e1.sub.seq s, k _ hr (Ite K a) G1 H1 e1 ?_⟩
    refine walkP (ds := ds) (es := ds) (walk_enum (K := K) (a := a) (xs := xs)) (fun H h => h.seq s) (fun i x y hi hx hy => ?_) (by rw [enumD_len, r.length])
    obtain ⟨d, h1, h2⟩ := r.getV i hy
    have e := Option.some.inj hx
    subst e
    exact ⟨.int i, d, by rw [enumD_get, h1]; rfl, .int _, h2⟩
def zipD (ds es : List D) : List D := (ds.zip es).map fun p => .tup [p.1, p.2]
theorem i_zip {t u : TE} {R : List D → Prop} (h : tE K Ex E t ρ (vR fun d => tE K Ex E u ρ (vR fun e => ∃ ds es, listD d = some ds ∧ listD e = some es ∧ R (zipD ds es)))) : tIt K Ex E (iZip K (tCons t (tCons u tNil))) ρ R :=
  fun G0 H0 G σ H Q S X k => (v_of h) G0 H0 G σ H _ S X fun d hd v G1 H1 e1 r1 => (v_of hd) G0 H0 G1 σ H1 _ (S.step e1) X fun e ⟨ds, es, h1, h2, hr⟩ u G2 H2 e2 r2 => by
    obtain ⟨a, xs, rfl, s, r⟩ := (r1.mono e2.gs).listSq h1
    obtain ⟨b, ys, rfl, s', r'⟩ := r2.listSq h2
    refine ⟨a, b, xs, ys, rfl, e2.sub.seq s, e2.sub.seq s', k _ hr (Itz K a b) G2 H2 (e1.trans e2) ?_⟩
    refine walkP (ds := ds) (es := es) (walk_zip (K := K) (a := a) (b := b) (xs := xs) (ys := ys) rfl) (fun H h => ⟨h.seq s, h.seq s'⟩) (fun i x y hi hx hy => ?_) ?_
    · obtain ⟨d, h1, h2⟩ := r.getV i hx
      obtain ⟨e, h3, h4⟩ := r'.getV i hy
      refine ⟨d, e, ?_, h2, h4⟩
      unfold zipD
      rw [List.getElem?_map, (List.getElem?_zip_eq_some (z := (d, e))).mpr ⟨h1, h3⟩]
      rfl
    · unfold zipD
      rw [List.length_map, List.length_zip, r.length, r'.length]
/-! ### loops -/
theorem s_for {wi : TI} {g : TG} {tb : TS} (h : tIt K Ex E wi ρ fun ds => ∃ I : Nat → List Slot → Prop, I 0 ρ ∧
      (∀ i d ρ', ds[i]? = some d → I i ρ' → tG K (fun _ => True) g d ρ' fun ρ2 => tS K Ex E tb ρ2 { nx := I (i + 1), rt := De.rt, bk := De.nx, ct := I (i + 1) }) ∧ ∀ ρ', I ds.length ρ' → De.nx ρ') :
    tS K Ex E (tFor wi g tb) ρ De :=
  fun G0 H0 G σ H D S X k => h G0 H0 G σ H _ S X fun ds ⟨I, h0, hs, hd⟩ J G1 H1 e1 w => by
    obtain ⟨Hr, Sr, hr⟩ := (S.step e1).root
    have ev := (S.step e1).ev
    refine for_it w (fun i σ H => ∃ ρ' G', I i ρ' ∧ Sig K G1 Hr G' ρ' σ H) ⟨ρ, G1, h0, Sr⟩ (fun i σ H _ ⟨ρ', G', _, S'⟩ => S'.ev.gs.trans S'.ev.sub) (fun i x σ H H' hi ⟨ρ', G', hI, S'⟩ hy => ?_) (fun σ H ⟨ρ', G', hI, S'⟩ => k.nx ρ' G' σ H (hd ρ' hI) (S'.up ev hr))
    obtain ⟨d, G3, hd', e3, r3⟩ := hy G' S'.ev.gs S'.ev.sub
    refine hs i d ρ' hd' hI G1 Hr G3 σ H' x _ (S'.step e3) r3 fun ρ2 σ2 q S2 _ => ?_
    exact q G1 Hr G3 σ2 H' _ S2 (fun c ρ hc G σ H dx S hd => X c ρ hc G σ H dx (S.up ev hr) hd) ⟨fun ρ G σ H q S => ⟨ρ, G, q, S⟩, fun r v G H q e kk => k.rt r v G H q (ev.up hr e) (kk.from fun l n => hr.free n),
      fun ρ G σ H q S => k.nx ρ G σ H q (S.up ev hr), fun ρ G σ H q S => ⟨ρ, G, q, S⟩⟩
theorem s_while {c : TT} {tb : TS} (I : List Slot → Prop) (μ : List Slot → Nat) (h0 : I ρ)
    (hs : ∀ ρ', I ρ' → tT K Ex E c ρ' fun b => (b = true → tS K Ex E tb ρ' { nx := fun ρ2 => I ρ2 ∧ μ ρ2 < μ ρ', rt := De.rt, bk := De.nx, ct := fun ρ2 => I ρ2 ∧ μ ρ2 < μ ρ' }) ∧ (b = false → De.nx ρ')) :
    tS K Ex E (tWhile c tb) ρ De :=
  fun G0 H0 G σ H D S X k => by
    refine ⟨fun m σ H => ∃ ρ' G', I ρ' ∧ μ ρ' = m ∧ Sig K G0 H0 G' ρ' σ H, ⟨_, ρ, G, h0, rfl, S⟩, fun m σ H ⟨ρ', G', hI, hm, S'⟩ => ?_⟩
    refine hs ρ' hI G0 H0 G' σ H _ S' X fun b hb G1 H1 e1 => ?_
    cases b with
    | false => exact iteF (k.nx ρ' G1 σ H1 (hb.2 rfl) (S'.step e1))
    | true =>
      refine iteT ⟨fun σ' H' => ∃ ρ2 G2, (I ρ2 ∧ μ ρ2 < μ ρ') ∧ Sig K G0 H0 G2 ρ2 σ' H', fun σ' H' ⟨ρ2, G2, ⟨hI2, hlt⟩, S2⟩ => ⟨μ ρ2, by omega, ρ2, G2, hI2, rfl, S2⟩, ?_⟩
      exact hb.1 rfl G0 H0 G1 σ H1 _ (S'.step e1) X ⟨fun ρ G σ H q S => ⟨ρ, G, q, S⟩, k.rt, k.nx, fun ρ G σ H q S => ⟨ρ, G, q, S⟩⟩
/-! ### comprehensions -/
def wipeS (ρ : List Slot) : List Nat → List Slot
  | [] => ρ
  | v :: vs => (wipeS ρ vs).set v .emp
theorem Sig.wipe (S : Sig K G0 H0 G ρ σ H) : ∀ vs : List Nat, Sig K G0 H0 G (wipeS ρ vs) (L2.wipe σ vs) H
  | [] => S
  | v :: vs => (Sig.wipe S vs).setEmp
theorem wipe_len (σ : L2.St) : ∀ vs : List Nat, (L2.wipe σ vs).length = σ.length
  | [] => rfl
  | v :: vs => by
    show ((L2.wipe σ vs).set v none).length = _
    rw [List.length_set, wipe_len σ vs]
theorem wipe_get (σ : L2.St) (j : Nat) : ∀ vs : List Nat, (L2.wipe σ vs)[j]? = if j ∈ vs ∧ j < σ.length then some none else σ[j]?
  | [] => by
    rw [if_neg (fun z => by cases z.1)]
    rfl
  | v :: vs => by
    show ((L2.wipe σ vs).set v none)[j]? = _
    by_cases hv : v = j
    · subst hv
      by_cases hl : v < σ.length
      · rw [List.getElem?_set_self (by rw [wipe_len]; exact hl), if_pos ⟨List.mem_cons_self, hl⟩]
      · rw [List.getElem?_eq_none (by rw [List.length_set, wipe_len]; omega), if_neg (fun z => hl z.2), List.getElem?_eq_none (by omega)]
    · rw [List.getElem?_set_ne hv, wipe_get σ j vs]
      have e : (j ∈ v :: vs) ↔ j ∈ vs := by
        rw [List.mem_cons]
        exact ⟨fun z => z.resolve_left fun e => hv e.symm, .inr⟩
      simp only [e]
theorem wipe_same {σ σ2 : L2.St} {vs : List Nat} (h : ∀ j, ¬ j ∈ vs → σ2[j]? = (L2.wipe σ vs)[j]?) (hl : σ2.length = (L2.wipe σ vs).length) : L2.wipe σ2 vs = L2.wipe σ vs := by
  rw [wipe_len] at hl
  apply List.ext_getElem?
  intro j
  rw [wipe_get, wipe_get]
  by_cases hj : j ∈ vs
  · rw [hl]
    by_cases hlt : j < σ.length
    · rw [if_pos ⟨hj, hlt⟩, if_pos ⟨hj, hlt⟩]
    · rw [if_neg fun z => hlt z.2, if_neg fun z => hlt z.2, List.getElem?_eq_none (by omega), List.getElem?_eq_none (by omega)]
  · rw [if_neg fun z => hj z.1, if_neg fun z => hj z.1]
    have z := h j hj
    rw [wipe_get, if_neg fun z => hj z.1] at z
    exact z
/-- one more slot, of one's own -/
theorem Sig.push (S : Sig K G0 H0 G ρ σ H) {l : Addr} {xs : List V} {ds : List D} (h0 : H0 l = none) (hg : G l = none) (hl : H l = some (.lst xs)) (r : Rps K G xs ds)
    (nw : ∀ (j : Nat) (es : List D), ρ[j]? = some (Slot.own es) → σ[j]? ≠ some (some (V.ref l))) : Sig K G0 H0 G (ρ ++ [Slot.own ds]) (σ ++ [some (V.ref l)]) H := by
  have hlen := S.len
  have gr : ∀ i s, (ρ ++ [Slot.own ds])[i]? = some s → ρ[i]? = some s ∨ (i = ρ.length ∧ s = .own ds) := fun i s h => by
    by_cases hi : i < ρ.length
    · rw [List.getElem?_append_left hi] at h
      exact .inl h
    · rw [List.getElem?_append_right (by omega)] at h
      by_cases he : i = ρ.length
      · subst he
        rw [Nat.sub_self] at h
        exact .inr ⟨rfl, (Option.some.inj h).symm⟩
      · rw [List.getElem?_eq_none (by simp; omega)] at h
        cases h
  have gl : ∀ i, i < ρ.length → (σ ++ [some (V.ref l)])[i]? = σ[i]? := fun i hi => List.getElem?_append_left (by omega)
  have ge : (σ ++ [some (V.ref l)])[ρ.length]? = some (some (.ref l)) := by
    rw [List.getElem?_append_right (by omega), hlen, Nat.sub_self]
    rfl
  refine ⟨S.ev, by simp [hlen], fun i d h => ?_, fun i es h => ?_, fun i j es fs m h1 h2 h3 h4 => ?_⟩
  · rcases gr i _ h with h | ⟨_, h⟩
    · obtain ⟨v, h1, h2⟩ := S.val i d h
      exact ⟨v, by rw [gl i (List.getElem?_eq_some_iff.mp h).1]; exact h1, h2⟩
    · cases h
  · rcases gr i _ h with h | ⟨hi, h⟩
    · obtain ⟨m, ys, h1, h2⟩ := S.own i es h
      exact ⟨m, ys, by rw [gl i (List.getElem?_eq_some_iff.mp h).1]; exact h1, h2⟩
    · have e := Slot.own.inj h
      subst e hi
      exact ⟨l, xs, ge, h0, hg, hl, r⟩
  · rcases gr i _ h1 with q1 | ⟨i1, q1⟩
    · rw [gl i (List.getElem?_eq_some_iff.mp q1).1] at h3
      rcases gr j _ h2 with q2 | ⟨i2, q2⟩
      · rw [gl j (List.getElem?_eq_some_iff.mp q2).1] at h4
        exact S.inj i j es fs m q1 q2 h3 h4
      · subst i2
        rw [ge] at h4
        have z := V.ref.inj (Option.some.inj (Option.some.inj h4))
        subst z
        exact absurd h3 (nw i es q1)
    · subst i1
      rw [ge] at h3
      have z := V.ref.inj (Option.some.inj (Option.some.inj h3))
      subst z
      rcases gr j _ h2 with q2 | ⟨i2, q2⟩
      · rw [gl j (List.getElem?_eq_some_iff.mp q2).1] at h4
        exact absurd h4 (nw j fs q2)
      · rw [i2]
theorem Sig.pre {s : Slot} {x : Option V} (S : Sig K G0 H0 G (ρ ++ [s]) (σ ++ [x]) H) : Sig K G0 H0 G ρ σ H := by
  have hlen : σ.length = ρ.length := by
    have := S.len
    simpa using this
  have up : ∀ i (s' : Slot), ρ[i]? = some s' → (ρ ++ [s])[i]? = some s' := fun i s' h => by
    rw [List.getElem?_append_left (List.getElem?_eq_some_iff.mp h).1]
    exact h
  have dn : ∀ i (s' : Slot) (o : Option (Option V)), ρ[i]? = some s' → (σ ++ [x])[i]? = o → σ[i]? = o := fun i s' o h q => by
    rw [List.getElem?_append_left (by have := (List.getElem?_eq_some_iff.mp h).1; omega)] at q
    exact q
  refine ⟨S.ev, hlen, fun i d h => ?_, fun i ds h => ?_, fun i j ds es l h1 h2 h3 h4 => ?_⟩
  · obtain ⟨v, h1, h2⟩ := S.val i d (up i _ h)
    exact ⟨v, dn i _ _ h h1, h2⟩
  · obtain ⟨l, xs, h1, h2⟩ := S.own i ds (up i _ h)
    exact ⟨l, xs, dn i _ _ h h1, h2⟩
  · refine S.inj i j ds es l (up i _ h1) (up j _ h2) ?_ ?_
    · rw [List.getElem?_append_left (by have := (List.getElem?_eq_some_iff.mp h1).1; omega)]
      exact h3
    · rw [List.getElem?_append_left (by have := (List.getElem?_eq_some_iff.mp h2).1; omega)]
      exact h4
/-- what a comprehension walks: a list of one's own, too -/
def tIc (K : PySem.W.Frag) (Ex : Value → List Slot → Prop) (E : L2.St → XK) (wi : TI) (ρ : List Slot) (R : List D → Prop) : Prop :=
  ∀ (G0 H0 G : Hp) (σ : L2.St) (H : Hp) (Q : It → Hp → Prop), Sig K G0 H0 G ρ σ H → Lk K Ex E G0 H0 →
    (∀ ds, R ds → ∀ (J : It) (G' H' : Hp), Ev G H G' H' → Walk J ds.length (fun H => Same H' H) (YD K G' ds) → Q J H') → wi σ H Q
theorem tIt.ic {wi : TI} {R : List D → Prop} (h : tIt K Ex E wi ρ R) : tIc K Ex E wi ρ R := fun G0 H0 G σ H Q S X k =>
  h G0 H0 G σ H Q S X fun ds hr J G' H' e w => k ds hr J G' H' e (w.mono (fun H h => e.sub.trans h) fun _ _ _ _ _ _ y => y)
theorem walkC {a : Addr} {xs : List V} {ds : List D} {G' H' : Hp} (s : SqL K H' a xs) (r : Rps K G' xs ds) : Walk (Itl K a) ds.length (fun H => Same H' H) (YD K G' ds) := by
  have w := (walk_list (K := K) (a := a) (xs := xs)).mono (G' := fun H => Same H' H) (Y' := YD K G' ds) (fun H h => h.seq s) fun i H x H' hi g y G2 g2 h2 => by
    obtain ⟨rfl, e⟩ := y
    obtain ⟨d, hd, rd⟩ := r.getV i e
    exact ⟨d, G2, hd, Ev.refl h2, rd.mono g2⟩
  rw [r.length] at w
  exact w
theorem ROk.listSq {H G' H' : Hp} {v : V} {ds : List D} (s : Same G' H') : ∀ {r : Res}, ROk K H G' H' v r → listD r.dat = some ds → ∃ l xs, v = .ref l ∧ SqL K H' l xs ∧ Rps K G' xs ds
  | .val d, h, e => by
    obtain ⟨a, xs, h1, h2, h3⟩ := Rp.listSq (show Rp K G' v d from h) e
    exact ⟨a, xs, h1, s.seq h2, h3⟩
  | .own es, ⟨l, xs, h1, _, _, h4, h5⟩, e => by
    have e' := Option.some.inj e
    subst e'
    exact ⟨l, xs, h1, .inl (.inl h4), h5⟩
  | .bor es, ⟨l, xs, h1, _, h4, h5⟩, e => by
    have e' := Option.some.inj e
    subst e'
    exact ⟨l, xs, h1, .inl (.inl h4), h5⟩
theorem ic_list {tl : TE} {R : List D → Prop} (h : tE K Ex E tl ρ fun r => ∃ ds, listD r.dat = some ds ∧ R ds) : tIc K Ex E (iList K tl) ρ R :=
  fun G0 H0 G σ H Q S X k => h G0 H0 G σ H _ S X fun r ⟨ds, hd, hr⟩ v G1 H1 e1 r1 => by
    obtain ⟨a, xs, rfl, s, q⟩ := r1.listSq e1.sub hd
    exact ⟨a, rfl, ⟨xs, s⟩, k ds hr (Itl K a) G1 H1 e1 (walkC s q)⟩
theorem e_lc {wi : TI} {g : TG} {tt : TT} {te : TE} {vs : List Nat} {R : Res → Prop} (h : tIc K Ex E wi ρ fun ds => ds.length ≤ sizeLine ∧ ∃ J : Nat → List D → Prop, J 0 [] ∧
      (∀ i d outs, ds[i]? = some d → J i outs → tG K (· ∈ vs) g d (wipeS ρ vs) fun ρ2 => tT K (fun _ _ => False) E tt ρ2 fun b => (b = true → tE K (fun _ _ => False) E te ρ2 (vR fun y => J (i + 1) (outs ++ [y]))) ∧ (b = false → J (i + 1) outs)) ∧
      ∀ outs, J ds.length outs → outs.length ≤ ds.length → R (.own outs)) : tE K Ex E (tLc wi g tt te vs) ρ R :=
  fun G0 H0 G σ H Q S X k => h G0 H0 G σ H _ S X fun ds ⟨hsz, J, h0, hs, hd⟩ It G1 H1 e1 w => fun Dl nD => by
    obtain ⟨Hr, Sr, hr⟩ := (S.step e1).root
    have ev := (S.step e1).ev
    have nG : G1 Dl = none := e1.sub.free nD
    have nHr : Hr Dl = none := Sr.ev.hs.free nD
    have nlen : (wipeS ρ vs).length = (L2.wipe σ vs).length := (Sr.wipe vs).len.symm
    have start : Sig K G1 Hr G1 (wipeS ρ vs ++ [Slot.own []]) (L2.wipe σ vs ++ [some (V.ref Dl)]) (upd H1 Dl (.lst [])) := by
      refine Sig.push (xs := []) ((Sr.wipe vs).step (Ev.own e1.sub nD)) nHr nG upd_same .nil fun j es hj z => ?_
      obtain ⟨l, xs, k1, k2, k3, k4, k5⟩ := (Sr.wipe vs).own j es hj
      rw [z] at k1
      have e := V.ref.inj (Option.some.inj (Option.some.inj k1))
      subst e
      rw [nD] at k4
      cases k4
    have upE : ∀ {G' H' : Hp} {ys : List V}, Ev G1 H1 G' H' → G' Dl = none → Ev G1 H1 G' (upd H' Dl (.lst ys)) := fun {G' H' ys} e g => by
      refine ⟨fun b o q => ?_, e.gs, fun b o q => ?_, e.new⟩
      · rw [upd_ne (ne_of_none q nD)]
        exact e.hs _ _ q
      · rw [upd_ne (ne_of_none q g)]
        exact e.sub _ _ q
    refine lc_it w (fun i H => ∃ G' outs, J i outs ∧ outs.length ≤ i ∧ Ev G1 H1 G' H ∧ Sig K G1 Hr G' (wipeS ρ vs ++ [Slot.own outs]) (L2.wipe σ vs ++ [some (V.ref Dl)]) H) ⟨G1, [], h0, Nat.le_refl _, upE (Ev.refl e1.sub) nG, start⟩
      (fun i H _ ⟨G', outs, _, _, ea, _⟩ => ea.hs) (fun i x H H' hi ⟨G', outs, hJ, hlen, ea, S'⟩ hy => ?_) fun H ⟨G', outs, hJ, hlen, ea, S'⟩ => ?_
    · obtain ⟨d, G3, hd', e3, r3⟩ := hy G' S'.ev.gs S'.ev.sub
      have S3 := S'.step e3
      refine hs i d outs hd' hJ G1 Hr G3 _ H' x _ S3.pre r3 fun ρ2 σ2 q S2 hj => ⟨wipe_same hj.1 hj.2, ?_⟩
      refine q G1 Hr G3 σ2 H' _ S2 (fun c ρ hc => hc.elim) fun b hb G4 H4 e4 => ?_
      cases b with
      | false => exact iteF ⟨G4, outs, hb.2 rfl, by omega, (ea.trans e3).trans e4, S3.step e4⟩
      | true =>
        refine iteT ((v_of (hb.1 rfl)) G1 Hr G4 σ2 H4 _ (S2.step e4) (fun c ρ hc => hc.elim) fun y hy v G5 H5 e5 r5 => ?_)
        have S5 := (S3.step e4).step e5
        have gi : (wipeS ρ vs ++ [Slot.own outs])[(wipeS ρ vs).length]? = some (.own outs) := by
          rw [List.getElem?_append_right (Nat.le_refl _), Nat.sub_self]
          rfl
        have gs : (L2.wipe σ vs ++ [some (V.ref Dl)])[(wipeS ρ vs).length]? = some (some (.ref Dl)) := by
          rw [nlen, List.getElem?_append_right (Nat.le_refl _), Nat.sub_self]
          rfl
        obtain ⟨l, xs, k1, k2, k3, k4, k5⟩ := S5.own _ _ gi
        rw [gs] at k1
        have e := V.ref.inj (Option.some.inj (Option.some.inj k1))
        subst e
        refine ⟨xs, k4, ?_, G5, outs ++ [y], hy, by rw [List.length_append]; show outs.length + 1 ≤ i + 1; omega, upE (((ea.trans e3).trans e4).trans e5) k3, ?_⟩
        · rw [k5.length]
          omega
        · have q5 := S5.chg gi gs (k5.append (Rps.one r5))
          have e2 : (wipeS ρ vs ++ [Slot.own outs]).set (wipeS ρ vs).length (Slot.own (outs ++ [y])) = wipeS ρ vs ++ [Slot.own (outs ++ [y])] := by
            rw [List.set_append_right _ _ (Nat.le_refl _), Nat.sub_self]
            rfl
          rw [e2] at q5
          exact q5
    · have gi : (wipeS ρ vs ++ [Slot.own outs])[(wipeS ρ vs).length]? = some (.own outs) := by
        rw [List.getElem?_append_right (Nat.le_refl _), Nat.sub_self]
        rfl
      have gs : (L2.wipe σ vs ++ [some (V.ref Dl)])[(wipeS ρ vs).length]? = some (some (.ref Dl)) := by
        rw [nlen, List.getElem?_append_right (Nat.le_refl _), Nat.sub_self]
        rfl
      obtain ⟨l, xs, k1, k2, k3, k4, k5⟩ := S'.own _ _ gi
      rw [gs] at k1
      have e := V.ref.inj (Option.some.inj (Option.some.inj k1))
      subst e
      exact k (.own outs) (hd outs hJ hlen) _ G' H (e1.trans ea) ⟨Dl, xs, rfl, e1.hs.free nD, k3, k4, k5⟩
end
end Y
end

section
namespace Y
open PySem PySem.Spec PyProof.Rows L2
/-! ### operators -/
section
variable {K : PySem.W.Frag}
theorem os_int {g : Int → Int → V} {g' : Int → Int → D} (h : ∀ i j, Sc (g i j) (g' i j)) : OpS K (rI0 g) fun d e k => ∃ i j, d = .int i ∧ e = .int j ∧ k (g' i j) := by
  intro H x y d e Q k rx ry hf hq
  obtain ⟨i, j, rfl, rfl, hk⟩ := hf
  exact ⟨i, j, rx.inv_int, ry.inv_int, hq _ _ hk (h i j)⟩
theorem os_intC {C : Int → Int → Prop} {g : Int → Int → V} {g' : Int → Int → D} (h : ∀ i j, Sc (g i j) (g' i j)) : OpS K (rI C g) fun d e k => ∃ i j, d = .int i ∧ e = .int j ∧ C i j ∧ k (g' i j) := by
  intro H x y d e Q k rx ry hf hq
  obtain ⟨i, j, rfl, rfl, hc, hk⟩ := hf
  exact ⟨i, j, rx.inv_int, ry.inv_int, hc, hq _ _ hk (h i j)⟩
/-- // by any divisor but 0, of up to 9000 bits -/
def CDivX (_ j : Int) : Prop := j ≠ 0 ∧ j.natAbs.log2 < 9000
theorem op_fdivX {X : Cx} : OpR X (binaryOp .FloorDiv) (rI CDivX fun i j => .int (i.fdiv j)) := opI fun i j _ _ _ _ _ hc q => floordiv_int hc.1 q (.inl (PyProof.noPylong_of_log2 hc.2))
theorem op_addU {X : Cx} : OpR X (binaryOp .Add) rAddU := OpR.or op_add (OpR.or op_add_str op_cat)
theorem op_mulU {X : Cx} : OpR X (binaryOp .Mult) rMulU := OpR.or op_mulW op_rep
theorem sl_U {X : Cx} : SlR X (rSlU X.K) := SlR.or sl_list sl_str
variable {Ex : Value → List Slot → Prop} {E : L2.St → XK} {ρ : List Slot} {R : Res → Prop} {ta tb : TE}
theorem e_sub (h : tE K Ex E ta ρ fun a => tE K Ex E tb ρ fun b => ∃ i j, a.dat = .int i ∧ b.dat = .int j ∧ R (.val (.int (i - j)))) : tE K Ex E (tOp (rI0 fun i j => .int (i - j)) ta tb) ρ R := e_op (os_int fun _ _ => sc_int) h
theorem e_mod (h : tE K Ex E ta ρ fun a => tE K Ex E tb ρ fun b => ∃ i j, a.dat = .int i ∧ b.dat = .int j ∧ 0 < j ∧ R (.val (.int (i % j)))) : tE K Ex E (tOp (rI (fun _ j => 0 < j) fun i j => .int (i % j)) ta tb) ρ R := e_op (os_intC fun _ _ => sc_int) h
theorem e_fdiv (h : tE K Ex E ta ρ fun a => tE K Ex E tb ρ fun b => ∃ i j, a.dat = .int i ∧ b.dat = .int j ∧ CDivX i j ∧ R (.val (.int (i.fdiv j)))) : tE K Ex E (tOp (rI CDivX fun i j => .int (i.fdiv j)) ta tb) ρ R := e_op (os_intC fun _ _ => sc_int) h
theorem e_pow (h : tE K Ex E ta ρ fun a => tE K Ex E tb ρ fun b => ∃ i j, a.dat = .int i ∧ b.dat = .int j ∧ CPow i j ∧ R (.val (.int (i ^ j.toNat)))) : tE K Ex E (tOp (rI CPow fun i j => .int (i ^ j.toNat)) ta tb) ρ R := e_op (os_intC fun _ _ => sc_int) h
theorem e_shr (h : tE K Ex E ta ρ fun a => tE K Ex E tb ρ fun b => ∃ i j, a.dat = .int i ∧ b.dat = .int j ∧ 0 ≤ j ∧ R (.val (.int (i / 2 ^ j.toNat)))) : tE K Ex E (tOp (rI (fun _ j => 0 ≤ j) fun i j => .int (i / 2 ^ j.toNat)) ta tb) ρ R := e_op (os_intC fun _ _ => sc_int) h
theorem e_band (h : tE K Ex E ta ρ fun a => tE K Ex E tb ρ fun b => ∃ i j, a.dat = .int i ∧ b.dat = .int j ∧ R (.val (.int (Builtin.bitAnd i j)))) : tE K Ex E (tOp (rI0 fun i j => .int (Builtin.bitAnd i j)) ta tb) ρ R := e_op (os_int fun _ _ => sc_int) h
theorem e_lt (h : tE K Ex E ta ρ fun a => tE K Ex E tb ρ fun b => ∃ i j, a.dat = .int i ∧ b.dat = .int j ∧ R (.val (.bl (decide (i < j))))) : tE K Ex E (tOp (rI0 fun i j => .bl (decide (i < j))) ta tb) ρ R := e_op (os_int fun _ _ => sc_bl) h
theorem e_le (h : tE K Ex E ta ρ fun a => tE K Ex E tb ρ fun b => ∃ i j, a.dat = .int i ∧ b.dat = .int j ∧ R (.val (.bl (decide (i ≤ j))))) : tE K Ex E (tOp (rI0 fun i j => .bl (decide (i ≤ j))) ta tb) ρ R := e_op (os_int fun _ _ => sc_bl) h
theorem e_gt (h : tE K Ex E ta ρ fun a => tE K Ex E tb ρ fun b => ∃ i j, a.dat = .int i ∧ b.dat = .int j ∧ R (.val (.bl (decide (j < i))))) : tE K Ex E (tOp (rI0 fun i j => .bl (decide (j < i))) ta tb) ρ R := e_op (os_int fun _ _ => sc_bl) h
theorem e_ge (h : tE K Ex E ta ρ fun a => tE K Ex E tb ρ fun b => ∃ i j, a.dat = .int i ∧ b.dat = .int j ∧ R (.val (.bl (decide (j ≤ i))))) : tE K Ex E (tOp (rI0 fun i j => .bl (decide (j ≤ i))) ta tb) ρ R := e_op (os_int fun _ _ => sc_bl) h
theorem e_neg (h : tE K Ex E ta ρ fun a => ∃ i, a.dat = .int i ∧ R (.val (.int (-i)))) : tE K Ex E (tUn (rU fun i => .int (-i)) ta) ρ R :=
  e_un (f := fun d k => ∃ i, d = .int i ∧ k (.int (-i))) (fun H x d Q k rx ⟨i, hd, hk⟩ hq => ⟨i, by subst hd; exact rx.inv_int, hq _ _ hk sc_int⟩) h
/-! chains of two comparisons of ints -/
theorem e_chainI {g1 g2 : Int → Int → Bool} {tc : TE}
    (h : tE K Ex E ta ρ fun a => tE K Ex E tb ρ fun b => ∃ i j, a.dat = .int i ∧ b.dat = .int j ∧ (g1 i j = true → tE K Ex E tc ρ fun z => ∃ m, z.dat = .int m ∧ R (.val (.bl (g2 j m)))) ∧ (g1 i j = false → R (.val (.bl false)))) :
    tE K Ex E (tChain (rI0 fun i j => .bl (g1 i j)) (rI0 fun i j => .bl (g2 i j)) ta tb tc) ρ R :=
  e_chain (os_int fun _ _ => sc_bl) (os_int fun _ _ => sc_bl) (h.imp fun a ha => ha.imp fun b ⟨i, j, h1, h2, h3, h4⟩ => ⟨i, j, h1, h2, g1 i j, rfl, fun q => (h3 q).imp fun z ⟨m, h5, h6⟩ => ⟨j, m, h2, h5, h6⟩, h4⟩)
/-! is -/
def isNon : D → Bool
  | .non => true
  | _ => false
theorem isNon_ok {H : Hp} : ∀ {x : V} {d : D}, Rp K H x d → decide (x = .non) = isNon d
  | _, _, .non => rfl
  | _, _, .bl _ => rfl
  | _, _, .int _ => rfl
  | _, _, .str _ => rfl
  | _, _, .ty _ => rfl
  | _, _, .cls _ => rfl
  | _, _, .tup _ _ => rfl
  | _, _, .lst _ _ => rfl
  | _, _, .fz _ _ => rfl
  | _, _, .exc _ _ => rfl
  | _, _, .dk0 _ => rfl
  | _, _, .pin _ => rfl
theorem os_isN : OpS K (fun x y H Q => y = .non ∧ Q (.bl (decide (x = .non))) H) fun d e k => e = .non ∧ k (.bl (isNon d)) := by
  intro H x y d e Q k rx ry hf hq
  obtain ⟨rfl, hk⟩ := hf
  refine ⟨ry.inv_non, ?_⟩
  rw [isNon_ok rx]
  exact hq _ _ hk sc_bl
theorem os_notN : OpS K (fun x y H Q => y = .non ∧ Q (.bl (!decide (x = .non))) H) fun d e k => e = .non ∧ k (.bl (!isNon d)) := by
  intro H x y d e Q k rx ry hf hq
  obtain ⟨rfl, hk⟩ := hf
  refine ⟨ry.inv_non, ?_⟩
  rw [isNon_ok rx]
  exact hq _ _ hk sc_bl
theorem e_isN (h : tE K Ex E ta ρ fun a => tE K Ex E tb ρ fun b => b.dat = .non ∧ R (.val (.bl (isNon a.dat)))) : tE K Ex E (tOp (fun x y H Q => y = .non ∧ Q (.bl (decide (x = .non))) H) ta tb) ρ R := e_op os_isN h
theorem e_notN (h : tE K Ex E ta ρ fun a => tE K Ex E tb ρ fun b => b.dat = .non ∧ R (.val (.bl (!isNon a.dat)))) : tE K Ex E (tOp (fun x y H Q => y = .non ∧ Q (.bl (!decide (x = .non))) H) ta tb) ρ R := e_op os_notN h
theorem e_isB (h : tE K Ex E ta ρ fun a => tE K Ex E tb ρ fun b => ∃ p q, a.dat = .bl p ∧ b.dat = .bl q ∧ R (.val (.bl (decide (p = q))))) : tE K Ex E (tOp (fun x y H Q => ∃ a b, x = .bl a ∧ y = .bl b ∧ Q (.bl (decide (a = b))) H) ta tb) ρ R :=
  e_op (f := fun d e k => ∃ p q, d = .bl p ∧ e = .bl q ∧ k (.bl (decide (p = q)))) (fun H x y d e Q k rx ry ⟨p, q, h1, h2, hk⟩ hq => ⟨p, q, by subst h1; exact rx.inv_bl, by subst h2; exact ry.inv_bl, hq _ _ hk sc_bl⟩) h
theorem e_isntB (h : tE K Ex E ta ρ fun a => tE K Ex E tb ρ fun b => ∃ p q, a.dat = .bl p ∧ b.dat = .bl q ∧ R (.val (.bl (!decide (p = q))))) : tE K Ex E (tOp (fun x y H Q => ∃ a b, x = .bl a ∧ y = .bl b ∧ Q (.bl (!decide (a = b))) H) ta tb) ρ R :=
  e_op (f := fun d e k => ∃ p q, d = .bl p ∧ e = .bl q ∧ k (.bl (!decide (p = q)))) (fun H x y d e Q k rx ry ⟨p, q, h1, h2, hk⟩ hq => ⟨p, q, by subst h1; exact rx.inv_bl, by subst h2; exact ry.inv_bl, hq _ _ hk sc_bl⟩) h
end
/-! ### == and != -/
mutual
def D.plain : D → Bool
  | .exc _ => false
  | .dk0 => false
  | .ty _ => false
  | .cls _ => false
  | .tup xs => plainAll xs
  | .lst xs => plainAll xs
  | .fz xs => plainAll xs
  | .pin _ d => d.plain
  | _ => true
def plainAll : List D → Bool
  | [] => true
  | x :: xs => x.plain && plainAll xs
end
mutual
def D.py : D → PyData
  | .non => .none
  | .bl b => .bool b
  | .int i => .int i
  | .str x => .str x
  | .tup xs => .tuple (pyAll xs)
  | .lst xs => .list (pyAll xs)
  | .fz xs => .list (pyAll xs)
  | .pin _ d => d.py
  | _ => .none
def pyAll : List D → List PyData
  | [] => []
  | x :: xs => x.py :: pyAll xs
end
mutual
/-- a bound of how deep data goes -/
def D.dep : D → Nat
  | .tup xs => depAll xs + 1
  | .lst xs => depAll xs + 1
  | .fz xs => depAll xs + 1
  | .pin _ d => d.dep
  | _ => 0
def depAll : List D → Nat
  | [] => 0
  | x :: xs => max x.dep (depAll xs)
end
def D.eqv (a b : D) : Bool := PyData.eqv a.py b.py
mutual
theorem py_plain : ∀ d : D, d.py.plain = true
  | .non => rfl
  | .bl _ => rfl
  | .int _ => rfl
  | .str _ => rfl
  | .tup xs => by rw [D.py, PyData.plain]; exact py_plainAll xs
  | .lst xs => by rw [D.py, PyData.plain]; exact py_plainAll xs
  | .fz xs => by rw [D.py, PyData.plain]; exact py_plainAll xs
  | .exc _ => rfl
  | .dk0 => rfl
  | .ty _ => rfl
  | .cls _ => rfl
  | .pin _ d => by rw [D.py]; exact py_plain d
theorem py_plainAll : ∀ xs : List D, PyData.plainAll (pyAll xs) = true
  | [] => rfl
  | x :: xs => by rw [pyAll, PyData.plainAll, py_plain x, py_plainAll xs]; rfl
end
mutual
theorem py_dep : ∀ d : D, d.py.depth ≤ d.dep
  | .non => Nat.le_refl _
  | .bl _ => Nat.le_refl _
  | .int _ => Nat.le_refl _
  | .str _ => Nat.le_refl _
  | .tup xs => by rw [D.py, D.dep, PyData.depth]; have := py_depAll xs; omega
  | .lst xs => by rw [D.py, D.dep, PyData.depth]; have := py_depAll xs; omega
  | .fz xs => by rw [D.py, D.dep, PyData.depth]; have := py_depAll xs; omega
  | .exc _ => Nat.le_refl _
  | .dk0 => Nat.le_refl _
  | .ty _ => Nat.le_refl _
  | .cls _ => Nat.le_refl _
  | .pin _ d => by rw [D.py, D.dep]; exact py_dep d
theorem py_depAll : ∀ xs : List D, PyData.depthAll (pyAll xs) ≤ depAll xs
  | [] => Nat.le_refl _
  | x :: xs => by rw [pyAll, depAll, PyData.depthAll]; have := py_dep x; have := py_depAll xs; omega
end
theorem eqv_self (d : D) : D.eqv d d = true := PySem.SeqAt.eqv_refl_plain d.py (py_plain d)
theorem depAll_le {n : Nat} : ∀ {xs : List D}, (∀ x ∈ xs, x.dep ≤ n) → depAll xs ≤ n
  | [], _ => Nat.zero_le _
  | x :: xs, h => by
    rw [depAll]
    have h1 := h x List.mem_cons_self
    have h2 := depAll_le fun y hy => h y (List.mem_cons_of_mem _ hy)
    omega
theorem plainAll_of : ∀ {xs : List D}, (∀ x ∈ xs, x.plain = true) → plainAll xs = true
  | [], _ => rfl
  | x :: xs, h => by
    rw [plainAll, h x List.mem_cons_self, plainAll_of fun y hy => h y (List.mem_cons_of_mem _ hy)]
    rfl
theorem immAll_of : ∀ {xs : List D}, (∀ x ∈ xs, x.imm = true) → immAll xs = true
  | [], _ => rfl
  | x :: xs, h => by
    rw [immAll, h x List.mem_cons_self, immAll_of fun y hy => h y (List.mem_cons_of_mem _ hy)]
    rfl
section
variable {K : PySem.W.Frag} {H : Hp}
mutual
theorem Rp.dp : ∀ {v : V} {d : D}, Rp K H v d → d.plain = true → Dp K H v d.py
  | _, _, .non, _ => .non
  | _, _, .bl b, _ => .bl b
  | _, _, .int i, _ => .int i
  | _, _, .str x, _ => .str x
  | _, _, .tup h r, z => by rw [D.py]; rw [D.plain] at z; exact .tup h (Rps.dp r z)
  | _, _, .lst h r, z => by rw [D.py]; rw [D.plain] at z; exact .lst (.inl (.inl h)) (Rps.dp r z)
  | _, _, .fz h r, z => by rw [D.py]; rw [D.plain] at z; exact .lst h (Rps.dp r z)
  | _, _, .exc _ _, z => by rw [D.plain] at z; cases z
  | _, _, .dk0 _, z => by rw [D.plain] at z; cases z
  | _, _, .ty _, z => by rw [D.plain] at z; cases z
  | _, _, .cls _, z => by rw [D.plain] at z; cases z
  | _, _, .pin h, z => by rw [D.py]; rw [D.plain] at z; exact Rp.dp h z
theorem Rps.dp : ∀ {vs : List V} {ds : List D}, Rps K H vs ds → plainAll ds = true → DpAll K H vs (pyAll ds)
  | _, _, .nil, _ => .nil
  | _, _, .cons h r, z => by
    rw [plainAll, Bool.and_eq_true] at z
    rw [pyAll]
    exact .cons (Rp.dp h z.1) (Rps.dp r z.2)
end
/-- data that may be compared -/
def CmpOk (a b : D) : Prop := a.plain = true ∧ b.plain = true ∧ min a.dep b.dep ≤ 64
def rEqU (K : PySem.W.Frag) : R2 := fun x y H Q => ∃ a b, Rp K H x a ∧ Rp K H y b ∧ CmpOk a b ∧ Q (.bl (D.eqv a b)) H
def rNeU (K : PySem.W.Frag) : R2 := fun x y H Q => ∃ a b, Rp K H x a ∧ Rp K H y b ∧ CmpOk a b ∧ Q (.bl (!D.eqv a b)) H
theorem op_eqU {X : Cx} {k : Nat} (hr : Room k X.A) : OpR X (compareOp .Eq) (rEqU X.K) := by
  intro pins s σ H x y v u Q I rx ry ⟨a, b, ra, rb, ⟨pa, pb, hd⟩, q⟩
  obtain ⟨as, r1⟩ := Dp.reads I a.py x v (ra.dp pa) rx
  obtain ⟨bs, r2⟩ := Dp.reads I b.py y u (rb.dp pb) ry
  have h1 := py_dep a
  have h2 := py_dep b
  have h3 := hr.un
  exact PySem.SeqAt.eq_plain r1 r2 (py_plain a) (py_plain b) (by omega) ⟨.bl _, H, I, rfl, q⟩
theorem op_neU {X : Cx} {k : Nat} (hr : Room k X.A) : OpR X (compareOp .NotEq) (rNeU X.K) := by
  intro pins s σ H x y v u Q I rx ry ⟨a, b, ra, rb, ⟨pa, pb, hd⟩, q⟩
  obtain ⟨as, r1⟩ := Dp.reads I a.py x v (ra.dp pa) rx
  obtain ⟨bs, r2⟩ := Dp.reads I b.py y u (rb.dp pb) ry
  have h1 := py_dep a
  have h2 := py_dep b
  have h3 := hr.un
  exact PySem.SeqAt.ne_plain r1 r2 (py_plain a) (py_plain b) (by omega) ⟨.bl _, H, I, rfl, q⟩
variable {Ex : Value → List Slot → Prop} {E : L2.St → XK} {ρ : List Slot} {R : Res → Prop} {ta tb : TE}
/-- what a comparison gives -/
def CmpD (a b : D) (c : Bool) : Prop := CmpOk a b ∧ D.eqv a b = c
theorem e_eq (h : tE K Ex E ta ρ fun a => tE K Ex E tb ρ fun b => ∃ c, CmpD a.dat b.dat c ∧ R (.val (.bl c))) : tE K Ex E (tOp (rEqU K) ta tb) ρ R :=
  e_op (f := fun d e k => ∃ c, CmpD d e c ∧ k (.bl c)) (fun H x y d e Q k rx ry ⟨c, ⟨hc, he⟩, hk⟩ hq => ⟨d, e, rx, ry, hc, hq _ _ (he ▸ hk) sc_bl⟩) h
theorem e_ne (h : tE K Ex E ta ρ fun a => tE K Ex E tb ρ fun b => ∃ c, CmpD a.dat b.dat c ∧ R (.val (.bl (!c)))) : tE K Ex E (tOp (rNeU K) ta tb) ρ R :=
  e_op (f := fun d e k => ∃ c, CmpD d e c ∧ k (.bl (!c))) (fun H x y d e Q k rx ry ⟨c, ⟨hc, he⟩, hk⟩ hq => ⟨d, e, rx, ry, hc, hq _ (.bl (!D.eqv d e)) (he ▸ hk) sc_bl⟩) h
theorem cmpd_int {i j : Int} : CmpD (.int i) (.int j) (decide (i = j)) := ⟨⟨rfl, rfl, Nat.zero_le _⟩, rfl⟩
theorem cmpd_bl {i j : Bool} : CmpD (.bl i) (.bl j) (decide (i = j)) := ⟨⟨rfl, rfl, Nat.zero_le _⟩, by cases i <;> cases j <;> rfl⟩
theorem cmpd_str {i j : Str} : CmpD (.str i) (.str j) (decide (i = j)) := ⟨⟨rfl, rfl, Nat.zero_le _⟩, rfl⟩
theorem cmpd_same {d : D} (h1 : d.plain = true) (h2 : d.dep ≤ 64) : CmpD d d true := ⟨⟨h1, h1, by omega⟩, eqv_self d⟩
theorem cmp_int {i j : Int} : CmpOk (.int i) (.int j) := ⟨rfl, rfl, Nat.zero_le _⟩
theorem eqv_int {i j : Int} : D.eqv (.int i) (.int j) = decide (i = j) := rfl
theorem eqv_bl {i j : Bool} : D.eqv (.bl i) (.bl j) = decide (i = j) := by cases i <;> cases j <;> rfl
theorem eqv_str {i j : Str} : D.eqv (.str i) (.str j) = decide (i = j) := rfl
/-! ### built-ins -/
def LenD (d : D) (n : Nat) : Prop := match d with
  | .str z => z.length ≤ sizeLine ∧ n = z.length
  | .tup ds => n = ds.length
  | .lst ds => n = ds.length
  | .fz ds => n = ds.length
  | _ => False
abbrev rLen (K : PySem.W.Frag) : List V → Hp → VK → Prop := fun xs H Q => ∃ x n, xs = [x] ∧ LenV K x H n ∧ Q (.int n) H
theorem lenD_ok {x : V} {d : D} {n : Nat} (r : Rp K H x d) (h : LenD d n) : LenV K x H n := by
  cases r with
  | str z => exact h
  | tup s q => exact .inr ⟨_, s, by rw [q.length]; exact h⟩
  | lst s q => exact .inl ⟨_, .inl (.inl s), by rw [q.length]; exact h⟩
  | fz s q => exact .inl ⟨_, s, by rw [q.length]; exact h⟩
  | _ => exact h.elim
theorem e_len (h : tE K Ex E ta ρ fun a => ∃ n, LenD a.dat n ∧ R (.val (.int n))) : tE K Ex E (tCB (rLen K) (tCons ta tNil)) ρ R :=
  fun G0 H0 G σ H Q S X k => h G0 H0 G σ H _ S X fun a ⟨n, hn, hr⟩ v G1 H1 e1 r1 => ⟨v, n, rfl, lenD_ok (r1.rd e1.sub) hn, k _ hr _ G1 H1 e1 (.int _)⟩
def tyD : D → Option String
  | .non => some "NoneType"
  | .bl _ => some "bool"
  | .int _ => some "int"
  | .str _ => some "str"
  | .tup _ => some "tuple"
  | .lst _ => some "list"
  | .fz _ => some "list"
  | .dk0 => some "dict"
  | _ => none
theorem tyD_ok {x : V} {d : D} {n : String} (r : Rp K H x d) (h : tyD d = some n) : TyX K H x (.type n) := by
  cases r with
  | non => cases h; exact .base .non
  | bl b => cases h; exact .base (.bl b)
  | int i => cases h; exact .base (.int i)
  | str z => cases h; exact .base (.str z)
  | ty _ => cases h
  | cls _ => cases h
  | pin _ => cases h
  | tup s q =>
    cases h
    rcases s with (s | ⟨o, s⟩) | ⟨o, its, m, e, c, _⟩
    · exact .base (.tup s)
    · exact .fTuple s
    · exact .kTuple e c
  | lst s q => cases h; exact .base (.lst s)
  | fz s q =>
    cases h
    rcases s with (s | ⟨o, s⟩) | ⟨o, its, m, e, c, _⟩
    · exact .base (.lst s)
    · exact .base (.frz s)
    · exact .kList e c
  | exc _ => cases h
  | dk0 s => cases h; exact .base (.dK s)
/-- isinstance(x, T), T a built-in class -/
theorem e_isi {T : String} (h : tE K Ex E ta ρ fun a => ∃ n b, tyD a.dat = some n ∧ kitB n T = some b ∧ R (.val (.bl b))) : tE K Ex E (tCB (rIsi K) (tCons ta (tCons (tC (.ty T)) tNil))) ρ R :=
  fun G0 H0 G σ H Q S X k => h G0 H0 G σ H _ S X fun a ⟨n, b, hn, hb, hr⟩ v G1 H1 e1 r1 => ⟨v, .ty T, .type n, .type T, b, rfl, .ty T, tyD_ok (r1.rd e1.sub) hn, kit_ty hb, k _ hr _ G1 H1 e1 (.bl _)⟩
theorem e_gcd (h : tE K Ex E ta ρ fun a => tE K Ex E tb ρ fun b => ∃ i j, a.dat = .int i ∧ b.dat = .int j ∧ R (.val (.int ((Nat.gcd i.natAbs j.natAbs : Nat) : Int)))) : tE K Ex E (tCB rGcd (tCons ta (tCons tb tNil))) ρ R :=
  fun G0 H0 G σ H Q S X k => h G0 H0 G σ H _ S X fun a ha v G1 H1 e1 r1 => ha G0 H0 G1 σ H1 _ (S.step e1) X fun b ⟨i, j, h1, h2, hr⟩ u G2 H2 e2 r2 => by
    have q := (r1.step e2).rd e2.sub
    rw [h1] at q
    have q2 := r2.rd e2.sub
    rw [h2] at q2
    exact ⟨i, j, by rw [q.inv_int, q2.inv_int], k _ hr _ G2 H2 (e1.trans e2) (.int _)⟩
abbrev rAbs : List V → Hp → VK → Prop := fun xs H Q => ∃ i, xs = [.int i] ∧ Q (.int (if i < 0 then -i else i)) H
theorem e_abs (h : tE K Ex E ta ρ fun a => ∃ i, a.dat = .int i ∧ R (.val (.int ((i.natAbs : Nat) : Int)))) : tE K Ex E (tCB rAbs (tCons ta tNil)) ρ R :=
  fun G0 H0 G σ H Q S X k => h G0 H0 G σ H _ S X fun a ⟨i, hi, hr⟩ v G1 H1 e1 r1 => by
    have q := r1.rd e1.sub
    rw [hi] at q
    have e : (if i < 0 then -i else i) = ((i.natAbs : Nat) : Int) := by split <;> omega
    exact ⟨i, by rw [q.inv_int], by rw [e]; exact k _ hr _ G1 H1 e1 (.int _)⟩
abbrev rMax2 : List V → Hp → VK → Prop := fun xs H Q => ∃ i j, xs = [.int i, .int j] ∧ Q (.int (if j > i then j else i)) H
theorem e_max2 (h : tE K Ex E ta ρ fun a => tE K Ex E tb ρ fun b => ∃ i j, a.dat = .int i ∧ b.dat = .int j ∧ R (.val (.int (max i j)))) : tE K Ex E (tCB rMax2 (tCons ta (tCons tb tNil))) ρ R :=
  fun G0 H0 G σ H Q S X k => h G0 H0 G σ H _ S X fun a ha v G1 H1 e1 r1 => ha G0 H0 G1 σ H1 _ (S.step e1) X fun b ⟨i, j, h1, h2, hr⟩ u G2 H2 e2 r2 => by
    have q := (r1.step e2).rd e2.sub
    rw [h1] at q
    have q2 := r2.rd e2.sub
    rw [h2] at q2
    have e : (if j > i then j else i) = max i j := by split <;> omega
    exact ⟨i, j, by rw [q.inv_int, q2.inv_int], by rw [e]; exact k _ hr _ G2 H2 (e1.trans e2) (.int _)⟩
/-- int(x) of an int or a bool -/
abbrev rInt1 : List V → Hp → VK → Prop := fun xs H Q => (∃ i, xs = [.int i] ∧ Q (.int i) H) ∨ ∃ k, xs = [.bl k] ∧ Q (.int (if k then 1 else 0)) H
theorem e_intB (h : tE K Ex E ta ρ fun a => ∃ b, a.dat = .bl b ∧ R (.val (.int (if b then 1 else 0)))) : tE K Ex E (tCB rInt1 (tCons ta tNil)) ρ R :=
  fun G0 H0 G σ H Q S X k => h G0 H0 G σ H _ S X fun a ⟨b, hb, hr⟩ v G1 H1 e1 r1 => by
    have q := r1.rd e1.sub
    rw [hb] at q
    exact .inr ⟨b, by rw [q.inv_bl], k _ hr _ G1 H1 e1 (.int _)⟩
abbrev rStrI : List V → Hp → VK → Prop := fun xs H Q => ∃ i, xs = [.int i] ∧ i.natAbs.log2 < 1920 ∧ Q (.str (toString i)) H
theorem e_strI (h : tE K Ex E ta ρ fun a => ∃ i : Int, a.dat = .int i ∧ i.natAbs.log2 < 1920 ∧ R (.val (.str (toString i)))) : tE K Ex E (tCB rStrI (tCons ta tNil)) ρ R :=
  fun G0 H0 G σ H Q S X k => h G0 H0 G σ H _ S X fun a ⟨i, hi, hl, hr⟩ v G1 H1 e1 r1 => by
    have q := r1.rd e1.sub
    rw [hi] at q
    exact ⟨i, by rw [q.inv_int], hl, k _ hr _ G1 H1 e1 (.str _)⟩
theorem rps_bl : ∀ {vs : List V} {bs : List Bool}, Rps K H vs (bs.map D.bl) → vs = bs.map V.bl
  | _, [], .nil => rfl
  | _, b :: bs, .cons h r => by
    rw [List.map_cons, h.inv_bl, rps_bl r]
theorem e_all (h : tE K Ex E ta ρ (vR fun d => ∃ bs : List Bool, d = .lst (bs.map D.bl) ∧ R (.val (.bl (bs.all id))))) : tE K Ex E (tCB (rAll K) (tCons ta tNil)) ρ R :=
  fun G0 H0 G σ H Q S X k => (v_of h) G0 H0 G σ H _ S X fun d ⟨bs, hd, hr⟩ v G1 H1 e1 r1 => by
    subst hd
    obtain ⟨a, xs, rfl, h1, h2⟩ := r1.inv_lst
    have e := rps_bl h2
    subst e
    exact ⟨a, bs, rfl, .inl (.inl (e1.sub _ _ h1)), k _ hr _ G1 H1 e1 (.bl _)⟩
/-- {} -/
theorem e_dk0 (h : R (.val .dk0)) : tE K Ex E tDNewK ρ R := fun G0 H0 G σ H Q S X k p np => k _ h _ (upd G p (.dK [])) _ (Ev.laid S.ev.sub np) (.dk0 upd_same)
end
/-! ### a def by name -/
structure Dfn (P : Program) (w : World) (K : PySem.W.Frag) (mg : Str → Option Value) (base : Heap) (CXx : CXT) (x : Str) (ps : List Str) (k : Nat) (fs : FSpec) : Prop where
  ex : ∃ (f : Addr) (fd : FuncData), mg x = some (.ref f) ∧ PySem.W.keepIn K (.ref f) = true ∧ Binds K fd ps [] ∧ FnOk P w K mg base CXx k f fd ps (spD K fs)
section
variable {X : Cx} {CXx : CXT} {ps : List Str} {k : Nat} {fs : FSpec} {x : Str} {p pos : Pos} {e : Expr} {es : List Expr} {t : TA} {E : XK}
theorem pe_dfnX (d : Dfn X.prog X.w X.K X.mg X.base CXx x ps k fs) (hr : Room k X.A) (hx : Passes CXx X E) (ha : PA X (e :: es) t) (hg : Gl X x := by rfl) (hdb : (x == ("__debug__" : Str)) = false := by decide)
    (he : starEach (e :: es) X.env = (false, eval e X.env) :: starEach es X.env := by rfl) (hpl : (backTo pos (starEach es X.env)).any (·.1) = false := by rfl) : PE X (.Call (.Name x p) (e :: es) [] pos) (tCall (spD X.K fs) [] E t) := by
  obtain ⟨f, fd, gm, kp, b, F⟩ := d.ex
  exact pe_call F hr hg gm kp b .nil hx ha hdb he hpl
theorem pe_dfn (d : Dfn X.prog X.w X.K X.mg X.base CX0 x ps k fs) (hr : Room k X.A) (ha : PA X (e :: es) t) (hg : Gl X x := by rfl) (hdb : (x == ("__debug__" : Str)) = false := by decide)
    (he : starEach (e :: es) X.env = (false, eval e X.env) :: starEach es X.env := by rfl) (hpl : (backTo pos (starEach es X.env)).any (·.1) = false := by rfl) : PE X (.Call (.Name x p) (e :: es) [] pos) (tCall (spD X.K fs) [] E0 t) :=
  pe_dfnX d hr pass0 ha hg hdb he hpl
theorem pt_tru {a : Expr} {ta : TE} (ha : PE X a ta) (he : ∀ whole, isTrue a X.env whole = (do let v ← whole; standAt a.pos; holding [v] (truthy v)) := by intro _; rfl) : PT X a (tTru X.K ta) := pt_truth ha he
end
end Y
end

section
namespace PySem.W
open PySem PySem.Calls PyProof.Rows Builtin Builtin.ObjectAttr Builtin.Getset_descriptor
section
variable {prog : Program} {w : World} {A : Around} {E : Value → Shared → Prop} {s : Shared} {K : Frag} {R : Result → Shared → Prop} {C : Addr} {v : Value}
/-- an own class's name: it was kept in the class's third slot when the class was made, so nothing is written -/
theorem ocn_get {tp : Value} {o : Obj} (inK : K.In s.heap) (lk : K.lookup C = some o) (sl : o.slots[2]? = some (some v)) (ty : typeIn K (.ref C) = some (.type "type")) (q : R (.ok (.ret v)) s) :
    codeAny (model prog w) A (.call (.builtin "getset_descriptor.__get__") ⟨[.builtin "type.__name__", .ref C, tp], []⟩) R s := by
  obtain ⟨hh, gg, dd, tt, oo⟩ := s
  have La : Looks (model prog w) hh (typeOf (.ref C)) (.type "type") := looks_typeIn inK ty
  have Lb : Looks (model prog w) hh (isSubtype (.type "type") (.type "type")) true := Looks.of_pure (by rw [isSubtype_type]; kernel_rfl)
  refine (codeAny_call_builtin KF.slot_gs.plain KF.entry_gs) (KF.slot_gs.check _ _ _ _ _ _ _ _ ktyn_type (KF.args_gs _ _ _) ?_)
  unfold Builtin.«getset_descriptor.__get__» descrGet; rw [dga_obj]
  apply wpAny_bind; apply wpAny_pure
  unfold descrGetter descrCheckInstance descrNameAndClass isInstance; simp only [ktyn_owner]
  repeat lk
  apply And.intro (Code.quiet_builtin _ (by decide +kernel)); apply codeAny_builtin ktyn_entry
  unfold Builtin.«type.__name__»; dsimp only
  unfold keptObject; dsimp only
  unfold slotAt
  refine wpAny_bind (wpAny_bind (wpAny_loadPart_at (inK _ _ lk) (wpAny_pure ?_)))
  rw [sl]
  first | exact wpAny_pure q | exact wpAny_bind (wpAny_pure (wpAny_pure q))
/-- C.__name__ of an own class at C -/
theorem ocn_attr {o : Obj} {expr : Bool} {Q : Value → Shared → Prop} (inK : K.In s.heap) (lk : K.lookup C = some o) (sl : o.slots[2]? = some (some v)) (ty : typeIn K (.ref C) = some (.type "type"))
    (rd : readsIn K C (.type "type") = true) (fc : findCls K (.ref C) (.type "type") "__name__" = some (.get (.builtin "getset_descriptor.__get__") (.builtin "type.__name__") (.ref C) (.type "type"))) (hi : handedIn v = true)
    (q : ∀ t, Q v { s with toks := t }) : wpAny (model prog w) A (getAttr (.ref C) "__name__" expr) Q E s := by
  apply cls_read inK rd fc
  show wpAny _ _ (do ret (← holding [Value.builtin "type.__name__"] (call (.builtin "getset_descriptor.__get__") [.builtin "type.__name__", .ref C, .type "type"]))) _ _ _
  refine wpAny_bind (wpAny_holding (wpAny_call (ocn_get (s := { s with toks := s.toks + 1 }) inK lk sl ty ?_)))
  refine wpAny_pure ?_
  show wpAny _ _ (handedOut v) _ _ _
  rw [handedOut_of hi]
  exact wpAny_pure (q _)
variable {x D : Addr} {ox : Obj} {od : Option Obj}
/-- e.__class__ of an exception of an own class -/
theorem oxc_attr {expr : Bool} {Q : Value → Shared → Prop} (cc : L2.ExcC K D) (inK : K.In s.heap) (I : InstAt s.heap x ox D od) (q : ∀ t, Q (.ref D) { s with toks := t }) : wpAny (model prog w) A (getAttr (.ref x) "__class__" expr) Q E s := by
  have isC : (clsIn K D).isSome = true := by obtain ⟨cd, hc, _⟩ := any_some cc.hd; rw [hc]; rfl
  have fo : findObj K D od "__class__" = some (.bind (.builtin "getset_descriptor.__get__") (.builtin "object.__class__")) := findObj_dataE isC cc.ha cc.hn cc.ht
  obtain ⟨hp, gg, dd, t, oo⟩ := s
  have La := I.type (M := model prog w)
  have Lb := looks_findIn (M := model prog w) inK cc.hg
  have Lc := looks_findIn (M := model prog w) inK cc.hk
  have Ld := looks_find (M := model prog w) inK I fo
  have isE : Looks (model prog w) hp (isInstance (.ref x) (.type "BaseException")) true := La.andThen (looks_subIn inK cc.hs)
  have n0 : (expr && onTheHeap (Value.builtin "BaseException.__getattribute__")) = false := by cases expr <;> rfl
  have n1 : (onTheHeap (Value.ref D) && Value.builtin "BaseException.__getattribute__" == Value.builtin "object.__getattribute__") = false := by
    rw [show (Value.builtin "BaseException.__getattribute__" == Value.builtin "object.__getattribute__") = false by decide +kernel]; rfl
  unfold getAttr getAttrBy
  apply wpAny_bind; apply wpAny_mkText; apply wpAny_holding; apply wpAny_bind; apply La.at; apply wpAny_bind; apply Lb.at
  show wpAny _ _ (if (onTheHeap (Value.ref D) && Value.builtin "BaseException.__getattribute__" == Value.builtin "object.__getattribute__") = true then _ else _) _ _ _
  rw [n1, if_neg Bool.false_ne_true]; unfold getAttrByItsOwn hookBefore
  apply wpAny_bind; rw [if_pos (show onTheHeap (Value.ref D) = true by rfl)]; apply Lc.at
  apply wpAny_bind; apply wpAny_attempt; apply wpAny_holding
  unfold callGetattribute; rw [n0, if_neg Bool.false_ne_true]
  unfold boundAndCalled; rw [PySem.F.excAttr_ValueError.ga.bind (.ref x)]
  apply wpAny_bind; apply wpAny_pure
  show wpAny _ _ (call (.builtin "BaseException.__getattribute__") [.ref x, .str "__class__" t]) _ _ _
  apply wpAny_call; apply codeAny_call_builtin PySem.F.excAttr_ValueError.ga.plain PySem.F.entry_bexc_ga
  refine @PySem.W.check_slot (model prog w) _ _ ⟨hp, gg, dd, t + 1, oo⟩ "BaseException.__getattribute__" "BaseException" "__getattribute__" (.ref x) [.str "__class__" t] [] _ (by decide +kernel) (by decide +kernel) isE (PySem.F.args_bexc_ga (.ref x) (.str "__class__" t)) ?_
  unfold Builtin.«object.__getattribute__»
  refine wpAny_bind (wpAny_of_eq (a := ((Value.ref x : Value), [Value.str "__class__" t])) (by first | rfl | (simp only [slotArgs]; rfl)) ?_)
  apply wpAny_bind; apply wpAny_pure; apply wpAny_bind; apply La.at; apply wpAny_bind; apply Ld.at
  show wpAny _ _ (holding [Value.builtin "object.__class__"] (call (.builtin "getset_descriptor.__get__") [.builtin "object.__class__", .ref x, .ref D]) >>= ret) _ _ _
  refine wpAny_bind (wpAny_holding (wpAny_call (class_get (s := ⟨hp, gg, dd, t + 1, oo⟩) (ox := ox) (od := od) inK I cc.hm ?_)))
  apply wpAny_pure
  show wpAny _ _ (handedOut (.ref D)) _ _ _
  rw [handedOut_of (v := .ref D) (by rfl)]
  first | exact wpAny_pure (q _) | exact wpAny_pure (wpAny_pure (q _))
end
end PySem.W
namespace Y
open PySem PySem.Spec PyProof.Rows L2
/-- what an own error's class tells as its name -/
structure NmC (K : PySem.W.Frag) (C : Addr) (nm : Str) : Prop where
  e : ExcC K C
  at_ : ∃ (o : Obj) (tk : Tok), K.lookup C = some o ∧ o.slots[2]? = some (some (.str nm tk))
  ty : PySem.W.typeIn K (.ref C) = some (.type "type")
  rd : PySem.W.readsIn K C (.type "type") = true
  fc : PySem.W.findCls K (.ref C) (.type "type") "__name__" = some (.get (.builtin "getset_descriptor.__get__") (.builtin "type.__name__") (.ref C) (.type "type"))
/-- e.__class__.__name__, e an error that is being made -/
def tClsN (K : PySem.W.Frag) (te : TE) : TE := fun σ H Q => te σ H fun x H1 => ∃ (a C : Addr) (nm : Str), x = .ref a ∧ H1 a = some (exo a C none) ∧ NmC K C nm ∧ Q (.str nm) H1
theorem pe_clsName {X : Cx} {e : Expr} {te : TE} {p1 p2 : Pos} (he : PE X e te) (hb1 : attributeBase e "__class__" X.env (eval e X.env) = eval e X.env := by rfl)
    (hb2 : attributeBase (.Attribute e "__class__" p1) "__name__" X.env (eval (.Attribute e "__class__" p1) X.env) = eval (.Attribute e "__class__" p1) X.env := by rfl) :
    PE X (.Attribute (.Attribute e "__class__" p1) "__name__" p2) (tClsN X.K te) := by
  refine ⟨fun pins s σ H Q I h => ?_⟩
  refine attr_of hb2 (attr_of hb1 (thn (he.run pins s σ H _ I h) fun u s1 ⟨x, H1, I1, rx, a, C, nm, ex, ea, nc, q⟩ => ?_))
  subst ex
  obtain rfl : u = Value.ref a := rx
  obtain ⟨t1, ho⟩ := exo_at I1.hok ea
  refine PySem.W.oxc_attr (od := none) nc.e I1.kIn ⟨ho, rfl, rfl, trivial⟩ fun t => ?_
  obtain ⟨o, tk, lk, sl⟩ := nc.at_
  refine PySem.W.ocn_attr (I1.tok t).kIn lk sl nc.ty nc.rd nc.fc (by rfl) fun t2 => ?_
  exact ⟨.str nm, H1, (I1.tok t).tok t2, ⟨tk, rfl⟩, q⟩
end Y
end

section
namespace Y
open PySem PySem.Spec PyProof.Rows L2
/-! ### errors that are caught and kept -/
section
variable {X : Cx} {pins : List (Addr × Obj)} {σ : L2.St} {H : Hp} {s : Shared}
theorem Inv.track {a C : Addr} {dx : Option Addr} {oe : Obj} {vs : Array Value} (I : Inv X ((a, oe) :: pins) σ H s) (n0 : X.s_0.heap.get? a = none) (np : ∀ p ∈ X.pn ++ pins, p.1 ≠ a) (z : Zc (.ref C) dx oe) (d : oe.data = .fields vs) : Inv X pins σ (upd H a (ExcO C dx a)) s := by
  have mem : (a, oe) ∈ X.pn ++ (a, oe) :: pins := List.mem_append_right _ List.mem_cons_self
  obtain ⟨ha, hn, hL, hF, hc⟩ := I.pin (a, oe) mem
  have ne : ∀ b o, X.s_0.heap.get? b = some o → b ≠ a := fun b o e q => by
    subst q
    rw [n0] at e
    cases e
  have nH : ∀ b o, H b = some o → b ≠ a := fun b o e q => by
    subst q
    rw [hn] at e
    cases e
  refine ⟨I.ok, I.os, I.bare, ⟨I.base.keep, I.base.slot, fun b o e q r => ?_, I.base.there, fun b xs e => ?_, fun b o xs e => ?_, fun b ps e => ?_⟩, I.loc, I.cell, ?_, fun x c e => ?_, fun p hp => ?_, ?_, I.len⟩
  · rw [upd_ne (ne b o e)]
    exact I.base.free b o e q r
  · have q := I.base.tups b xs e
    rw [upd_ne (nH _ _ q)]
    exact q
  · have q := I.base.frzs b o xs e
    rw [upd_ne (nH _ _ q)]
    exact q
  · obtain ⟨more, q⟩ := I.base.tbls b ps e
    exact ⟨more, by rw [upd_ne (nH _ _ q)]; exact q⟩
  · rw [upd_ne (Ne.symm hL)]
    exact I.free
  · rw [upd_ne]
    · exact I.freeC x c e
    · intro q
      subst q
      obtain ⟨v, o, ho, hd⟩ := I.cell x _ e
      have ha' : s.heap.get? c = some oe := ha
      rw [ha'] at ho
      have z2 := Option.some.inj ho
      subst z2
      exact hc v hd
  · have hp' : p ∈ X.pn ++ (a, oe) :: pins := by
      rcases List.mem_append.mp hp with h | h
      · exact List.mem_append_left _ h
      · exact List.mem_append_right _ (List.mem_cons_of_mem _ h)
    obtain ⟨h1, h2, h3, h4, h5⟩ := I.pin p hp'
    exact ⟨h1, by rw [upd_ne (np p hp)]; exact h2, h3, h4, h5⟩
  · intro b o e
    by_cases hb : b = a
    · subst hb
      rw [upd_same] at e
      have q := Option.some.inj e
      subst q
      exact ⟨⟨oe, vs, ha, z, d⟩, ⟨oe, ha⟩, fun _ _ ⟨o1, v1, q1, r1⟩ k => ⟨o1, v1, k o1 q1, r1⟩⟩
    · rw [upd_ne hb] at e
      refine (I.hok b o e).stay (fun _ _ _ q => q) (fun c q => ?_) fun c xs q => ?_
      · rw [upd_ne (nH _ _ q)]
        exact q
      · rw [upd_ne (nH _ _ q)]
        exact q
end
/-- what «except c as n: y = n» wishes of an error of the body: n in slot i, y in slot j; the error is kept -/
def wKeep (K : PySem.W.Frag) (c : Value) (i j : Nat) (D : Ends) : WX := fun cls d σ H =>
  ∃ C, cls = .ref C ∧ PySem.W.exmOne K cls c = some true ∧ ∀ a, H a = none → D.nx ((σ.set j (some (.ref a))).set i none) (upd H a (ExcO C d a))
section
variable {X : Cx} {x n y : Str} {c : Value} {i j : Nat} {body : List Stmt} {np p1 p2 p3 pos pos' : Pos} {tb : WX → TS}
theorem ps_try_keep (st1 : X.stack = X.env :: X.outer) (fr1 : X.env.frame = some X.env.locals) (nd1 : X.N.Nodup) (hi : X.N[i]? = some n) (hj : X.N[j]? = some y) (hij : i ≠ j) (lc1 : X.env.kindOf n = some .local) (ly : X.env.kindOf y = some .local) (nm : Names X x c) (nex : X.ex = [])
    (hn1 : (n == ("__debug__" : Str)) = false := by decide) (hn2 : (n == ("__classdict__" : Str)) = false := by decide)
    (hw1 : swapsWith (.Name n p2) (some (.Name y p1)) p3.line X.env = pure false)
    (bd : ∀ (W : WX) (pn : List (Addr × Obj)) (xe : Value → Shared → Prop), Takes (X.tr pn xe) W → PassesOwn (model X.prog X.w) X.A X.env xe → PSs (X.tr pn xe) body (tb W)) :
    PS X (.Try body [.ExceptHandler (some (.Name x np)) (some n) [.Assign [.Name y p1] (.Name n p2) p3] pos'] [] [] pos) (fun D σ H => tb (wKeep X.K c i j D) D σ H) := by
  refine ⟨fun pins s σ H D I h => ?_⟩
  have ok := I.ok
  have frames1 : X.A.frames = some (X.env :: X.outer) := ok.frames.trans (congrArg some st1)
  refine wpAny_Try_except ?_
  refine wpAny_mono ((bd (wKeep X.K c i j D) (X.pn ++ pins) (fun e s₁ => wpAny (model X.prog X.w) X.A (noteFrame e X.env)
    (fun _ s₂ => wpAny (model X.prog X.w) X.A (setFlight e none) (fun _ s₃ => wpAny (model X.prog X.w) X.A
      (handleBy e X.env [.ExceptHandler (some (.Name x np)) (some n) [.Assign [.Name y p1] (.Name n p2) p3] pos']) (SP X pins D) X.xe s₃) X.xe s₂) X.xe s₁)
    (fun u s' xx => ?_) PassesOwn.looking).run [] s σ H D (I.toTry _) h) (fun f s1 hsp => ?_) (fun _ _ he => he)
  · obtain ⟨a, B, sI, pn2, σ1, H1, cls, d, rfl, J0, keepB, up0, sky0, na, os1, ag1, C, rfl, hx, hyes⟩ := xx
    have J : Inv X pins σ1 H1 sI := J0.ofTry ok
    have sky1 : Sky B (X.env :: X.outer) a (Zc (.ref C) d) X.env.locals s'.heap := st1 ▸ sky0
    show wpAny (model X.prog X.w) X.A (noteFrame (.ref a) X.env) _ _ _
    refine Sky.land Zc.steady frames1 fr1 sky1 fun h3 fl3 up3 => ?_
    have J3 : Inv X pins σ1 H1 { s' with heap := h3 } := J.landed keepB fl3.1 (up0.trans up3) os1 ag1
    obtain ⟨oe3, vs3, he3, hz3, hd3⟩ := fl3.there
    -- the error's place is no frame's, and nothing stood there
    have nfr : a ∉ frs (X.env :: X.outer) := fun hm => by
      obtain ⟨_, o', e', hnf⟩ := fl3.2.2.1.mem hm
      rw [he3] at e'
      have q := Option.some.inj e'
      subst q
      exact hnf _ hd3
    have nL : a ≠ X.env.locals := fun q => nfr (List.mem_filterMap.mpr ⟨X.env, List.mem_cons_self, q ▸ fr1⟩)
    have nF : a ∉ X.fs := fun hm => by
      obtain ⟨e, he, q⟩ := List.mem_filterMap.mp hm
      exact nfr (List.mem_filterMap.mpr ⟨e, List.mem_cons_of_mem _ he, q⟩)
    have nI : sI.heap.get? a = none := by
      cases q : sI.heap.get? a with
      | none => rfl
      | some o =>
        have z := keepB a o q (st1 ▸ nfr)
        rw [fl3.2.1] at z
        cases z
    have n0 : X.s_0.heap.get? a = none := by
      cases q : X.s_0.heap.get? a with
      | none => rfl
      | some o =>
        obtain ⟨o', z⟩ := J.base.there a o q (by rw [nex]; exact fun z => nomatch z)
        rw [nI] at z
        cases z
    have npin : ∀ p ∈ X.pn ++ pins, p.1 ≠ a := fun p hp q => by
      have z := (J.pin p hp).1
      rw [q, nI] at z
      cases z
    have S3 := J3.suite he3 hd3 na nL nF
    refine wpAny_handleBy_cons (codeAny_handlers_test ?_) (by intro q; cases q)
    have lookT : PySem.W.Looks (model X.prog X.w) h3 (typeOf (.ref a)) (.ref C) := fun A Q E s k q => wpAny_typeOf_ref (k _ _ he3) (hz3.1.symm ▸ q)
    have look := PySem.W.exm_one (M := model X.prog X.w) (J3.kIn) lookT hx
    have named : ∀ {Q : Value → Shared → Prop} {E : Value → Shared → Prop}, Q c { s' with heap := h3 } →
        wpAny (model X.prog X.w) (X.A.mark (some (.ref a))) (eval (.Name x np) X.env) Q E { s' with heap := h3 } := fun {Q E} q => by
      obtain ⟨hg, hdb, hm | ⟨hm, hv, hnn⟩⟩ := nm
      · exact ld_glob (X := X.suite a ((a, oe3) :: (X.pn ++ pins))) S3 hg hm q hdb
      · exact ld_blt (X := X.suite a ((a, oe3) :: (X.pn ++ pins))) S3 hg hm hv q hnn hdb
    refine named (look.here ?_)
    refine codeAny_handlers_suite_as ?_
    refine HandSPX.lands_againZ fl3 fun h4 fl4 up4 => ?_
    have J4 : Inv X pins σ1 H1 { s' with heap := h4 } := J.landed keepB fl4.1 ((up0.trans up3).trans up4) os1 ag1
    obtain ⟨oe4, vs4, he4, hz4, hd4⟩ := fl4.there
    have S4 := J4.suite he4 hd4 na nL nF
    refine store_ok (X := X.suite a ((a, oe4) :: (X.pn ++ pins))) (v := .ref a) S4 nd1 hi (.inl lc1) rfl (fun s5 S5 => ?_) (.inr lc1)
    -- the suite: y = n
    have suite : PSs (X.suite a ((a, oe4) :: (X.pn ++ pins))) [.Assign [.Name y p1] (.Name n p2) p3] (tAsg (tVar i) (gName j)) :=
      pss_one (ps_set (X := X.suite a ((a, oe4) :: (X.pn ++ pins))) (i := j) nd1 hj (.inl ly) (pe_var hi (.inl lc1) hn1 hn2) hw1 (.inr ly))
    have hil : i < σ1.length := by
      rw [J.len]
      exact (List.getElem?_eq_some_iff.mp hi).1
    refine wpAny_mono (suite.run [] s5 _ H1 { nx := fun σ6 H6 => σ6 = (σ1.set i (some (.ref a))).set j (some (.ref a)) ∧ H6 = H1, rt := fun _ _ => False } S5 ⟨.ref a, get_set_eq hil, rfl, rfl⟩) (fun f s6 hsp => ?_) (fun _ _ z => False.elim z)
    cases f with
    | next =>
      obtain ⟨σ6, H6, S6, rfl, rfl⟩ := hsp
      have S7 : Inv X ((a, oe4) :: pins) ((σ1.set i (some (.ref a))).set j (some (.ref a))) H6 s6 :=
        ⟨ok, S6.os, S6.bare, S6.base, S6.loc, S6.cell, S6.free, S6.freeC, fun p hp => S6.pin p (by
          rw [List.append_nil]
          rcases List.mem_append.mp hp with q | q
          · exact List.mem_cons_of_mem _ (List.mem_append_left _ q)
          · rcases List.mem_cons.mp q with q | q
            · exact q ▸ List.mem_cons_self
            · exact List.mem_cons_of_mem _ (List.mem_append_right _ q)), S6.hok, S6.len⟩
      refine gone_ok S7 nd1 hi lc1 fun s7 J7 => ?_
      have J8 := Inv.track J7 n0 npin hz4 hd4
      have eσ : ((σ1.set i (some (V.ref a))).set j (some (.ref a))).set i none = (σ1.set j (some (.ref a))).set i none := by
        rw [List.set_comm _ _ hij, List.set_set]
      rw [eσ] at J8
      exact ⟨_, _, J8, hyes a na⟩
    | brk =>
      obtain ⟨_, _, _, q⟩ := hsp
      exact q.elim
    | cont =>
      obtain ⟨_, _, _, q⟩ := hsp
      exact q.elim
    | ret u =>
      obtain ⟨_, _, _, _, _, q⟩ := hsp
      exact q.elim
  · cases f with
    | next =>
      obtain ⟨σ', H', J, q⟩ := hsp
      exact wpAny_execs_nil ⟨σ', H', J.ofTry ok, q⟩
    | brk =>
      obtain ⟨σ', H', J, q⟩ := hsp
      exact ⟨σ', H', J.ofTry ok, q⟩
    | cont =>
      obtain ⟨σ', H', J, q⟩ := hsp
      exact ⟨σ', H', J.ofTry ok, q⟩
    | ret u =>
      obtain ⟨v, σ', H', J, r, q⟩ := hsp
      exact ⟨v, σ', H', J.ofTry ok, r, q⟩
end
/-- an error's own dict is shared -/
theorem Sig.dx {K : PySem.W.Frag} {G0 H0 G : Hp} {ρ : List Slot} {σ : L2.St} {H : Hp} {dx : Option Addr} (S : Sig K G0 H0 G ρ σ H) (h : DxOk dx H) : ∃ G', Same G G' ∧ Sig K G0 H0 G' ρ σ H ∧ DxOk dx G' := by
  cases dx with
  | none => exact ⟨G, Same.refl _, S, DxOk.none⟩
  | some d =>
    obtain ⟨fs, hd⟩ := h d rfl
    have gs : Same G (upd G d (.xd fs)) := fun b o e => by
      by_cases hb : b = d
      · subst hb
        have z := S.ev.sub _ _ e
        rw [hd] at z
        rw [upd_same]
        exact z
      · rw [upd_ne hb]
        exact e
    have sb : Same (upd G d (.xd fs)) H := fun b o e => by
      by_cases hb : b = d
      · subst hb
        rw [upd_same] at e
        rw [hd]
        exact e
      · rw [upd_ne hb] at e
        exact S.ev.sub _ _ e
    refine ⟨_, gs, S.step ⟨Same.refl _, gs, sb, fun b xs e g => ?_⟩, fun d' e => ?_⟩
    · rw [upd_ne fun z => by subst z; rw [hd] at e; cases e]
      exact g
    · cases e
      exact ⟨fs, upd_same⟩
/-- isinstance of such an error -/
def rIsX (K : PySem.W.Frag) : List V → Hp → VK → Prop := fun xs H Q => ∃ (a C : Addr) (dx : Option Addr) (c : V) (cv : Value) (b : Bool), xs = [.ref a, c] ∧ H a = some (ExcO C dx a) ∧ DxOk dx H ∧ ExcC K C ∧ (∀ u, RelV c u → u = cv) ∧ PySem.W.kitOne K (.ref C) cv = some b ∧ Q (.bl b) H
theorem call_isX {X : Cx} : CallR X (.builtin "isinstance") (rIsX X.K) := by
  intro pins s σ H xs us Q I r ⟨a, C, dx, c, cv, b, e0, ha, hdx, cc, hcv, e, q⟩
  subst e0
  cases r with
  | cons rx rr =>
    cases rr with
    | cons rt rr =>
      cases rr
      cases rx
      have ec := hcv _ rt
      subst ec
      obtain ⟨⟨oe, vs, hg, hz, hv⟩, _, _⟩ := I.hok a _ ha
      have J : ∃ od, PySem.W.InstAt s.heap a oe C od := by
        obtain ⟨oc, od, oda, osl⟩ := oe
        obtain ⟨h1, h2⟩ := hz
        dsimp only at h1 h2 hv
        subst h1 h2 hv
        cases od with
        | none => exact ⟨none, hg, rfl, rfl, trivial⟩
        | some d =>
          obtain ⟨fs, hd⟩ := hdx d rfl
          obtain ⟨mA, ⟨o, _, _, ho, _⟩, _⟩ := I.hok d _ hd
          exact ⟨some o, hg, rfl, rfl, ho⟩
      obtain ⟨od, J⟩ := J
      have isC : (PySem.W.clsIn X.K C).isSome = true := by
        obtain ⟨cd, hc, _⟩ := PySem.W.any_some cc.hd
        rw [hc]
        rfl
      exact PySem.W.kia_one (PySem.W.kitx_exc isC cc.hg cc.hk cc.hs cc.ha cc.hn cc.ht cc.hm) I.kIn J e (fun z => nomatch z) fun tk => ⟨.bl b, H, I.kept (t' := tk) fun _ _ z => z, rfl, q⟩
section
variable {K : PySem.W.Frag} {Ex : Value → List Slot → Prop} {E : L2.St → XK} {ρ : List Slot} {De : DE} {R : Res → Prop} {ta : TE}
theorem e_isX {c : V} {cv : Value} (hcv : ∀ u, RelV c u → u = cv) (h : tE K Ex E ta ρ fun a => ∃ C b, a.dat = .exc C ∧ ExcC K C ∧ PySem.W.kitOne K (.ref C) cv = some b ∧ R (.val (.bl b))) : tE K Ex E (tCB (rIsX K) (tCons ta (tCons (tC c) tNil))) ρ R :=
  fun G0 H0 G σ H Q S X k => h G0 H0 G σ H _ S X fun a ⟨C, b, hd, cc, hk, hr⟩ v G1 H1 e1 r1 => by
    have q := r1.rd e1.sub
    rw [hd] at q
    obtain ⟨l, dx, rfl, hl, hd⟩ := q.inv_exc
    exact ⟨l, C, dx, c, cv, b, rfl, hl, hd, cc, hcv, hk, k _ hr _ G1 H1 e1 (.bl _)⟩
theorem s_tryK {tb : WX → TS} {c : Value} {i j : Nat} (h : ∀ W : WX, tS K (fun e ρ' => ∃ C, e = .ref C ∧ PySem.W.exmOne K e c = some true ∧ De.nx ((ρ'.set j (.val (.exc C))).set i .emp)) (fun σ e d H => W e d σ H) (tb W) ρ De) :
    tS K Ex E (fun D σ H => tb (wKeep K c i j D) D σ H) ρ De :=
  fun G0 H0 G σ H D S X k => h (wKeep K c i j D) G0 H0 G σ H D S (fun e ρ' ⟨C, hC, hx, hn⟩ G1 σ' H' dx S1 hd => by
    subst hC
    obtain ⟨G', _, S', hdg⟩ := S1.dx hd
    refine ⟨C, rfl, hx, fun a na => ?_⟩
    have ev := Ev.laid (o := ExcO C dx a) S'.ev.sub na
    exact k.nx _ (upd G' a (ExcO C dx a)) _ _ hn (((S'.step ev).setVal (.exc upd_same (hdg.mono ev.gs))).setEmp)) k
end
/-! ### what the top holds -/
/-- built-ins that no name of the text hides -/
structure Bl (mg : Str → Option Value) : Prop where
  bLen : mg "len" = none
  bIsi : mg "isinstance" = none
  bRange : mg "range" = none
  bInt : mg "int" = none
  bStr : mg "str" = none
  bList : mg "list" = none
  bTuple : mg "tuple" = none
  bBool : mg "bool" = none
  bAbs : mg "abs" = none
  bMax : mg "max" = none
  bMin : mg "min" = none
  bAll : mg "all" = none
  bAny : mg "any" = none
  bEnum : mg "enumerate" = none
  bZip : mg "zip" = none
  bRepr : mg "repr" = none
  bSum : mg "sum" = none
  bSorted : mg "sorted" = none
  bVE : mg "ValueError" = none
/-- an own error's class: its name; what is raised and caught of it -/
structure Cl (mg : Str → Option Value) (x : Str) (C : Addr) : Prop where
  g : mg x = some (.ref C)
/-- what the errors' own __init__ does: its class's name stands in kind -/
def spWE (K : PySem.W.Frag) : Sp := fun vs H Q _ => ∃ (a C : Addr) (nm : Str) (why : V), vs = [.ref a, why] ∧ OexC K C ∧ NmC K C nm ∧ PySem.W.findIn K (.ref C) "kind" = some none ∧ H a = some (exo a C none) ∧
  ∀ dx, H dx = none → dx ≠ a → Q .non (upd (upd H dx (exd dx [("kind", .str nm)])) a (exo a C (some dx)))
/-- the errors' own __init__ -/
structure InitOk (P : Program) (w : World) (K : PySem.W.Frag) (mg : Str → Option Value) (base : Heap) (fI : Addr) : Prop where
  ty : PySem.W.typeIn K (.ref fI) = some (.type "function")
  ok : ∃ fd, Binds K fd ["self", "why"] [] ∧ FnOk P w K mg base CX0 1 fI fd ["self", "why"] (spWE K)
structure ClR (P : Program) (w : World) (K : PySem.W.Frag) (mg : Str → Option Value) (base : Heap) (C : Addr) : Prop where
  x : OexC K C
  n : ∃ nm, NmC K C nm
  kd : PySem.W.findIn K (.ref C) "kind" = some none
  t : PySem.W.typeIn K (.ref C) = some (.type "type")
  i : ∃ fI, PySem.W.findIn K (.ref C) "__init__" = some (some (.ref fI)) ∧ InitOk P w K mg base fI
theorem ClR.e {P : Program} {w : World} {K : PySem.W.Frag} {mg : Str → Option Value} {base : Heap} {C : Addr} (c : ClR P w K mg base C) : ExcC K C := let ⟨_, n⟩ := c.n; n.e
theorem ClR.r {P : Program} {w : World} {X : Cx} {mg : Str → Option Value} {base : Heap} {C : Addr} (c : ClR P w X.K mg base C) : Raises X (.ref C) := raises_own c.e.hs c.t
/-- a statement of a class's body -/
def clsStmt (s : Stmt) (i : Nat) : Stmt := match s with
  | .ClassDef _ _ _ body _ _ _ _ _ _ _ => body.getD i (.Pass ⟨0, 0, 0, 0⟩)
  | _ => .Pass ⟨0, 0, 0, 0⟩
/-- raise C('..') -/
theorem ps_rz {X : Cx} {C : Addr} {x m : Str} {k j : Nat} {p p2 pos pos' : Pos} {E : XK} (hc : X.calm = true) (tk : Takes X (fun cls d _ H => E cls d H)) (r : ClR X.prog X.w X.K X.mg X.base C) (gC : X.mg x = some (.ref C)) (hr : Room (k + 2) X.A) (hg : Gl X x := by rfl)
    (hdb : (x == ("__debug__" : Str)) = false := by decide) : PS X (.Raise (some (.Call (.Name x p) [.Constant (.str m) j p2] [] pos)) none pos') (tRz E C) := by
  obtain ⟨fI, iC, tI, fd, hb, F⟩ := r.i
  obtain ⟨nm, hn⟩ := r.n
  refine ⟨fun pins s σ H D I h => ?_⟩
  refine (ps_raise hc tk (pmk_oex (dvs := []) r.x iC tI F (hr.mono (by omega)) hb .nil pass0 hg gC (pa_cons pe_str pa_nil) hdb)).run pins s σ H D I ?_
  refine ⟨Nat.le_of_ble_eq_true rfl, fun a na => ⟨a, C, nm, .str m, rfl, r.x, hn, r.kd, upd_same, fun dx nd ne => ⟨rfl, dx, [("kind", .str nm)], upd_same, ?_, ?_, ?_⟩⟩⟩
  · rw [upd_ne ne, upd_same]
  · rw [upd_ne ne] at nd
    exact nd
  · rw [upd_ne ne] at nd
    refine h (some dx) _ (fun b o e => ?_) fun d e => ?_
    · have h1 : b ≠ dx := ne_of_none e nd
      have h2 : b ≠ a := ne_of_none e na
      rw [upd_ne h1, del_ne h2, upd_ne h2, upd_ne h1, upd_ne h2]
      exact e
    · cases e
      exact ⟨_, upd_same⟩
section
variable {X : Cx} {ps : List Str} {k : Nat} {fs : FSpec} {x : Str} {p pos : Pos} {e : Expr} {es : List Expr} {t : TA} {E : XK} {W : WX}
/-- a call of a def that may raise, where it doesn't -/
theorem pe_dfnN (d : Dfn X.prog X.w X.K X.mg X.base (L2.CX X.prog X.w) x ps k fs) (hr : Room k X.A) (ha : PA X (e :: es) t) (hg : Gl X x := by rfl) (hdb : (x == ("__debug__" : Str)) = false := by decide)
    (he : starEach (e :: es) X.env = (false, eval e X.env) :: starEach es X.env := by rfl) (hpl : (backTo pos (starEach es X.env)).any (·.1) = false := by rfl) : PE X (.Call (.Name x p) (e :: es) [] pos) (tCall (spD X.K fs) [] E0 t) :=
  pe_dfnX d hr (fun _ _ _ _ _ _ _ ⟨_, _, _, _, _, _, _, _, _, _, _, _, z⟩ => z.elim) ha hg hdb he hpl
/-- .. in a try's body -/
theorem pe_dfnS (d : Dfn X.prog X.w X.K X.mg X.base (L2.CX X.prog X.w) x ps k fs) (hr : Room k X.A) (tk : Takes X W) (ha : PA X (e :: es) t) (hg : Gl X x := by rfl) (hdb : (x == ("__debug__" : Str)) = false := by decide)
    (he : starEach (e :: es) X.env = (false, eval e X.env) :: starEach es X.env := by rfl) (hpl : (backTo pos (starEach es X.env)).any (·.1) = false := by rfl) : PE X (.Call (.Name x p) (e :: es) [] pos) (tCallS (spD X.K fs) (WE W) t) := by
  obtain ⟨f, fd, gm, kp, b, F⟩ := d.ex
  exact pe_callS F hr hg gm kp b (fun σ => passAt tk σ) ha hdb he hpl
end
end Y
end

section
namespace Y
open PySem PySem.Spec PyProof.Rows L2
def isIntD : D → Bool
  | .int _ => true
  | .bl _ => true
  | _ => false
def isBoolD : D → Bool
  | .bl _ => true
  | _ => false
def isTupD : D → Bool
  | .tup _ => true
  | _ => false
def isStrD : D → Bool
  | .str _ => true
  | _ => false
def isListD : D → Bool
  | .lst _ => true
  | .fz _ => true
  | _ => false
theorem kitInt : ∀ d : D, (tyD d).isSome = true → ∃ n, tyD d = some n ∧ kitB n "int" = some (isIntD d)
  | .non, _ => ⟨"NoneType", rfl, show kitB "NoneType" "int" = some false by decide +kernel⟩
  | .bl _, _ => ⟨"bool", rfl, show kitB "bool" "int" = some true by decide +kernel⟩
  | .int _, _ => ⟨"int", rfl, show kitB "int" "int" = some true by decide +kernel⟩
  | .str _, _ => ⟨"str", rfl, show kitB "str" "int" = some false by decide +kernel⟩
  | .tup _, _ => ⟨"tuple", rfl, show kitB "tuple" "int" = some false by decide +kernel⟩
  | .lst _, _ => ⟨"list", rfl, show kitB "list" "int" = some false by decide +kernel⟩
  | .fz _, _ => ⟨"list", rfl, show kitB "list" "int" = some false by decide +kernel⟩
  | .dk0, _ => ⟨"dict", rfl, show kitB "dict" "int" = some false by decide +kernel⟩
  | .exc _, h => nomatch h
  | .ty _, h => nomatch h
  | .cls _, h => nomatch h
theorem kitBool : ∀ d : D, (tyD d).isSome = true → ∃ n, tyD d = some n ∧ kitB n "bool" = some (isBoolD d)
  | .non, _ => ⟨"NoneType", rfl, show kitB "NoneType" "bool" = some false by decide +kernel⟩
  | .bl _, _ => ⟨"bool", rfl, show kitB "bool" "bool" = some true by decide +kernel⟩
  | .int _, _ => ⟨"int", rfl, show kitB "int" "bool" = some false by decide +kernel⟩
  | .str _, _ => ⟨"str", rfl, show kitB "str" "bool" = some false by decide +kernel⟩
  | .tup _, _ => ⟨"tuple", rfl, show kitB "tuple" "bool" = some false by decide +kernel⟩
  | .lst _, _ => ⟨"list", rfl, show kitB "list" "bool" = some false by decide +kernel⟩
  | .fz _, _ => ⟨"list", rfl, show kitB "list" "bool" = some false by decide +kernel⟩
  | .dk0, _ => ⟨"dict", rfl, show kitB "dict" "bool" = some false by decide +kernel⟩
  | .exc _, h => nomatch h
  | .ty _, h => nomatch h
  | .cls _, h => nomatch h
theorem kitTup : ∀ d : D, (tyD d).isSome = true → ∃ n, tyD d = some n ∧ kitB n "tuple" = some (isTupD d)
  | .non, _ => ⟨"NoneType", rfl, show kitB "NoneType" "tuple" = some false by decide +kernel⟩
  | .bl _, _ => ⟨"bool", rfl, show kitB "bool" "tuple" = some false by decide +kernel⟩
  | .int _, _ => ⟨"int", rfl, show kitB "int" "tuple" = some false by decide +kernel⟩
  | .str _, _ => ⟨"str", rfl, show kitB "str" "tuple" = some false by decide +kernel⟩
  | .tup _, _ => ⟨"tuple", rfl, show kitB "tuple" "tuple" = some true by decide +kernel⟩
  | .lst _, _ => ⟨"list", rfl, show kitB "list" "tuple" = some false by decide +kernel⟩
  | .fz _, _ => ⟨"list", rfl, show kitB "list" "tuple" = some false by decide +kernel⟩
  | .dk0, _ => ⟨"dict", rfl, show kitB "dict" "tuple" = some false by decide +kernel⟩
  | .exc _, h => nomatch h
  | .ty _, h => nomatch h
  | .cls _, h => nomatch h
theorem kitStr : ∀ d : D, (tyD d).isSome = true → ∃ n, tyD d = some n ∧ kitB n "str" = some (isStrD d)
  | .non, _ => ⟨"NoneType", rfl, show kitB "NoneType" "str" = some false by decide +kernel⟩
  | .bl _, _ => ⟨"bool", rfl, show kitB "bool" "str" = some false by decide +kernel⟩
  | .int _, _ => ⟨"int", rfl, show kitB "int" "str" = some false by decide +kernel⟩
  | .str _, _ => ⟨"str", rfl, show kitB "str" "str" = some true by decide +kernel⟩
  | .tup _, _ => ⟨"tuple", rfl, show kitB "tuple" "str" = some false by decide +kernel⟩
  | .lst _, _ => ⟨"list", rfl, show kitB "list" "str" = some false by decide +kernel⟩
  | .fz _, _ => ⟨"list", rfl, show kitB "list" "str" = some false by decide +kernel⟩
  | .dk0, _ => ⟨"dict", rfl, show kitB "dict" "str" = some false by decide +kernel⟩
  | .exc _, h => nomatch h
  | .ty _, h => nomatch h
  | .cls _, h => nomatch h
theorem kitList : ∀ d : D, (tyD d).isSome = true → ∃ n, tyD d = some n ∧ kitB n "list" = some (isListD d)
  | .non, _ => ⟨"NoneType", rfl, show kitB "NoneType" "list" = some false by decide +kernel⟩
  | .bl _, _ => ⟨"bool", rfl, show kitB "bool" "list" = some false by decide +kernel⟩
  | .int _, _ => ⟨"int", rfl, show kitB "int" "list" = some false by decide +kernel⟩
  | .str _, _ => ⟨"str", rfl, show kitB "str" "list" = some false by decide +kernel⟩
  | .tup _, _ => ⟨"tuple", rfl, show kitB "tuple" "list" = some false by decide +kernel⟩
  | .lst _, _ => ⟨"list", rfl, show kitB "list" "list" = some true by decide +kernel⟩
  | .fz _, _ => ⟨"list", rfl, show kitB "list" "list" = some true by decide +kernel⟩
  | .dk0, _ => ⟨"dict", rfl, show kitB "dict" "list" = some false by decide +kernel⟩
  | .exc _, h => nomatch h
  | .ty _, h => nomatch h
  | .cls _, h => nomatch h
section
variable {K : PySem.W.Frag} {Ex : Value → List Slot → Prop} {E : L2.St → XK} {ρ : List Slot} {R : Res → Prop} {ta : TE}
theorem e_isInt (h : tE K Ex E ta ρ fun a => (tyD a.dat).isSome = true ∧ R (.val (.bl (isIntD a.dat)))) : tE K Ex E (tCB (rIsi K) (tCons ta (tCons (tC (.ty "int")) tNil))) ρ R :=
  e_isi (h.imp fun a ⟨h1, h2⟩ => let ⟨n, h3, h4⟩ := kitInt a.dat h1; ⟨n, _, h3, h4, h2⟩)
theorem e_isBool (h : tE K Ex E ta ρ fun a => (tyD a.dat).isSome = true ∧ R (.val (.bl (isBoolD a.dat)))) : tE K Ex E (tCB (rIsi K) (tCons ta (tCons (tC (.ty "bool")) tNil))) ρ R :=
  e_isi (h.imp fun a ⟨h1, h2⟩ => let ⟨n, h3, h4⟩ := kitBool a.dat h1; ⟨n, _, h3, h4, h2⟩)
theorem e_isTup (h : tE K Ex E ta ρ fun a => (tyD a.dat).isSome = true ∧ R (.val (.bl (isTupD a.dat)))) : tE K Ex E (tCB (rIsi K) (tCons ta (tCons (tC (.ty "tuple")) tNil))) ρ R :=
  e_isi (h.imp fun a ⟨h1, h2⟩ => let ⟨n, h3, h4⟩ := kitTup a.dat h1; ⟨n, _, h3, h4, h2⟩)
theorem e_isStr (h : tE K Ex E ta ρ fun a => (tyD a.dat).isSome = true ∧ R (.val (.bl (isStrD a.dat)))) : tE K Ex E (tCB (rIsi K) (tCons ta (tCons (tC (.ty "str")) tNil))) ρ R :=
  e_isi (h.imp fun a ⟨h1, h2⟩ => let ⟨n, h3, h4⟩ := kitStr a.dat h1; ⟨n, _, h3, h4, h2⟩)
theorem e_isList (h : tE K Ex E ta ρ fun a => (tyD a.dat).isSome = true ∧ R (.val (.bl (isListD a.dat)))) : tE K Ex E (tCB (rIsi K) (tCons ta (tCons (tC (.ty "list")) tNil))) ρ R :=
  e_isi (h.imp fun a ⟨h1, h2⟩ => let ⟨n, h3, h4⟩ := kitList a.dat h1; ⟨n, _, h3, h4, h2⟩)
end
theorem vr_val {R : D → Prop} {d : D} (h : R d) : vR R (.val d) := h
theorem vr_own {R : D → Prop} {ds : List D} (h : R (.lst ds)) : vR R (.own ds) := h
theorem as_val {k : Slot → Prop} {d : D} (h : k (.val d)) : asgR k (.val d) := h
theorem as_own {k : Slot → Prop} {ds : List D} (h : k (.own ds)) : asgR k (.own ds) := h
theorem SS.same : ∀ {ρ ρ1 ρ2 : List Slot} {i : Nat} {s : Slot}, SS ρ i s ρ1 → SS ρ i s ρ2 → ρ2 = ρ1
  | _, _, _, _, _, .zero, .zero => rfl
  | _, _, _, _, _, .succ a, .succ b => by rw [SS.same a b]
theorem ss_go {ρ ρ1 : List Slot} {i : Nat} {s : Slot} {P : List Slot → Prop} (h1 : SS ρ i s ρ1) (h2 : P ρ1) : ∀ ρ', SS ρ i s ρ' → P ρ' := fun ρ' h => by
  rw [h1.same h]
  exact h2
/-- a test's two ways -/
theorem br2 {p : Prop} [Decidable p] {A B : Prop} (h1 : p → A) (h2 : ¬ p → B) : (decide p = true → A) ∧ (decide p = false → B) := ⟨fun h => h1 (of_decide_eq_true h), fun h => h2 (of_decide_eq_false h)⟩
theorem br2n {p : Prop} [Decidable p] {A B : Prop} (h1 : ¬ p → A) (h2 : p → B) : ((!decide p) = true → A) ∧ ((!decide p) = false → B) := ⟨fun h => h1 (by simpa using h), fun h => h2 (by simpa using h)⟩
theorem brT {A B : Prop} (h : A) : (true = true → A) ∧ (true = false → B) := ⟨fun _ => h, fun z => Bool.noConfusion z⟩
theorem brF {A B : Prop} (h : B) : (false = true → A) ∧ (false = false → B) := ⟨fun z => Bool.noConfusion z, fun _ => h⟩
theorem brF' {A B : Prop} (h : A) : (false = false → A) ∧ (false = true → B) := ⟨fun _ => h, fun z => Bool.noConfusion z⟩
theorem brT' {A B : Prop} (h : B) : (true = false → A) ∧ (true = true → B) := ⟨fun z => Bool.noConfusion z, fun _ => h⟩
theorem g_nameS {K : PySem.W.Frag} {W : Nat → Prop} {ρ ρ' : List Slot} {i : Nat} {d : D} {k : List Slot → Prop} (hw : W i) (s : SS ρ i (.val d) ρ') (h : k ρ') : tG K W (gName i) d ρ k := g_name hw (s.eq ▸ h)
section
variable {K : PySem.W.Frag} {Ex : Value → List Slot → Prop} {E : L2.St → XK} {ρ ρ' ρ2 : List Slot} {De : DE}
theorem s_seqJ {t u : TS} (J : List Slot → Prop) (h : tS K Ex E t ρ { De with nx := J }) (h2 : ∀ ρ', J ρ' → tS K Ex E u ρ' De) : tS K Ex E (tSeq t u) ρ De := s_seq (h.imp h2 (fun _ q => q) (fun _ q => q) fun _ q => q)
theorem s_parS {i j : Nat} {ta : TA} (h : tVs K Ex E ta ρ fun ds => ∃ d e, ds = [d, e] ∧ ∀ ρ', SS ρ i (.val d) ρ' → ∀ ρ2, SS ρ' j (.val e) ρ2 → De.nx ρ2) (hi : i < ρ.length) (hj : j < ρ.length) : tS K Ex E (tPar i j ta) ρ De := by
  have key : ∀ (l : List Slot) (j : Nat) (s : Slot), j < l.length → SS l j s (l.set j s) := by
    intro l
    induction l with
    | nil => intro j s hj; simp at hj
    | cons x r ih =>
      intro j s hj
      cases j with
      | zero => exact .zero
      | succ j => exact .succ (ih j s (by simpa using hj))
  refine s_par (fun G0 H0 G σ H Q S X k => h G0 H0 G σ H Q S X fun ds ⟨d, e, hd, hq⟩ => k ds ⟨d, e, hd, ?_⟩)
  exact hq _ (key ρ i _ hi) _ (key _ j _ (by rw [List.length_set]; exact hj))
theorem s_appendS {i : Nat} {te : TE} {ds : List D} (hi : ρ[i]? = some (.own ds)) (h : tE K Ex E te ρ (vR fun d => ds.length < sizeLine ∧ ∀ ρ', SS ρ i (.own (ds ++ [d])) ρ' → De.nx ρ')) : tS K Ex E (tDrop (tBM K "list" rAppend (tVar i) (tCons te tNil))) ρ De := by
  have key : ∀ (l : List Slot) (j : Nat) (s : Slot), j < l.length → SS l j s (l.set j s) := by
    intro l
    induction l with
    | nil => intro j s hj; simp at hj
    | cons x r ih =>
      intro j s hj
      cases j with
      | zero => exact .zero
      | succ j => exact .succ (ih j s (by simpa using hj))
  have imp : ∀ r, vR (fun d => ds.length < sizeLine ∧ ∀ ρ', SS ρ i (.own (ds ++ [d])) ρ' → De.nx ρ') r → vR (fun d => ds.length < sizeLine ∧ De.nx (ρ.set i (.own (ds ++ [d])))) r := fun r => by
    cases r with
    | val d => exact fun q => ⟨q.1, q.2 _ (key _ _ _ (List.getElem?_eq_some_iff.mp hi).1)⟩
    | own es => exact fun q => ⟨q.1, q.2 _ (key _ _ _ (List.getElem?_eq_some_iff.mp hi).1)⟩
    | bor es => exact fun q => q
  exact s_append hi (h.imp imp)
theorem s_dropS {t : TS} {i : Nat} (s : SS ρ i .emp ρ') (h : tS K Ex E t ρ' De) : tS K Ex E t ρ De := s_drop i (s.eq ▸ h)
theorem s_freezeS {t : TS} {i : Nat} {ds : List D} (hi : ρ[i]? = some (.own ds)) (s : SS ρ i (.val (.lst ds)) ρ') (h : tS K Ex E t ρ' De) : tS K Ex E t ρ De := s_freeze hi (s.eq ▸ h)
end
theorem add_int {R : Res → Prop} {i j : Int} (h : R (.val (.int (i + j)))) : AddD (.int i) (.int j) R := .inl ⟨i, j, rfl, rfl, h⟩
theorem add_lst {R : Res → Prop} {ds es : List D} (hl : ds.length + es.length ≤ sizeLine) (h : R (.own (ds ++ es))) : AddD (.lst ds) (.lst es) R := .inr (.inr ⟨ds, es, rfl, rfl, hl, h⟩)
theorem add_str {R : Res → Prop} {x y : Str} (hl : x.length + y.length ≤ sizeLine) (h : R (.val (.str (x ++ y)))) : AddD (.str x) (.str y) R := .inr (.inl ⟨x, y, rfl, rfl, hl, h⟩)
theorem mul_int {R : Res → Prop} {i j : Int} (hc : CMulW i j) (h : R (.val (.int (i * j)))) : MulD (.int i) (.int j) R := .inl ⟨i, j, rfl, rfl, hc, h⟩
/-- numbers of a size that products bear -/
def Sm (n : Nat) (i : Int) : Prop := i.natAbs < 2 ^ n
theorem Sm.le {n m : Nat} {i : Int} (h : Sm n i) (k : n ≤ m) : Sm m i := Nat.lt_of_lt_of_le h (Nat.pow_le_pow_right (by decide) k)
theorem Sm.mul {n m : Nat} {i j : Int} (h : Sm n i) (k : Sm m j) : Sm (n + m) (i * j) := wide_lt h k
theorem Sm.add {n : Nat} {i j : Int} (h : Sm n i) (k : Sm n j) : Sm (n + 1) (i + j) := by
  unfold Sm at *
  rw [Nat.pow_succ]
  omega
theorem Sm.sub {n : Nat} {i j : Int} (h : Sm n i) (k : Sm n j) : Sm (n + 1) (i - j) := by
  unfold Sm at *
  rw [Nat.pow_succ]
  omega
theorem Sm.neg {n : Nat} {i : Int} (h : Sm n i) : Sm n (-i) := by
  unfold Sm at *
  omega
theorem Sm.mod {n : Nat} {i j : Int} (h : Sm n j) (k : 0 < j) : Sm n (i % j) := by
  unfold Sm at *
  have h1 := Int.emod_nonneg i (show j ≠ 0 by omega)
  have h2 := Int.emod_lt_of_pos i k
  omega
theorem Sm.nat {n : Nat} {a : Nat} (h : a < 2 ^ n) : Sm n (a : Int) := h
theorem Sm.abs {n : Nat} {i : Int} (h : Sm n i) : Sm n ((i.natAbs : Nat) : Int) := h
theorem mulOk {i j : Int} {n m : Nat} (hi : Sm n i) (hj : Sm m j) (h0 : 0 < n) (h1 : 0 < m) (h : n + m ≤ 1000000) : CMulW i j := wide_mul hi hj h0 h1 h
theorem divOk {i j : Int} {n : Nat} (h : j ≠ 0) (hj : Sm n j) (h0 : 0 < n) (h1 : n ≤ 9000) : CDivX i j := ⟨h, Nat.lt_of_lt_of_le (PySem.Flt.log2_lt_of h0 hj) h1⟩
theorem small_len {ds : List D} (h : ds.length ≤ 100) : ds.length ≤ sizeLine := Nat.le_trans h (by decide)
theorem small_lt {n : Nat} (h : n ≤ 1000) : n < sizeLine := Nat.lt_of_le_of_lt h (by decide)
/-- a def by name, of which some defaults fill up -/
structure DfnD (P : Program) (w : World) (K : PySem.W.Frag) (mg : Str → Option Value) (base : Heap) (CXx : CXT) (x : Str) (ps : List Str) (dvs : List V) (k : Nat) (fs : FSpec) : Prop where
  ex : ∃ (f : Addr) (fd : FuncData) (ds : List Value), mg x = some (.ref f) ∧ PySem.W.keepIn K (.ref f) = true ∧ Vals dvs ds ∧ Binds K fd ps ds ∧ FnOk P w K mg base CXx k f fd ps (spD K fs)
section
variable {X : Cx} {CXx : CXT} {ps : List Str} {dvs : List V} {k : Nat} {fs : FSpec} {x : Str} {p pos : Pos} {e : Expr} {es : List Expr} {t : TA} {E : XK}
theorem pe_dfnXD (d : DfnD X.prog X.w X.K X.mg X.base CXx x ps dvs k fs) (hr : Room k X.A) (hx : Passes CXx X E) (ha : PA X (e :: es) t) (hg : Gl X x := by rfl) (hdb : (x == ("__debug__" : Str)) = false := by decide)
    (he : starEach (e :: es) X.env = (false, eval e X.env) :: starEach es X.env := by rfl) (hpl : (backTo pos (starEach es X.env)).any (·.1) = false := by rfl) : PE X (.Call (.Name x p) (e :: es) [] pos) (tCall (spD X.K fs) dvs E t) := by
  obtain ⟨f, fd, ds, gm, kp, hv, b, F⟩ := d.ex
  exact pe_call F hr hg gm kp b hv hx ha hdb he hpl
theorem pe_dfnND (d : DfnD X.prog X.w X.K X.mg X.base (L2.CX X.prog X.w) x ps dvs k fs) (hr : Room k X.A) (ha : PA X (e :: es) t) (hg : Gl X x := by rfl) (hdb : (x == ("__debug__" : Str)) = false := by decide)
    (he : starEach (e :: es) X.env = (false, eval e X.env) :: starEach es X.env := by rfl) (hpl : (backTo pos (starEach es X.env)).any (·.1) = false := by rfl) : PE X (.Call (.Name x p) (e :: es) [] pos) (tCall (spD X.K fs) dvs E0 t) :=
  pe_dfnXD d hr (fun _ _ _ _ _ _ _ ⟨_, _, _, _, _, _, _, _, _, _, _, _, z⟩ => z.elim) ha hg hdb he hpl
end
theorem brA {c : Bool} {A B : Prop} (e : c = true) (h : A) : (c = true → A) ∧ (c = false → B) := ⟨fun _ => h, fun z => absurd z (by rw [e]; decide)⟩
theorem brB {c : Bool} {A B : Prop} (e : c = false) (h : B) : (c = true → A) ∧ (c = false → B) := ⟨fun z => absurd z (by rw [e]; decide), fun _ => h⟩
theorem brA' {c : Bool} {A B : Prop} (e : c = false) (h : A) : (c = false → A) ∧ (c = true → B) := ⟨fun _ => h, fun z => absurd z (by rw [e]; decide)⟩
theorem brB' {c : Bool} {A B : Prop} (e : c = true) (h : B) : (c = false → A) ∧ (c = true → B) := ⟨fun z => absurd z (by rw [e]; decide), fun _ => h⟩
theorem br2' {p : Prop} [Decidable p] {A B : Prop} (h1 : ¬ p → A) (h2 : p → B) : (decide p = false → A) ∧ (decide p = true → B) := ⟨fun h => h1 (of_decide_eq_false h), fun h => h2 (of_decide_eq_true h)⟩
theorem br2n' {p : Prop} [Decidable p] {A B : Prop} (h1 : p → A) (h2 : ¬ p → B) : ((!decide p) = false → A) ∧ ((!decide p) = true → B) := ⟨fun h => h1 (by simpa using h), fun h => h2 (by simpa using h)⟩
theorem Sm.add2 {n m : Nat} {i j : Int} (h : Sm n i) (k : Sm m j) : Sm (max n m + 1) (i + j) := Sm.add (Sm.le h (Nat.le_max_left _ _)) (Sm.le k (Nat.le_max_right _ _))
theorem Sm.sub2 {n m : Nat} {i j : Int} (h : Sm n i) (k : Sm m j) : Sm (max n m + 1) (i - j) := Sm.sub (Sm.le h (Nat.le_max_left _ _)) (Sm.le k (Nat.le_max_right _ _))
theorem mul_rep {R : Res → Prop} {d : D} {m : Nat} (hm : m ≤ 1000) (h : R (.own (List.replicate m d))) : MulD (.lst [d]) (.int (m : Int)) R := by
  refine .inr ⟨[d], m, rfl, rfl, by omega, by omega, ?_, ?_⟩
  · show 1 * ((m : Nat) : Int).toNat ≤ sizeLine
    exact Nat.le_trans (by omega : 1 * ((m : Nat) : Int).toNat ≤ 1000) (by decide)
  · rw [show ((m : Nat) : Int).toNat = m from rfl]
    have e : (List.replicate m [d]).flatten = List.replicate m d := by
      clear h hm
      induction m with
      | zero => rfl
      | succ n ih => rw [List.replicate_succ, List.flatten_cons, ih]; rfl
    rw [e]
    exact h
theorem ixd_any {ds : List D} {i : Int} (h0 : 0 ≤ i) (h1 : i < ds.length) : ∃ d, d ∈ ds ∧ atI ds i = some d := by
  obtain ⟨n, rfl⟩ := Int.eq_ofNat_of_zero_le h0
  have hn : n < ds.length := by
    have z : ((n : Nat) : Int) < ((ds.length : Nat) : Int) := h1
    omega
  exact ⟨ds[n], List.getElem_mem hn, atI_nat (List.getElem?_eq_getElem hn)⟩
theorem small_len' {n : Nat} (h : n ≤ 1000) : n ≤ sizeLine := Nat.le_trans h (by decide)

end Y
end

section
namespace Y
open PySem PySem.Spec PyProof.Rows L2
section
variable {K : PySem.W.Frag} {Ex : Value → List Slot → Prop} {E : L2.St → XK} {ρ : List Slot} {R : Res → Prop}
theorem t_yes {R : Bool → Prop} (h : R true) : tT K Ex E tYes ρ R := fun G0 H0 G σ H Q S X k => k true h G H (Ev.refl S.ev.sub)
/-- [f(x) for x in xs if p(x)] -/
theorem e_lcF {wi : TI} {g : TG} {tt : TT} {te : TE} {vs : List Nat} (f : D → D) (p : D → Bool) (h : tIc K Ex E wi ρ fun ds => ds.length ≤ sizeLine ∧
      (∀ d ∈ ds, tG K (· ∈ vs) g d (wipeS ρ vs) fun ρ2 => tT K (fun _ _ => False) E tt ρ2 fun b => b = p d ∧ (b = true → tE K (fun _ _ => False) E te ρ2 (vR fun y => y = f d))) ∧
      R (.own ((ds.filter p).map f))) : tE K Ex E (tLc wi g tt te vs) ρ R := by
  refine e_lc fun G0 H0 G σ H Q S X k => h G0 H0 G σ H Q S X fun ds ⟨h1, h2, h3⟩ J G' H' e w => k ds ⟨h1, fun i outs => outs = ((ds.take i).filter p).map f, by simp, fun i d outs hd ho => ?_, fun outs ho _ => ?_⟩ J G' H' e w
  · have step : ds.take (i + 1) = ds.take i ++ [d] := by rw [List.take_add_one, hd]; rfl
    have q := h2 d (List.mem_of_getElem? hd)
    intro G0 H0 G σ H v Q S r kk
    refine q G0 H0 G σ H v Q S r fun ρ' σ' ht S' hj => kk ρ' σ' ?_ S' hj
    intro G0 H0 G σ H Q S X kk2
    refine ht G0 H0 G σ H Q S X fun b ⟨hb, he⟩ G2 H2 e2 => kk2 b ⟨fun hb1 => (he hb1).imp fun r hr => ?_, fun hb0 => ?_⟩ G2 H2 e2
    · have pd : p d = true := by rw [← hb, hb1]
      have fin : ∀ y, y = f d → outs ++ [y] = ((ds.take (i + 1)).filter p).map f := fun y hy => by
        rw [step, List.filter_append, List.map_append, ho, hy]
        simp [pd]
      cases r with
      | val y => exact fin y hr
      | own es => exact fin _ hr
      | bor es => exact hr
    · have pd : p d = false := by rw [← hb, hb0]
      show outs = ((ds.take (i + 1)).filter p).map f
      rw [step, List.filter_append, List.map_append, ho]
      simp [pd]
  · have ho' : outs = ((ds.take ds.length).filter p).map f := ho
    rw [List.take_length] at ho'
    rw [ho']
    exact h3
/-- [f(x) for x in xs] -/
theorem e_lcM {wi : TI} {g : TG} {te : TE} {vs : List Nat} (f : D → D) (h : tIc K Ex E wi ρ fun ds => ds.length ≤ sizeLine ∧
      (∀ d ∈ ds, tG K (· ∈ vs) g d (wipeS ρ vs) fun ρ2 => tE K (fun _ _ => False) E te ρ2 (vR fun y => y = f d)) ∧ R (.own (ds.map f))) : tE K Ex E (tLc wi g tYes te vs) ρ R :=
  e_lcF f (fun _ => true) fun G0 H0 G σ H Q S X k => h G0 H0 G σ H Q S X fun ds ⟨h1, h2, h3⟩ J G' H' e w =>
    k ds ⟨h1, fun d hd G0 H0 G σ H v Q S r kk => h2 d hd G0 H0 G σ H v Q S r fun ρ' σ' ht S' hj => kk ρ' σ' (t_yes ⟨rfl, fun _ => ht⟩) S' hj, by
      rw [List.filter_eq_self.mpr fun _ _ => rfl]
      exact h3⟩ J G' H' e w
end
end Y
namespace Y
open PySem PySem.Spec PyProof.Rows L2
/-- a try whose error is kept -/
def tTryK (K : PySem.W.Frag) (c : Value) (i j : Nat) (tb : WX → TS) : TS := fun D σ H => tb (wKeep K c i j D) D σ H
theorem s_tryKK {K : PySem.W.Frag} {Ex : Value → List Slot → Prop} {E : L2.St → XK} {ρ : List Slot} {De : DE} {tb : WX → TS} {c : Value} {i j : Nat} (h : ∀ W : WX, tS K (fun e ρ' => ∃ C, e = .ref C ∧ PySem.W.exmOne K e c = some true ∧ De.nx ((ρ'.set j (.val (.exc C))).set i .emp)) (WE W) (tb W) ρ De) :
    tS K Ex E (tTryK K c i j tb) ρ De := s_tryK h
/-! the rules with the written part named: within blocks and try's bodies -/
section
variable {X : Cx} {K : PySem.W.Frag} {k : Nat}
theorem op_eqK (hr : Room k X.A) (hK : X.K = K := by rfl) : OpR X (compareOp .Eq) (rEqU K) := by subst hK; exact op_eqU hr
theorem op_neK (hr : Room k X.A) (hK : X.K = K := by rfl) : OpR X (compareOp .NotEq) (rNeU K) := by subst hK; exact op_neU hr
theorem ix_K (hK : X.K = K := by rfl) : IxR X (rIx K) := by subst hK; exact ix_seq
theorem sl_K (hK : X.K = K := by rfl) : SlR X (rSlU K) := by subst hK; exact sl_U
theorem call_lenK (hK : X.K = K := by rfl) : CallR X (.builtin "len") (rLen K) := by subst hK; exact call_len
theorem call_isiK (hK : X.K = K := by rfl) : CallR X (.builtin "isinstance") (rIsi K) := by subst hK; exact call_isi
theorem call_isXK (hK : X.K = K := by rfl) : CallR X (.builtin "isinstance") (rIsX K) := by subst hK; exact call_isX
theorem call_listK (hK : X.K = K := by rfl) : CallR X (.type "list") (rListU K) := by subst hK; exact call_list_of
theorem cr_allK (hc : X.calm = true) (hK : X.K = K := by rfl) : CallR X (.builtin "all") (rAll K) := by subst hK; exact cr_all hc
theorem pi_listK {tg l : Expr} {tl : TE} (hl : PE X l tl) (hK : X.K = K := by rfl) : PI X tg l (iList K tl) := by subst hK; exact pi_list hl
theorem pi_tupK {tg l : Expr} {tl : TE} (hl : PE X l tl) (hK : X.K = K := by rfl) : PI X tg l (iTup K tl) := by subst hK; exact pi_tup hl
theorem pt_truK {a : Expr} {ta : TE} (ha : PE X a ta) (hK : X.K = K := by rfl) (he : ∀ whole, isTrue a X.env whole = (do let v ← whole; standAt a.pos; holding [v] (truthy v)) := by intro _; rfl) : PT X a (tTru K ta) := by subst hK; exact pt_truth ha he
variable {CXx : CXT} {ps : List Str} {fs : FSpec} {x : Str} {p pos : Pos} {e : Expr} {es : List Expr} {t : TA} {E : XK} {W : WX} {P : Program} {w : World} {mg : Str → Option Value} {base : Heap} {dvs : List V}
theorem pe_dK (d : Dfn P w K mg base CX0 x ps k fs) (hr : Room k X.A) (ha : PA X (e :: es) t) (hP : X.prog = P := by rfl) (hw : X.w = w := by rfl) (hK : X.K = K := by rfl) (hmg : X.mg = mg := by rfl) (hb : X.base = base := by rfl) (hg : Gl X x := by rfl) (hdb : (x == ("__debug__" : Str)) = false := by decide)
    (he : starEach (e :: es) X.env = (false, eval e X.env) :: starEach es X.env := by rfl) (hpl : (backTo pos (starEach es X.env)).any (·.1) = false := by rfl) : PE X (.Call (.Name x p) (e :: es) [] pos) (tCall (spD K fs) [] E0 t) := by
  subst hP hw hK hmg hb
  exact pe_dfn d hr ha hg hdb he hpl
theorem pe_dNK (d : Dfn P w K mg base (L2.CX P w) x ps k fs) (hr : Room k X.A) (ha : PA X (e :: es) t) (hP : X.prog = P := by rfl) (hw : X.w = w := by rfl) (hK : X.K = K := by rfl) (hmg : X.mg = mg := by rfl) (hb : X.base = base := by rfl) (hg : Gl X x := by rfl) (hdb : (x == ("__debug__" : Str)) = false := by decide)
    (he : starEach (e :: es) X.env = (false, eval e X.env) :: starEach es X.env := by rfl) (hpl : (backTo pos (starEach es X.env)).any (·.1) = false := by rfl) : PE X (.Call (.Name x p) (e :: es) [] pos) (tCall (spD K fs) [] E0 t) := by
  subst hP hw hK hmg hb
  exact pe_dfnN d hr ha hg hdb he hpl
theorem pe_dNDK (d : DfnD P w K mg base (L2.CX P w) x ps dvs k fs) (hr : Room k X.A) (ha : PA X (e :: es) t) (hP : X.prog = P := by rfl) (hw : X.w = w := by rfl) (hK : X.K = K := by rfl) (hmg : X.mg = mg := by rfl) (hb : X.base = base := by rfl) (hg : Gl X x := by rfl) (hdb : (x == ("__debug__" : Str)) = false := by decide)
    (he : starEach (e :: es) X.env = (false, eval e X.env) :: starEach es X.env := by rfl) (hpl : (backTo pos (starEach es X.env)).any (·.1) = false := by rfl) : PE X (.Call (.Name x p) (e :: es) [] pos) (tCall (spD K fs) dvs E0 t) := by
  subst hP hw hK hmg hb
  exact pe_dfnND d hr ha hg hdb he hpl
theorem pe_dXK (d : Dfn P w K mg base (L2.CX P w) x ps k fs) (hr : Room k X.A) (hx : Passes (L2.CX P w) X E) (ha : PA X (e :: es) t) (hP : X.prog = P := by rfl) (hw : X.w = w := by rfl) (hK : X.K = K := by rfl) (hmg : X.mg = mg := by rfl) (hb : X.base = base := by rfl) (hg : Gl X x := by rfl) (hdb : (x == ("__debug__" : Str)) = false := by decide)
    (he : starEach (e :: es) X.env = (false, eval e X.env) :: starEach es X.env := by rfl) (hpl : (backTo pos (starEach es X.env)).any (·.1) = false := by rfl) : PE X (.Call (.Name x p) (e :: es) [] pos) (tCall (spD K fs) [] E t) := by
  subst hP hw hK hmg hb
  exact pe_dfnX d hr hx ha hg hdb he hpl
theorem pe_dSK (d : Dfn P w K mg base (L2.CX P w) x ps k fs) (hr : Room k X.A) (tk : Takes X W) (ha : PA X (e :: es) t) (hP : X.prog = P := by rfl) (hw : X.w = w := by rfl) (hK : X.K = K := by rfl) (hmg : X.mg = mg := by rfl) (hb : X.base = base := by rfl) (hg : Gl X x := by rfl) (hdb : (x == ("__debug__" : Str)) = false := by decide)
    (he : starEach (e :: es) X.env = (false, eval e X.env) :: starEach es X.env := by rfl) (hpl : (backTo pos (starEach es X.env)).any (·.1) = false := by rfl) : PE X (.Call (.Name x p) (e :: es) [] pos) (tCallS (spD K fs) (WE W) t) := by
  subst hP hw hK hmg hb
  exact pe_dfnS d hr tk ha hg hdb he hpl
theorem ps_tryK {x n y : Str} {c : Value} {i j : Nat} {body : List Stmt} {np p1 p2 p3 pos pos' : Pos} {tb : WX → TS} (st1 : X.stack = X.env :: X.outer) (fr1 : X.env.frame = some X.env.locals) (nd1 : X.N.Nodup) (hi : X.N[i]? = some n) (hj : X.N[j]? = some y) (hij : i ≠ j) (lc1 : X.env.kindOf n = some .local) (ly : X.env.kindOf y = some .local) (nm : Names X x c) (nex : X.ex = [])
    (hn1 : (n == ("__debug__" : Str)) = false) (hn2 : (n == ("__classdict__" : Str)) = false) (hw1 : swapsWith (.Name n p2) (some (.Name y p1)) p3.line X.env = pure false)
    (bd : ∀ (W : WX) (pn : List (Addr × Obj)) (xe : Value → Shared → Prop), Takes (X.tr pn xe) W → PassesOwn (model X.prog X.w) X.A X.env xe → PSs (X.tr pn xe) body (tb W)) (hK : X.K = K := by rfl) :
    PS X (.Try body [.ExceptHandler (some (.Name x np)) (some n) [.Assign [.Name y p1] (.Name n p2) p3] pos'] [] [] pos) (tTryK K c i j tb) := by
  subst hK
  exact ps_try_keep st1 fr1 nd1 hi hj hij lc1 ly nm nex hn1 hn2 hw1 bd
end
end Y
end

section
namespace K01
open PySem PySem.Spec PyProof.Rows L2 Y
def topS (i : Nat) : Stmt := PySem.Challenge.pw_widthwise_k01_parts_reckoned.main.body.getD i (.Pass ⟨0, 0, 0, 0⟩)
abbrev s___init__ : Stmt := clsStmt (topS 2) 0
abbrev NM___init__ : List Str := ["self", "why"]
theorem sc___init__ : FnScope NM___init__ ["self", "why"] (defScope s___init__) := ⟨rfl, rfl, rfl, by decide +kernel, rfl, by decide +kernel, by decide +kernel⟩
theorem ok_init {P : Program} {w : World} {K : PySem.W.Frag} {mg : Str → Option Value} {base : Heap} {f : Addr} {fd : FuncData} (B : Bl mg) (vV : PySem.W.findCls K (.type "ValueError") (.type "type") "__init__" = some (.val (.builtin "ValueError.__init__")))
    (F : FunD K "__init__" "WideError.__init__" (defArgs s___init__) (defBody s___init__) (defScope s___init__) [.str ""] [] f fd) : FnOk P w K mg base CX0 1 f fd ["self", "why"] (spWE K) := by
  refine F.ok sc___init__ (fun vs H Q E ⟨a, C, nm, why, h, _⟩ => by rw [h]; rfl) fun cdv A outer s H vs Q E hr ⟨a, C, nm, why, hv, ox, hn, kd, ha, hq⟩ => ⟨_, (pss_cons (ps_expr (pe_veinit (by rfl) B.bVE vV (pa_cons (pv 0) (pa_cons (pv 1) pa_nil)))) (pss_one (ps_ost (pv 0) (pe_clsName (pv 0))))), ?_⟩
  subst hv
  refine ⟨_, rfl, _, rfl, a, C, [why], rfl, Nat.le_of_ble_eq_true rfl, ox, ha, ?_⟩
  refine ⟨_, rfl, a, C, nm, rfl, ha, hn, ?_⟩
  exact ⟨_, rfl, a, C, rfl, ox, kd, .inl ⟨ha, fun dx nd ne => hq dx nd ne⟩⟩

abbrev s_is_whole : Stmt := topS 14
abbrev NM_is_whole : List Str := ["thing"]
theorem sc_is_whole : FnScope NM_is_whole ["thing"] (defScope s_is_whole) := ⟨rfl, rfl, rfl, by decide +kernel, rfl, by decide +kernel, by decide +kernel⟩
abbrev s_is_part : Stmt := topS 15
abbrev NM_is_part : List Str := ["thing", "top", "bottom"]
theorem sc_is_part : FnScope NM_is_part ["thing"] (defScope s_is_part) := ⟨rfl, rfl, rfl, by decide +kernel, rfl, by decide +kernel, by decide +kernel⟩
abbrev s_part_of : Stmt := topS 16
abbrev NM_part_of : List Str := ["top", "bottom"]
theorem sc_part_of : FnScope NM_part_of ["top", "bottom"] (defScope s_part_of) := ⟨rfl, rfl, rfl, by decide +kernel, rfl, by decide +kernel, by decide +kernel⟩
abbrev s_reduced : Stmt := topS 17
abbrev NM_reduced : List Str := ["top", "bottom", "divisor"]
theorem sc_reduced : FnScope NM_reduced ["top", "bottom"] (defScope s_reduced) := ⟨rfl, rfl, rfl, by decide +kernel, rfl, by decide +kernel, by decide +kernel⟩
abbrev s_added : Stmt := topS 18
abbrev NM_added : List Str := ["one", "other"]
theorem sc_added : FnScope NM_added ["one", "other"] (defScope s_added) := ⟨rfl, rfl, rfl, by decide +kernel, rfl, by decide +kernel, by decide +kernel⟩
abbrev s_less : Stmt := topS 19
abbrev NM_less : List Str := ["one", "other"]
theorem sc_less : FnScope NM_less ["one", "other"] (defScope s_less) := ⟨rfl, rfl, rfl, by decide +kernel, rfl, by decide +kernel, by decide +kernel⟩
abbrev s_product : Stmt := topS 20
abbrev NM_product : List Str := ["one", "other"]
theorem sc_product : FnScope NM_product ["one", "other"] (defScope s_product) := ⟨rfl, rfl, rfl, by decide +kernel, rfl, by decide +kernel, by decide +kernel⟩
abbrev s_quotient : Stmt := topS 21
abbrev NM_quotient : List Str := ["one", "other"]
theorem sc_quotient : FnScope NM_quotient ["one", "other"] (defScope s_quotient) := ⟨rfl, rfl, rfl, by decide +kernel, rfl, by decide +kernel, by decide +kernel⟩
abbrev s_is_more : Stmt := topS 22
abbrev NM_is_more : List Str := ["one", "other"]
theorem sc_is_more : FnScope NM_is_more ["one", "other"] (defScope s_is_more) := ⟨rfl, rfl, rfl, by decide +kernel, rfl, by decide +kernel, by decide +kernel⟩
abbrev s_lesser : Stmt := topS 23
abbrev NM_lesser : List Str := ["one", "other"]
theorem sc_lesser : FnScope NM_lesser ["one", "other"] (defScope s_lesser) := ⟨rfl, rfl, rfl, by decide +kernel, rfl, by decide +kernel, by decide +kernel⟩
abbrev s_greater : Stmt := topS 24
abbrev NM_greater : List Str := ["one", "other"]
theorem sc_greater : FnScope NM_greater ["one", "other"] (defScope s_greater) := ⟨rfl, rfl, rfl, by decide +kernel, rfl, by decide +kernel, by decide +kernel⟩
abbrev s__law_row : Stmt := topS 26
abbrev NM__law_row : List Str := ["_law_script", "_law_many", "_law_cell", "_law_found", "_law_more", "_law_k"]
theorem sc__law_row : FnScope NM__law_row ["_law_script", "_law_many"] (defScope s__law_row) := ⟨rfl, rfl, rfl, by decide +kernel, rfl, by decide +kernel, by decide +kernel⟩
abbrev s__law_gcd : Stmt := topS 27
abbrev NM__law_gcd : List Str := ["_law_one", "_law_other"]
theorem sc__law_gcd : FnScope NM__law_gcd ["_law_one", "_law_other"] (defScope s__law_gcd) := ⟨rfl, rfl, rfl, by decide +kernel, rfl, by decide +kernel, by decide +kernel⟩
abbrev s__law_part : Stmt := topS 28
abbrev NM__law_part : List Str := ["_law_top", "_law_bottom", "_law_dividing"]
theorem sc__law_part : FnScope NM__law_part ["_law_top", "_law_bottom"] (defScope s__law_part) := ⟨rfl, rfl, rfl, by decide +kernel, rfl, by decide +kernel, by decide +kernel⟩
abbrev s__law_drawn : Stmt := topS 29
abbrev NM__law_drawn : List Str := ["_law_a", "_law_b", "_law_number"]
theorem sc__law_drawn : FnScope NM__law_drawn ["_law_a", "_law_b"] (defScope s__law_drawn) := ⟨rfl, rfl, rfl, by decide +kernel, rfl, by decide +kernel, by decide +kernel⟩
abbrev s__law_of_class : Stmt := topS 30
abbrev NM__law_of_class : List Str := ["_law_e", "_law_name", "_law_found", "_law_names", "_law_one"]
theorem sc__law_of_class : FnScope NM__law_of_class ["_law_e", "_law_name"] (defScope s__law_of_class) := ⟨rfl, rfl, rfl, by decide +kernel, rfl, by decide +kernel, by decide +kernel⟩
abbrev s__law_refused : Stmt := topS 31
abbrev NM__law_refused : List Str := ["_law_way", "_law_one", "_law_error", "_law_e"]
theorem sc__law_refused : FnScope NM__law_refused ["_law_way", "_law_one"] (defScope s__law_refused) := ⟨rfl, rfl, rfl, by decide +kernel, rfl, by decide +kernel, by decide +kernel⟩
abbrev s__law_is : Stmt := topS 32
abbrev NM__law_is : List Str := ["_law_found", "_law_top", "_law_bottom", "_law_one"]
theorem sc__law_is : FnScope NM__law_is ["_law_found", "_law_top", "_law_bottom"] (defScope s__law_is) := ⟨rfl, rfl, rfl, by decide +kernel, rfl, by decide +kernel, by decide +kernel⟩
abbrev s__law_made : Stmt := topS 33
abbrev NM__law_made : List Str := ["_law_a", "_law_b", "_law_c", "_law_top", "_law_bottom", "_law_more", "_law_sign"]
theorem sc__law_made : FnScope NM__law_made ["_law_a", "_law_b", "_law_c"] (defScope s__law_made) := ⟨rfl, rfl, rfl, by decide +kernel, rfl, by decide +kernel, by decide +kernel⟩
abbrev s__law_right : Stmt := topS 34
abbrev NM__law_right : List Str := ["_law_one", "_law_other", "_law_a", "_law_b", "_law_c", "_law_d", "_law_good", "_law_more"]
theorem sc__law_right : FnScope NM__law_right ["_law_one", "_law_other"] (defScope s__law_right) := ⟨rfl, rfl, rfl, by decide +kernel, rfl, by decide +kernel, by decide +kernel⟩
abbrev s__law_thing : Stmt := topS 35
abbrev NM__law_thing : List Str := ["_law_part_here", "_law_number", "_law_top", "_law_bottom", "_law_more", "_law_some"]
theorem sc__law_thing : FnScope NM__law_thing ["_law_part_here", "_law_number"] (defScope s__law_thing) := ⟨rfl, rfl, rfl, by decide +kernel, rfl, by decide +kernel, by decide +kernel⟩
abbrev s__law_looked_at : Stmt := topS 36
abbrev NM__law_looked_at : List Str := ["_law_part_here", "_law_number", "_law_thing_here"]
theorem sc__law_looked_at : FnScope NM__law_looked_at ["_law_part_here", "_law_number"] (defScope s__law_looked_at) := ⟨rfl, rfl, rfl, by decide +kernel, rfl, by decide +kernel, by decide +kernel⟩
abbrev s_law : Stmt := topS 37
abbrev NM_law : List Str := ["_law_script", "_law_row_here", "_law_k", "_law_top", "_law_bottom", "_law_high", "_law_low", "_law_one", "_law_other"]
theorem sc_law : FnScope NM_law ["_law_script"] (defScope s_law) := ⟨rfl, rfl, rfl, by decide +kernel, rfl, by decide +kernel, by decide +kernel⟩
/-! ### what each def is worth -/
def isWholeD : D → Bool
  | .int _ => true
  | _ => false
abbrev fs_is_whole : FSpec := fun ds R _ => ∃ d, ds = [d] ∧ (tyD d).isSome = true ∧ R (.val (.bl (isWholeD d)))
/-- a part -/
abbrev pt (a b : Int) : D := .tup [.int a, .int b]
def partL : D → D → Bool
  | .int a, .int b => decide (0 < b) && decide (Nat.gcd a.natAbs b.natAbs = 1)
  | _, _ => false
def isPartD : D → Bool
  | .tup [x, y] => partL x y
  | _ => false
/-- things of whose parts the types are known -/
def tyOk : D → Bool
  | .tup [x, y] => (tyD x).isSome && (tyD y).isSome
  | d => (tyD d).isSome
abbrev fs_is_part : FSpec := fun ds R _ => ∃ d, ds = [d] ∧ tyOk d = true ∧ R (.val (.bl (isPartD d)))
abbrev fs_is_more : FSpec := fun ds R _ => ∃ a b c d : Int, ds = [pt a b, pt c d] ∧ (Sm 400 a ∧ Sm 400 b ∧ Sm 400 c ∧ Sm 400 d) ∧ R (.val (.bl (decide (c * b < a * d))))
abbrev fs_law_gcd : FSpec := fun ds R _ => ∃ a b : Nat, ds = [.int a, .int b] ∧ R (.val (.int ((Nat.gcd a b : Nat) : Int)))
/-- a / b in lowest terms, 0 < b -/
def ng (a b : Int) : Int := ((Nat.gcd a.natAbs b.natAbs : Nat) : Int)
def prt (a b : Int) : D := pt (a / ng a b) (b / ng a b)
def npt (a b : Int) : D := if b < 0 then prt (-a) (-b) else prt a b
abbrev fs_law_part : FSpec := fun ds R _ => ∃ a b : Int, ds = [.int a, .int b] ∧ 0 < b ∧ Sm 900 b ∧ R (.val (prt a b))
abbrev fs_reduced : FSpec := fun ds R Ex => ∃ a b : Int, ds = [.int a, .int b] ∧ Sm 900 b ∧ 0 < b ∧ R (.val (npt a b))
abbrev fs_part_of (C : Addr) : FSpec := fun ds R Ex => ∃ a b : Int, ds = [.int a, .int b] ∧ Sm 900 b ∧ (b = 0 → Ex (.ref C)) ∧ (b ≠ 0 → R (.val (npt a b)))
abbrev fs_reck (g h : Int → Int → Int → Int → Int) : FSpec := fun ds R _ => ∃ a b c d : Int, ds = [pt a b, pt c d] ∧ (Sm 400 a ∧ Sm 400 b ∧ Sm 400 c ∧ Sm 400 d) ∧ h a b c d ≠ 0 ∧ R (.val (npt (g a b c d) (h a b c d)))
abbrev fs_added : FSpec := fs_reck (fun a b c d => a * d + c * b) fun a b c d => b * d
abbrev fs_less : FSpec := fs_reck (fun a b c d => a * d - c * b) fun a b c d => b * d
abbrev fs_product : FSpec := fs_reck (fun a b c d => a * c) fun a b c d => b * d
abbrev fs_quotient (C : Addr) : FSpec := fun ds R Ex => ∃ a b c d : Int, ds = [pt a b, pt c d] ∧ (Sm 400 a ∧ Sm 400 b ∧ Sm 400 c ∧ Sm 400 d) ∧ (b * c = 0 → Ex (.ref C)) ∧ (b * c ≠ 0 → R (.val (npt (a * d) (b * c))))
abbrev fs_lesser : FSpec := fun ds R _ => ∃ a b c d : Int, ds = [pt a b, pt c d] ∧ (Sm 400 a ∧ Sm 400 b ∧ Sm 400 c ∧ Sm 400 d) ∧ R (.val (if c * b < a * d then pt c d else pt a b))
abbrev fs_greater : FSpec := fun ds R _ => ∃ a b c d : Int, ds = [pt a b, pt c d] ∧ (Sm 400 a ∧ Sm 400 b ∧ Sm 400 c ∧ Sm 400 d) ∧ R (.val (if a * d < c * b then pt c d else pt a b))
abbrev fs_law_row : FSpec := fun ds R _ => ∃ (ns : List Int) (m : Nat), ds = [.fz (ns.map D.int), .int m] ∧ ns.length ≤ 63 ∧ m ≤ 100 ∧ ∀ rows : List Int, rows.length = ns.length + m → (∀ x ∈ rows, 0 ≤ x ∧ x < 10 ^ 40) → R (.own (rows.map D.int))
def Cell (x : Int) : Prop := 0 ≤ x ∧ x < 10 ^ 40
abbrev fs_law_drawn : FSpec := fun ds R _ => ∃ a b : Int, ds = [.int a, .int b] ∧ Cell a ∧ Cell b ∧ ∀ r : Int, -(10 ^ 20) < r ∧ r < 10 ^ 20 → R (.val (.int r))
abbrev fs_law_made : FSpec := fun ds R _ => ∃ a b c : Int, ds = [.int a, .int b, .int c] ∧ Cell a ∧ Cell b ∧ Cell c ∧
  ∀ t u m : Int, (-(10 ^ 20) < t ∧ t < 10 ^ 20) → (0 < u ∧ u ≤ 10 ^ 20) → (m ≠ 0 ∧ -30 ≤ m ∧ m ≤ 30) → R (.val (.tup [.int t, .int u, .int (t * m), .int (u * m)]))
/-- the errors' classes that the law asks after, and which of them C is -/
def errNames : List Str := ["NoPart", "NoSpan", "NoBox", "NoText", "NoItem", "NoName", "NoWish", "NoChange", "NoRow", "TooMany"]
/-- what isinstance tells of an error of the class at C, the one that is called x -/
structure KitX (K : PySem.W.Frag) (C : Addr) (x : Str) (c0 c1 c2 c3 c4 c5 c6 c7 c8 c9 : Addr) : Prop where
  e : ExcC K C
  ve : PySem.W.kitOne K (.ref C) (.type "ValueError") = some true
  k0 : PySem.W.kitOne K (.ref C) (.ref c0) = some (decide (("NoPart" : Str) = x))
  k1 : PySem.W.kitOne K (.ref C) (.ref c1) = some (decide (("NoSpan" : Str) = x))
  k2 : PySem.W.kitOne K (.ref C) (.ref c2) = some (decide (("NoBox" : Str) = x))
  k3 : PySem.W.kitOne K (.ref C) (.ref c3) = some (decide (("NoText" : Str) = x))
  k4 : PySem.W.kitOne K (.ref C) (.ref c4) = some (decide (("NoItem" : Str) = x))
  k5 : PySem.W.kitOne K (.ref C) (.ref c5) = some (decide (("NoName" : Str) = x))
  k6 : PySem.W.kitOne K (.ref C) (.ref c6) = some (decide (("NoWish" : Str) = x))
  k7 : PySem.W.kitOne K (.ref C) (.ref c7) = some (decide (("NoChange" : Str) = x))
  k8 : PySem.W.kitOne K (.ref C) (.ref c8) = some (decide (("NoRow" : Str) = x))
  k9 : PySem.W.kitOne K (.ref C) (.ref c9) = some (decide (("TooMany" : Str) = x))
abbrev fs_law_of_class (C : Addr) (x : Str) : FSpec := fun ds R _ => ds = [.exc C, .str x] ∧ R (.val (.bl true))
abbrev fs_law_refused : FSpec := fun ds R _ => ∃ (n a b : Int), ds = [.int n, pt a b] ∧ (Sm 400 a ∧ Sm 400 b) ∧ R (.val (.bl true))
abbrev fs_law_is : FSpec := fun ds R _ => ∃ a b : Int, ds = [npt a b, .int a, .int b] ∧ Sm 900 b ∧ b ≠ 0 ∧ R (.val (.bl true))
/-- parts that the law makes -/
def Prt (d : D) : Prop := ∃ a b : Int, d = pt a b ∧ 0 < b ∧ Nat.gcd a.natAbs b.natAbs = 1 ∧ Sm 100 a ∧ Sm 100 b
abbrev fs_law_right : FSpec := fun ds R _ => ∃ p q : D, ds = [p, q] ∧ Prt p ∧ Prt q ∧ R (.val (.bl true))
abbrev fs_law_thing : FSpec := fun ds R _ => ∃ (p : D) (n : Int), ds = [p, .int n] ∧ Prt p ∧ Cell n ∧ ∀ d, isPartD d = false → tyOk d = true → R (.val d)
abbrev fs_law_looked_at : FSpec := fun ds R _ => ∃ (p : D) (n : Int), ds = [p, .int n] ∧ Prt p ∧ Cell n ∧ R (.val (.bl true))
abbrev fs_law : FSpec := fun ds R _ => ∃ ns : List Int, ds = [.fz (ns.map D.int)] ∧ ns.length ≤ 63 ∧ R (.val (.bl true))
theorem whole_of {x : D} (h : (!isWholeD x) = false) : ∃ a, x = .int a := by
  cases x <;> first | exact ⟨_, rfl⟩ | (exfalso; revert h; decide) | (exfalso; exact Bool.noConfusion h)
theorem part_no1 {x y : D} (h : (!isWholeD x) = true) : partL x y = false := by
  cases x <;> first | rfl | (exfalso; exact Bool.noConfusion h)
theorem part_no2 {x y : D} (h : (!isWholeD y) = true) : partL x y = false := by
  cases x <;> first | rfl | (cases y <;> first | rfl | (exfalso; exact Bool.noConfusion h))
theorem tup_of {d : D} (h : (!isTupD d) = false) : ∃ xs, d = .tup xs := by
  cases d <;> first | exact ⟨_, rfl⟩ | (exfalso; exact Bool.noConfusion h)
theorem part_no {d : D} (h : (!isTupD d) = true) : isPartD d = false := by
  cases d <;> first | rfl | (exfalso; exact Bool.noConfusion h)
theorem tk {d : D} (q : tyOk d = true) : (tyD d).isSome = true := by
  unfold tyOk at q
  split at q
  · rfl
  · exact q
theorem prt_eq {a b : Int} (hb : 0 < b) : ng a b ≠ 0 ∧ 0 < ng a b ∧ ng a b ≤ b := by
  unfold ng
  have h1 : 0 < Nat.gcd a.natAbs b.natAbs := Nat.gcd_pos_of_pos_right _ (by omega)
  have h2 : Nat.gcd a.natAbs b.natAbs ≤ b.natAbs := Nat.le_of_dvd (by omega) (Nat.gcd_dvd_right _ _)
  omega
theorem ng_neg {a b : Int} : ng (-a) (-b) = ng a b := by
  unfold ng
  rw [Int.natAbs_neg, Int.natAbs_neg]
theorem ng_pos {a b : Int} (hb : b ≠ 0) : 0 < ng a b := by
  unfold ng
  have h1 : 0 < Nat.gcd a.natAbs b.natAbs := Nat.gcd_pos_of_pos_right _ (by omega)
  omega
theorem ng_le {a b : Int} (hb : b ≠ 0) : ng a b ≤ (b.natAbs : Int) := by
  unfold ng
  have h2 : Nat.gcd a.natAbs b.natAbs ≤ b.natAbs := Nat.le_of_dvd (by omega) (Nat.gcd_dvd_right _ _)
  omega
theorem npt_pos {a b : Int} (hb : ¬ b < 0) (h0 : b ≠ 0) : npt a b = pt (a.fdiv (ng a b)) (b.fdiv (ng a b)) := by
  have h1 := ng_pos (a := a) h0
  rw [Int.fdiv_eq_ediv_of_nonneg _ (by omega), Int.fdiv_eq_ediv_of_nonneg _ (by omega)]
  unfold npt
  rw [if_neg hb]
  rfl
theorem fdiv_negneg (a g : Int) : (-a).fdiv (-g) = a.fdiv g := Int.neg_fdiv_neg a g
theorem npt_neg {a b : Int} (hb : b < 0) : npt a b = pt (a.fdiv (-ng a b)) (b.fdiv (-ng a b)) := by
  have h0 : b ≠ 0 := by omega
  have h1 := ng_pos (a := a) h0
  unfold npt
  rw [if_pos hb]
  unfold prt
  rw [ng_neg]
  have e : ∀ x : Int, x.fdiv (-ng a b) = (-x) / ng a b := fun x => by
    rw [← fdiv_negneg, Int.neg_neg, Int.fdiv_eq_ediv_of_nonneg _ (by omega)]
  rw [e, e]
theorem pt_same {a b c d : Int} (b0 : 0 < b) (d0 : 0 < d) (h1 : Nat.gcd a.natAbs b.natAbs = 1) (h2 : Nat.gcd c.natAbs d.natAbs = 1) (e : a * d = c * b) : a = c ∧ b = d := by
  have e1 : a.natAbs * d.natAbs = c.natAbs * b.natAbs := by
    rw [← Int.natAbs_mul, ← Int.natAbs_mul, e]
  have q1 : b.natAbs ∣ d.natAbs := by
    have z : b.natAbs ∣ a.natAbs * d.natAbs := ⟨c.natAbs, by rw [e1, Nat.mul_comm]⟩
    exact (show Nat.Coprime b.natAbs a.natAbs from by unfold Nat.Coprime; rw [Nat.gcd_comm]; exact h1).dvd_of_dvd_mul_left z
  have q2 : d.natAbs ∣ b.natAbs := by
    have z : d.natAbs ∣ c.natAbs * b.natAbs := ⟨a.natAbs, by rw [← e1, Nat.mul_comm]⟩
    exact (show Nat.Coprime d.natAbs c.natAbs from by unfold Nat.Coprime; rw [Nat.gcd_comm]; exact h2).dvd_of_dvd_mul_left z
  have q3 := Nat.dvd_antisymm q1 q2
  have q4 : b = d := by omega
  subst q4
  exact ⟨Int.eq_of_mul_eq_mul_right (by omega) e, rfl⟩
theorem pt_inj {a b c d : Int} (h : a = c ∧ b = d) : pt a b = pt c d := by rw [h.1, h.2]
theorem no_pair {a b m : Int} (m0 : 2 ≤ m) : isPartD (pt (a * m) (b * m)) = false := by
  show (decide (0 < b * m) && decide (Nat.gcd (a * m).natAbs (b * m).natAbs = 1)) = false
  rw [Bool.and_eq_false_iff]
  right
  apply decide_eq_false
  intro z
  rw [Int.natAbs_mul, Int.natAbs_mul, Nat.gcd_mul_right] at z
  have z2 := Nat.eq_one_of_mul_eq_one_left z
  omega
theorem no_neg {a b : Int} (h : b ≤ 0) : isPartD (pt a b) = false := by
  show (decide (0 < b) && decide (Nat.gcd a.natAbs b.natAbs = 1)) = false
  rw [decide_eq_false (by omega), Bool.false_and]
theorem sm_log {a : Int} (h : Sm 100 a) : a.natAbs.log2 < 100 := PySem.Flt.log2_lt_of (by decide) h
theorem strI_len {a : Int} (h : Sm 100 a) : (Str.ofString (toString a)).length ≤ 101 := by
  rw [PySem.ofString_length]
  exact PySem.int_text_length_le (by decide) (sm_log h)
theorem no_zero {m : Int} (m0 : 2 ≤ m) : isPartD (pt 0 m) = false := by
  have e := no_pair (a := 0) (b := 1) m0
  rw [Int.zero_mul, Int.one_mul] at e
  exact e
theorem no_half {m : Int} (m0 : 2 ≤ m) : isPartD (pt (0 - m) (2 * m)) = false := by
  have e := no_pair (a := -1) (b := 2) m0
  rw [Int.neg_one_mul] at e
  rw [Int.zero_sub]
  exact e
end K01
end

section
set_option maxHeartbeats 4000000
open PySem PySem.Spec PyProof.Rows L2 Y
local macro_rules | `(tactic| walk_at "yE") => `(tactic| first
  | ((with_reducible show tE _ _ _ (tOp _ _ _) _ _); first
    | (with_reducible refine e_ix ?_)
    | (with_reducible refine e_add ?_)
    | (with_reducible refine e_catA ?_)
    | (with_reducible refine e_sub ?_)
    | (with_reducible refine e_mul ?_)
    | (with_reducible refine e_mod ?_)
    | (with_reducible refine e_fdiv ?_)
    | (with_reducible refine e_pow ?_)
    | (with_reducible refine e_shr ?_)
    | (with_reducible refine e_band ?_)
    | (with_reducible refine e_lt ?_)
    | (with_reducible refine e_le ?_)
    | (with_reducible refine e_gt ?_)
    | (with_reducible refine e_ge ?_)
    | (with_reducible refine e_eq ?_)
    | (with_reducible refine e_ne ?_)
    | (with_reducible refine e_isN ?_)
    | (with_reducible refine e_notN ?_)
    | (with_reducible refine e_isB ?_)
    | (with_reducible refine e_isntB ?_))
  | ((with_reducible show tE _ _ _ (tCB _ _) _ _); first
    | (with_reducible refine e_len ?_)
    | (with_reducible refine e_isX (by with_unfolding_all exact fun _ h => h) ?_)
    | (with_reducible refine e_isInt ?_)
    | (with_reducible refine e_isBool ?_)
    | (with_reducible refine e_isTup ?_)
    | (with_reducible refine e_isStr ?_)
    | (with_reducible refine e_isList ?_)
    | (with_reducible refine e_gcd ?_)
    | (with_reducible refine e_abs ?_)
    | (with_reducible refine e_max2 ?_)
    | (with_reducible refine e_intB ?_)
    | (with_reducible refine e_strI ?_)
    | (with_reducible refine e_list ?_)
    | (with_reducible refine e_repr ?_)
    | (with_reducible refine e_tupL ?_)
    | (with_reducible refine e_all ?_))
  | (with_reducible refine e_val (by with_unfolding_all rfl) ?_)
  | (with_reducible refine e_own (by with_unfolding_all rfl) ?_)
  | (with_reducible refine e_int ?_)
  | (with_reducible refine e_bl ?_)
  | (with_reducible refine e_non ?_)
  | (with_reducible refine e_str ?_)
  | (with_reducible refine e_neg ?_)
  | (with_reducible refine e_and ?_)
  | (with_reducible refine e_or ?_)
  | (with_reducible refine e_not ?_)
  | (with_reducible refine e_if ?_)
  | (with_reducible refine e_chainI ?_)
  | (with_reducible refine e_tup ?_)
  | (with_reducible refine e_lst ?_)
  | (with_reducible refine e_dk0 ?_)
  | (with_reducible refine e_sl ?_)
  | (with_reducible refine e_revL ?_))
local macro_rules | `(tactic| walk_at "yS") => `(tactic| first
  | (with_reducible refine s_seq ?_)
  | (with_reducible refine s_if ?_)
  | (with_reducible refine s_retOwn (by with_unfolding_all rfl) ?_)
  | (with_reducible refine s_ret ?_)
  | (with_reducible refine s_retN ?_)
  | (with_reducible refine s_next ?_)
  | (with_reducible refine s_set ?_ (by with_unfolding_all exact Nat.le_of_ble_eq_true rfl))
  | (with_reducible refine s_asgG ?_)
  | (with_reducible refine s_parS ?_ (by with_unfolding_all exact Nat.le_of_ble_eq_true rfl) (by with_unfolding_all exact Nat.le_of_ble_eq_true rfl))
  | (with_reducible refine s_rz ?_)
  | (with_reducible refine s_appendS (by with_unfolding_all rfl) ?_)
  | (with_reducible refine s_expr ?_)
  | ((with_reducible refine s_tryKK ?_); intro W))
local macro_rules | `(tactic| walk_at "yT") => `(tactic| first
  | (with_reducible refine t_test ?_)
  | (with_reducible refine t_tru ?_)
  | (with_reducible refine t_not ?_)
  | (with_reducible refine t_and ?_)
  | (with_reducible refine t_or ?_))
local macro_rules | `(tactic| walk_at "yA") => `(tactic| first
  | (with_reducible refine vs_cons ?_)
  | (with_reducible refine vs_nil ?_)
  | (with_reducible refine a_cons ?_)
  | (with_reducible refine a_nil ?_)
  | (with_reducible refine o_none ?_)
  | (with_reducible refine o_some ?_))
local macro_rules | `(tactic| walk_at "yX") => `(tactic| first
  | ((with_reducible show ∃ _, CmpD _ _ _ ∧ _); first | refine ⟨_, cmpd_int, ?_⟩ | refine ⟨_, cmpd_str, ?_⟩ | refine ⟨_, cmpd_bl, ?_⟩)
  | ((with_reducible show ∃ _ _, _ ∧ ExcC _ _ ∧ _); refine ⟨_, _, rfl, by assumption, by assumption, ?_⟩)
  | (refine ⟨_, _, rfl, rfl, ?_⟩)
  | (refine ⟨_, _, rfl, ?_⟩)
  | (refine ⟨_, rfl, ?_⟩))
local macro_rules | `(tactic| walk_at "yN") => `(tactic| first
  | (with_reducible refine brT ?_)
  | (with_reducible refine brF ?_)
  | (with_reducible refine brT' ?_)
  | (with_reducible refine brF' ?_)
  | ((with_reducible show ((!_) = false → _) ∧ _); first | (refine brA' rfl ?_) | (refine brB' rfl ?_))
  | ((with_reducible show ((!_) = true → _) ∧ _); first | (refine brA rfl ?_) | (refine brB rfl ?_))
  | ((with_reducible show 0 < _ ∧ _); refine ⟨by first | decide | omega, ?_⟩)
  | ((with_reducible show _ ≤ sizeLine ∧ _); refine ⟨small_len (by with_unfolding_all exact Nat.le_of_ble_eq_true rfl), ?_⟩)
  | ((with_reducible show CPow _ _ ∧ _); refine ⟨⟨by decide, by decide, by decide⟩, ?_⟩)
  | ((with_reducible show CDivX _ _ ∧ _); refine ⟨⟨by decide, by decide⟩, ?_⟩)
  | ((with_reducible show 0 ≤ _ ∧ _); refine ⟨by first | decide | omega, ?_⟩)
  | ((with_reducible show _ = D.non ∧ _); refine ⟨rfl, ?_⟩))
local macro_rules | `(tactic| walk_at "yO") => `(tactic| first
  | ((with_reducible show vR _ _); first | (with_reducible refine vr_val ?_) | (with_reducible refine vr_own ?_))
  | ((with_reducible show asgR _ _); first | (with_reducible refine as_val ?_) | (with_reducible refine as_own ?_))
  | ((with_reducible show ∃ _, _); walk_at "yX")
  | ((with_reducible show _ ∧ _); walk_at "yN")
  | ((with_reducible show AddD _ _ _); first | (refine add_int ?_) | (refine add_lst (small_len' (by with_unfolding_all exact Nat.le_of_ble_eq_true rfl)) ?_))
  | ((with_reducible show MulD _ _ _); refine mul_int (by walk_at "mok") ?_)
  | (with_reducible refine ss_go (by with_unfolding_all repeat constructor) ?_)
  | (with_reducible refine g_nameS (by first | trivial | exact List.mem_cons_self | simp) (by with_unfolding_all repeat constructor) ?_)
  | (with_reducible refine g_tup (by with_unfolding_all rfl) ?_)
  | (with_reducible refine gs_cons ?_)
  | (with_reducible refine gs_nil ?_))
local macro_rules | `(tactic| walk_at "y") => `(tactic| first
  | ((with_reducible show tE _ _ _ _ _ _); walk_at "yE")
  | ((with_reducible show tS _ _ _ _ _ _); walk_at "yS")
  | ((with_reducible show tT _ _ _ _ _ _); walk_at "yT")
  | ((with_reducible show tVs _ _ _ _ _ _); walk_at "yA")
  | ((with_reducible show tA _ _ _ _ _ _); walk_at "yA")
  | ((with_reducible show tOo _ _ _ _ _ _); walk_at "yA")
  | walk_at "yO")
local macro_rules | `(tactic| walk_at "z") => `(tactic| (fail_if_success (with_reducible show tS _ _ _ (tSeq (tIfS _ _ _) _) _ _); walk_at "y"))
local macro_rules | `(tactic| walk_at "smb") => `(tactic| first
  | assumption
  | exact (show Sm 64 _ by unfold Sm; decide)
  | (apply Sm.mul <;> walk_at "smb")
  | (apply Sm.add2 <;> walk_at "smb")
  | (apply Sm.sub2 <;> walk_at "smb")
  | (apply Sm.neg <;> walk_at "smb"))
local macro_rules | `(tactic| walk_at "mok") => `(tactic| exact mulOk (by walk_at "smb") (by walk_at "smb") (by decide) (by decide) (by decide))

namespace K01
open PySem PySem.Spec PyProof.Rows L2 Y
section
variable {P : Program} {w : World} {K : PySem.W.Frag} {mg : Str → Option Value} {base : Heap} {f : Addr} {fd : FuncData}
theorem ok_is_whole (B : Bl mg) (F : Fun K "is_whole" "is_whole" s_is_whole f fd) : FnOk P w K mg base CX0 2 f fd ["thing"] (spD K fs_is_whole) := by
  refine fn0 F sc_is_whole (fun ds R Ex ⟨d, h, _⟩ => by rw [h]; rfl) fun cdv A outer s H E hr => ⟨_, (pss_one (ps_ret (pe_and (pe_callB (call_isiK (K := K)) (by rfl) B.bIsi (by decide +kernel) (pa_cons (pv 0) (pa_cons (pe_bltn (v := .ty "int") rfl B.bInt (by decide +kernel) rfl) pa_nil))) (pe_one (pe_not (pe_callB (call_isiK (K := K)) (by rfl) B.bIsi (by decide +kernel) (pa_cons (pv 0) (pa_cons (pe_bltn (v := .ty "bool") rfl B.bBool (by decide +kernel) rfl) pa_nil)))))))), fun ds R Ex ⟨d, hd, ht, h⟩ => ?_⟩
  subst hd
  (try dsimp only [cxOf, Cx.nox, Cx.wish]); change tS K _ _ _ [.val (d)] _
  repeat walk_at "y"
  refine ⟨ht, _, rfl, fun hc => ?_, fun hc => ?_⟩
  · repeat walk_at "y"
    refine ⟨ht, _, rfl, ?_⟩
    have e : (!isBoolD d) = isWholeD d := by cases d <;> simp_all [isIntD, isBoolD, isWholeD, Res.dat]
    show R (.val (.bl (!isBoolD d)))
    rw [e]
    exact h
  · have e : isWholeD d = false := by cases d <;> simp_all [isIntD, isBoolD, isWholeD, Res.dat]
    rw [e] at h
    exact h
theorem ok_is_part (B : Bl mg) (i_gcd : mg "gcd" = some (.builtin "math.gcd")) (d_is_whole : Dfn P w K mg base CX0 "is_whole" ["thing"] 2 fs_is_whole) (F : Fun K "is_part" "is_part" s_is_part f fd) : FnOk P w K mg base CX0 3 f fd ["thing"] (spD K fs_is_part) := by
  refine fn0 F sc_is_part (fun ds R Ex ⟨d, h, _⟩ => by rw [h]; rfl) fun cdv A outer s H E hr => ⟨_, (pss_cons (ps_if (PW.pt (pw_or (pt_not (pt_truK (K := K) (pe_callB (call_isiK (K := K)) (by rfl) B.bIsi (by decide +kernel) (pa_cons (pv 0) (pa_cons (pe_bltn (v := .ty "tuple") rfl B.bTuple (by decide +kernel) rfl) pa_nil))))) (pw_or1 (pt_cmpR (op_neK (K := K) hr) (pe_callB (call_lenK (K := K)) (by rfl) B.bLen (by decide +kernel) (pa_cons (pv 0) pa_nil)) pe_int (nomark _))))) (pss_one (ps_ret pe_bl)) pss_nil)
      (pss_cons (ps_asg (pv 0) (pg_tup rfl (pgs_cons (pg_name (i := 1) sc_is_part.nd rfl (by first | exact .inl rfl | exact .inr rfl)) (pgs_cons (pg_name (i := 2) sc_is_part.nd rfl (by first | exact .inl rfl | exact .inr rfl)) pgs_nil))))
      (pss_cons (ps_if (PW.pt (pw_or (pt_not (pt_truK (K := K) (pe_dK d_is_whole hr (pa_cons (pv 1) pa_nil)))) (pw_or1 (pt_not (pt_truK (K := K) (pe_dK d_is_whole hr (pa_cons (pv 2) pa_nil))))))) (pss_one (ps_ret pe_bl)) pss_nil)
      (pss_one (ps_ret (pe_and (pe_cmpR op_gt (pv 2) pe_int (nomark _)) (pe_one (pe_cmpR (op_eqK (K := K) hr) (pe_callBfun cr_gcd (by rfl) i_gcd (pa_cons (pv 1) (pa_cons (pv 2) pa_nil))) pe_int (nomark _))))))))), fun ds R Ex ⟨d, hd, ht, h⟩ => ?_⟩
  subst hd
  (try dsimp only [cxOf, Cx.nox, Cx.wish]); change tS K _ _ _ [.val (d), .emp, .emp] _
  repeat walk_at "y"
  refine ⟨tk ht, isTupD d, rfl, fun hc => ?_, fun hc => ?_⟩
  · -- a tuple
    obtain ⟨xs, rfl⟩ := tup_of hc
    repeat walk_at "y"
    refine br2n (fun hn => ?_) fun hn => ?_
    · repeat walk_at "y"
      have e : isPartD (.tup xs) = false := by
        match xs, hn with
        | [], _ => rfl
        | [_], _ => rfl
        | [_, _], hn => exact absurd rfl hn
        | _ :: _ :: _ :: _, _ => rfl
      rw [e] at h
      exact h
    · obtain ⟨x, y, rfl⟩ : ∃ x y, xs = [x, y] := by
        match xs, hn with
        | [], z => cases z
        | [_], z => cases z
        | [x, y], _ => exact ⟨x, y, rfl⟩
        | _ :: _ :: _ :: _, z =>
          have z' : (((_ :: _ :: _ :: _ : List D).length : Nat) : Int) = 2 := z
          simp only [List.length_cons] at z'
          omega
      have t2 : (tyD x).isSome = true ∧ (tyD y).isSome = true := by
        have z : ((tyD x).isSome && (tyD y).isSome) = true := ht
        rwa [Bool.and_eq_true] at z
      repeat walk_at "y"
      refine e_call (fun _ => .nil) ?_
      repeat walk_at "y"
      refine ⟨t2.1, isWholeD x, rfl, fun hx => ?_, fun hx => ?_⟩
      · obtain ⟨a, rfl⟩ := whole_of hx
        repeat walk_at "y"
        refine e_call (fun _ => .nil) ?_
        repeat walk_at "y"
        refine ⟨t2.2, isWholeD y, rfl, ?_⟩
        refine ⟨fun hy => ?_, fun hy => ?_⟩
        · repeat walk_at "y"
          have e := part_no2 (x := .int a) hy
          have h' : R (.val (.bl (partL (.int a) y))) := h
          rw [e] at h'
          exact h'
        · obtain ⟨b, rfl⟩ := whole_of hy
          repeat walk_at "y"
          refine br2 (fun hb => ?_) fun hb => ?_
          · repeat walk_at "y"
            have e : isPartD (.tup [.int a, .int b]) = decide (((Nat.gcd a.natAbs b.natAbs : Nat) : Int) = 1) := by
              show (decide (0 < b) && decide (Nat.gcd a.natAbs b.natAbs = 1)) = _
              rw [decide_eq_true hb, Bool.true_and]
              exact decide_eq_decide.mpr (by omega)
            rw [e] at h
            exact h
          · have e : isPartD (.tup [.int a, .int b]) = false := by
              show (decide (0 < b) && decide (Nat.gcd a.natAbs b.natAbs = 1)) = _
              rw [decide_eq_false hb, Bool.false_and]
            rw [e] at h
            exact h
      · repeat walk_at "y"
        have e := part_no1 (y := y) hx
        have h' : R (.val (.bl (partL x y))) := h
        rw [e] at h'
        exact h'
  · repeat walk_at "y"
    rw [part_no hc] at h
    exact h
theorem ok_is_more (B : Bl mg) (F : Fun K "is_more" "is_more" s_is_more f fd) : FnOk P w K mg base CX0 2 f fd ["one", "other"] (spD K fs_is_more) := by
  refine fn0 F sc_is_more (fun ds R Ex ⟨a, b, c, d, h, _⟩ => by rw [h]; rfl) fun cdv A outer s H E hr => ⟨_, (pss_one (ps_ret (pe_cmpR op_gt (pe_op op_mulU (pe_ix (ix_K (K := K)) (pv 0) pe_int (fun _ _ => rfl)) (pe_ix (ix_K (K := K)) (pv 1) pe_int (fun _ _ => rfl))) (pe_op op_mulU (pe_ix (ix_K (K := K)) (pv 1) pe_int (fun _ _ => rfl)) (pe_ix (ix_K (K := K)) (pv 0) pe_int (fun _ _ => rfl))) (nomark _)))), fun ds R Ex ⟨a, b, c, d, hd, ⟨sa, sb, sc, sd⟩, h⟩ => ?_⟩
  subst hd
  (try dsimp only [cxOf, Cx.nox, Cx.wish]); change tS K _ _ _ [.val (pt a b), .val (pt c d)] _
  repeat walk_at "y"
  exact h
theorem ok_law_gcd (B : Bl mg) (F : Fun K "_law_gcd" "_law_gcd" s__law_gcd f fd) : FnOk P w K mg base CX0 2 f fd ["_law_one", "_law_other"] (spD K fs_law_gcd) := by
  refine fn0 F sc__law_gcd (fun ds R Ex ⟨a, b, h, _⟩ => by rw [h]; rfl) fun cdv A outer s H E hr => ⟨_, (pss_cons (ps_while PassesOwn.never (pt_cmpR op_gt (pv 1) pe_int (nomark _)) (pss_one (ps_par (i := 0) (j := 1) rfl sc__law_gcd.nd rfl rfl (by decide) rfl rfl (pa_cons (pv 1) (pa_cons (pe_op op_mod (pv 0) (pv 1)) pa_nil)) (by rfl))))
      (pss_one (ps_ret (pv 0)))), fun ds R Ex ⟨a, b, hd, h⟩ => ?_⟩
  subst hd
  (try dsimp only [cxOf, Cx.nox, Cx.wish]); change tS K _ _ _ [.val (.int a), .val (.int b)] _
  repeat walk_at "y"
  refine s_while (fun ρ => ∃ x y : Nat, ρ = [.val (.int x), .val (.int y)] ∧ Nat.gcd x y = Nat.gcd a b) (fun ρ => match ρ with | [_, .val (.int y)] => y.toNat | _ => 0) ⟨a, b, rfl, rfl⟩ fun ρ' ⟨x, y, hρ, hg⟩ => ?_
  subst hρ
  repeat walk_at "y"
  refine br2 (fun hp => ?_) fun hp => ?_
  · repeat walk_at "y"
    have hy : 0 < y := by omega
    refine ⟨⟨y, x % y, by rw [← Int.natCast_emod], ?_⟩, ?_⟩
    · rw [← hg, Nat.gcd_comm x y, Nat.gcd_rec y x, Nat.gcd_comm]
    · have z := Nat.mod_lt x hy
      show ((x : Int) % (y : Int)).toNat < ((y : Int)).toNat
      rw [← Int.natCast_emod]
      omega
  · repeat walk_at "y"
    have hy : y = 0 := by omega
    subst hy
    rw [Nat.gcd_zero_right] at hg
    rw [hg]
    exact h
theorem ok_law_part (B : Bl mg) (d__law_gcd : Dfn P w K mg base CX0 "_law_gcd" ["_law_one", "_law_other"] 2 fs_law_gcd) (F : Fun K "_law_part" "_law_part" s__law_part f fd) : FnOk P w K mg base CX0 3 f fd ["_law_top", "_law_bottom"] (spD K fs_law_part) := by
  refine fn0 F sc__law_part (fun ds R Ex ⟨a, b, h, _⟩ => by rw [h]; rfl) fun cdv A outer s H E hr => ⟨_, (pss_cons (ps_set (i := 2) sc__law_part.nd rfl (by first | exact .inl rfl | exact .inr rfl) (pe_dK d__law_gcd hr (pa_cons (pe_callB call_abs (by rfl) B.bAbs (by decide +kernel) (pa_cons (pv 0) pa_nil)) (pa_cons (pv 1) pa_nil))))
      (pss_one (ps_ret (pe_tup (pa_cons (pe_op op_fdivX (pv 0) (pv 2)) (pa_cons (pe_op op_fdivX (pv 1) (pv 2)) pa_nil)))))), fun ds R Ex ⟨a, b, hd, hb, sb, h⟩ => ?_⟩
  subst hd
  obtain ⟨h1, h2, h3⟩ := prt_eq (a := a) hb
  have sg : Sm 900 (ng a b) := by
    unfold Sm at *
    omega
  (try dsimp only [cxOf, Cx.nox, Cx.wish]); change tS K _ _ _ [.val (.int a), .val (.int b), .emp] _
  repeat walk_at "y"
  refine e_call (fun _ => .nil) ?_
  repeat walk_at "y"
  refine ⟨a.natAbs, b.natAbs, by rw [Int.natAbs_of_nonneg (by omega : 0 ≤ b)]; rfl, ?_⟩
  repeat walk_at "y"
  refine ⟨divOk h1 sg (by decide) (by decide), ?_⟩
  repeat walk_at "y"
  refine ⟨divOk h1 sg (by decide) (by decide), ?_⟩
  repeat walk_at "y"
  rw [Int.fdiv_eq_ediv_of_nonneg _ (by omega), Int.fdiv_eq_ediv_of_nonneg _ (by omega)]
  exact h
end
end K01
end

section
set_option maxHeartbeats 4000000
open PySem PySem.Spec PyProof.Rows L2 Y
local macro_rules | `(tactic| walk_at "yE") => `(tactic| first
  | ((with_reducible show tE _ _ _ (tOp _ _ _) _ _); first
    | (with_reducible refine e_ix ?_)
    | (with_reducible refine e_add ?_)
    | (with_reducible refine e_catA ?_)
    | (with_reducible refine e_sub ?_)
    | (with_reducible refine e_mul ?_)
    | (with_reducible refine e_mod ?_)
    | (with_reducible refine e_fdiv ?_)
    | (with_reducible refine e_pow ?_)
    | (with_reducible refine e_shr ?_)
    | (with_reducible refine e_band ?_)
    | (with_reducible refine e_lt ?_)
    | (with_reducible refine e_le ?_)
    | (with_reducible refine e_gt ?_)
    | (with_reducible refine e_ge ?_)
    | (with_reducible refine e_eq ?_)
    | (with_reducible refine e_ne ?_)
    | (with_reducible refine e_isN ?_)
    | (with_reducible refine e_notN ?_)
    | (with_reducible refine e_isB ?_)
    | (with_reducible refine e_isntB ?_))
  | ((with_reducible show tE _ _ _ (tCB _ _) _ _); first
    | (with_reducible refine e_len ?_)
    | (with_reducible refine e_isX (by with_unfolding_all exact fun _ h => h) ?_)
    | (with_reducible refine e_isInt ?_)
    | (with_reducible refine e_isBool ?_)
    | (with_reducible refine e_isTup ?_)
    | (with_reducible refine e_isStr ?_)
    | (with_reducible refine e_isList ?_)
    | (with_reducible refine e_gcd ?_)
    | (with_reducible refine e_abs ?_)
    | (with_reducible refine e_max2 ?_)
    | (with_reducible refine e_intB ?_)
    | (with_reducible refine e_strI ?_)
    | (with_reducible refine e_list ?_)
    | (with_reducible refine e_repr ?_)
    | (with_reducible refine e_tupL ?_)
    | (with_reducible refine e_all ?_))
  | (with_reducible refine e_val (by with_unfolding_all rfl) ?_)
  | (with_reducible refine e_own (by with_unfolding_all rfl) ?_)
  | (with_reducible refine e_int ?_)
  | (with_reducible refine e_bl ?_)
  | (with_reducible refine e_non ?_)
  | (with_reducible refine e_str ?_)
  | (with_reducible refine e_neg ?_)
  | (with_reducible refine e_and ?_)
  | (with_reducible refine e_or ?_)
  | (with_reducible refine e_not ?_)
  | (with_reducible refine e_if ?_)
  | (with_reducible refine e_chainI ?_)
  | (with_reducible refine e_tup ?_)
  | (with_reducible refine e_lst ?_)
  | (with_reducible refine e_dk0 ?_)
  | (with_reducible refine e_sl ?_)
  | (with_reducible refine e_revL ?_))
local macro_rules | `(tactic| walk_at "yS") => `(tactic| first
  | (with_reducible refine s_seq ?_)
  | (with_reducible refine s_if ?_)
  | (with_reducible refine s_retOwn (by with_unfolding_all rfl) ?_)
  | (with_reducible refine s_ret ?_)
  | (with_reducible refine s_retN ?_)
  | (with_reducible refine s_next ?_)
  | (with_reducible refine s_set ?_ (by with_unfolding_all exact Nat.le_of_ble_eq_true rfl))
  | (with_reducible refine s_asgG ?_)
  | (with_reducible refine s_parS ?_ (by with_unfolding_all exact Nat.le_of_ble_eq_true rfl) (by with_unfolding_all exact Nat.le_of_ble_eq_true rfl))
  | (with_reducible refine s_rz ?_)
  | (with_reducible refine s_appendS (by with_unfolding_all rfl) ?_)
  | (with_reducible refine s_expr ?_)
  | ((with_reducible refine s_tryKK ?_); intro W))
local macro_rules | `(tactic| walk_at "yT") => `(tactic| first
  | (with_reducible refine t_test ?_)
  | (with_reducible refine t_tru ?_)
  | (with_reducible refine t_not ?_)
  | (with_reducible refine t_and ?_)
  | (with_reducible refine t_or ?_))
local macro_rules | `(tactic| walk_at "yA") => `(tactic| first
  | (with_reducible refine vs_cons ?_)
  | (with_reducible refine vs_nil ?_)
  | (with_reducible refine a_cons ?_)
  | (with_reducible refine a_nil ?_)
  | (with_reducible refine o_none ?_)
  | (with_reducible refine o_some ?_))
local macro_rules | `(tactic| walk_at "yX") => `(tactic| first
  | ((with_reducible show ∃ _, CmpD _ _ _ ∧ _); first | refine ⟨_, cmpd_int, ?_⟩ | refine ⟨_, cmpd_str, ?_⟩ | refine ⟨_, cmpd_bl, ?_⟩)
  | ((with_reducible show ∃ _ _, _ ∧ ExcC _ _ ∧ _); refine ⟨_, _, rfl, by assumption, by assumption, ?_⟩)
  | (refine ⟨_, _, rfl, rfl, ?_⟩)
  | (refine ⟨_, _, rfl, ?_⟩)
  | (refine ⟨_, rfl, ?_⟩))
local macro_rules | `(tactic| walk_at "yN") => `(tactic| first
  | (with_reducible refine brT ?_)
  | (with_reducible refine brF ?_)
  | (with_reducible refine brT' ?_)
  | (with_reducible refine brF' ?_)
  | ((with_reducible show ((!_) = false → _) ∧ _); first | (refine brA' rfl ?_) | (refine brB' rfl ?_))
  | ((with_reducible show ((!_) = true → _) ∧ _); first | (refine brA rfl ?_) | (refine brB rfl ?_))
  | ((with_reducible show 0 < _ ∧ _); refine ⟨by first | decide | omega, ?_⟩)
  | ((with_reducible show _ ≤ sizeLine ∧ _); refine ⟨small_len (by with_unfolding_all exact Nat.le_of_ble_eq_true rfl), ?_⟩)
  | ((with_reducible show CPow _ _ ∧ _); refine ⟨⟨by decide, by decide, by decide⟩, ?_⟩)
  | ((with_reducible show CDivX _ _ ∧ _); refine ⟨⟨by decide, by decide⟩, ?_⟩)
  | ((with_reducible show 0 ≤ _ ∧ _); refine ⟨by first | decide | omega, ?_⟩)
  | ((with_reducible show _ = D.non ∧ _); refine ⟨rfl, ?_⟩))
local macro_rules | `(tactic| walk_at "yO") => `(tactic| first
  | ((with_reducible show vR _ _); first | (with_reducible refine vr_val ?_) | (with_reducible refine vr_own ?_))
  | ((with_reducible show asgR _ _); first | (with_reducible refine as_val ?_) | (with_reducible refine as_own ?_))
  | ((with_reducible show ∃ _, _); walk_at "yX")
  | ((with_reducible show _ ∧ _); walk_at "yN")
  | ((with_reducible show AddD _ _ _); first | (refine add_int ?_) | (refine add_lst (small_len' (by with_unfolding_all exact Nat.le_of_ble_eq_true rfl)) ?_))
  | ((with_reducible show MulD _ _ _); refine mul_int (by walk_at "mok") ?_)
  | (with_reducible refine ss_go (by with_unfolding_all repeat constructor) ?_)
  | (with_reducible refine g_nameS (by first | trivial | exact List.mem_cons_self | simp) (by with_unfolding_all repeat constructor) ?_)
  | (with_reducible refine g_tup (by with_unfolding_all rfl) ?_)
  | (with_reducible refine gs_cons ?_)
  | (with_reducible refine gs_nil ?_))
local macro_rules | `(tactic| walk_at "y") => `(tactic| first
  | ((with_reducible show tE _ _ _ _ _ _); walk_at "yE")
  | ((with_reducible show tS _ _ _ _ _ _); walk_at "yS")
  | ((with_reducible show tT _ _ _ _ _ _); walk_at "yT")
  | ((with_reducible show tVs _ _ _ _ _ _); walk_at "yA")
  | ((with_reducible show tA _ _ _ _ _ _); walk_at "yA")
  | ((with_reducible show tOo _ _ _ _ _ _); walk_at "yA")
  | walk_at "yO")
local macro_rules | `(tactic| walk_at "z") => `(tactic| (fail_if_success (with_reducible show tS _ _ _ (tSeq (tIfS _ _ _) _) _ _); walk_at "y"))
local macro_rules | `(tactic| walk_at "smb") => `(tactic| first
  | assumption
  | exact (show Sm 64 _ by unfold Sm; decide)
  | (apply Sm.mul <;> walk_at "smb")
  | (apply Sm.add2 <;> walk_at "smb")
  | (apply Sm.sub2 <;> walk_at "smb")
  | (apply Sm.neg <;> walk_at "smb"))
local macro_rules | `(tactic| walk_at "mok") => `(tactic| exact mulOk (by walk_at "smb") (by walk_at "smb") (by decide) (by decide) (by decide))

namespace K01
open PySem PySem.Spec PyProof.Rows L2 Y
section
variable {P : Program} {w : World} {K : PySem.W.Frag} {mg : Str → Option Value} {base : Heap} {f : Addr} {fd : FuncData}
theorem npt_turn {a b : Int} (h : b < 0) : npt (-a) (-b) = npt a b := by
  have e : ng (-a) (-b) = ng a b := by
    unfold ng
    rw [Int.natAbs_neg, Int.natAbs_neg]
  rw [npt_pos (a := -a) (b := -b) (by omega) (by omega), npt_neg (a := a) h, e]
  show D.tup _ = D.tup _
  rw [show (-a).fdiv (ng a b) = a.fdiv (-ng a b) by rw [← Int.neg_fdiv_neg (-a), Int.neg_neg], show (-b).fdiv (ng a b) = b.fdiv (-ng a b) by rw [← Int.neg_fdiv_neg (-b), Int.neg_neg]]
theorem ok_reduced (B : Bl mg) (i_gcd : mg "gcd" = some (.builtin "math.gcd")) (F : Fun K "reduced" "reduced" s_reduced f fd) : FnOk P w K mg base CX0 2 f fd ["top", "bottom"] (spD K fs_reduced) := by
  refine fn0 F sc_reduced (fun ds R Ex ⟨a, b, h, _⟩ => by rw [h]; rfl) fun cdv A outer s H E hr => ⟨_, (pss_cons (ps_set (i := 2) sc_reduced.nd rfl (by first | exact .inl rfl | exact .inr rfl) (pe_callBfun cr_gcd (by rfl) i_gcd (pa_cons (pv 0) (pa_cons (pv 1) pa_nil))))
      (pss_one (ps_ret (pe_tup (pa_cons (pe_op op_fdivX (pv 0) (pv 2)) (pa_cons (pe_op op_fdivX (pv 1) (pv 2)) pa_nil)))))), fun ds R Ex ⟨a, b, hd, sb, b0, h⟩ => ?_⟩
  subst hd
  have hb : b ≠ 0 := by omega
  have h1 := ng_pos (a := a) hb
  have h2 := ng_le (a := a) hb
  have sg : Sm 900 (ng a b) := by
    unfold Sm at *
    omega
  (try dsimp only [cxOf, Cx.nox, Cx.wish]); change tS K _ _ _ [.val (.int a), .val (.int b), .emp] _
  repeat walk_at "y"
  refine ⟨divOk (show ng a b ≠ 0 by omega) sg (by decide) (by decide), ?_⟩
  repeat walk_at "y"
  refine ⟨divOk (show ng a b ≠ 0 by omega) sg (by decide) (by decide), ?_⟩
  repeat walk_at "y"
  have e := npt_pos (a := a) (b := b) (by omega) hb
  rw [e] at h
  exact h
theorem ok_part_of {C : Addr} (B : Bl mg) (i_gcd : mg "gcd" = some (.builtin "math.gcd")) (c_NoPart : Cl mg "NoPart" C) (r_NoPart : ClR P w K mg base C) (d_is_whole : Dfn P w K mg base CX0 "is_whole" ["thing"] 2 fs_is_whole) (d_reduced : Dfn P w K mg base CX0 "reduced" ["top", "bottom"] 2 fs_reduced) (F : FunD K "part_of" "part_of" (defArgs s_part_of) (defBody s_part_of) (defScope s_part_of) [.int 1] [] f fd) : FnOk P w K mg base (L2.CX P w) 3 f fd ["top", "bottom"] (spD K (fs_part_of C)) := by
  refine fnD F sc_part_of (fun ds R Ex ⟨a, b, h, _⟩ => by rw [h]; rfl) fun cdv A outer s H E hr => ⟨_, (pss_cons (ps_if (PW.pt (pw_or (pt_not (pt_truK (K := K) (pe_dK d_is_whole hr (pa_cons (pv 0) pa_nil)))) (pw_or (pt_not (pt_truK (K := K) (pe_dK d_is_whole hr (pa_cons (pv 1) pa_nil)))) (pw_or1 (pt_cmpR (op_eqK (K := K) hr) (pv 1) pe_int (nomark _)))))) (pss_one (ps_rz rfl (takes_of rfl rfl rfl rfl) r_NoPart c_NoPart.g hr)) pss_nil)
      (pss_cons (ps_if (pt_cmpR op_lt (pv 1) pe_int (nomark _)) (pss_one (ps_ret (pe_dK d_reduced hr (pa_cons (pe_un un_neg (pv 0)) (pa_cons (pe_un un_neg (pv 1)) pa_nil))))) pss_nil)
      (pss_one (ps_ret (pe_dK d_reduced hr (pa_cons (pv 0) (pa_cons (pv 1) pa_nil))))))), fun ds R Ex ⟨a, b, hd, sb, h0, h⟩ => ?_⟩
  subst hd
  (try dsimp only [cxOf, Cx.nox, Cx.wish]); change tS K _ _ _ [.val (.int a), .val (.int b)] _
  repeat walk_at "y"
  refine e_call (fun _ => .nil) ?_
  repeat walk_at "y"
  refine ⟨rfl, _, rfl, ?_⟩
  repeat walk_at "y"
  refine e_call (fun _ => .nil) ?_
  repeat walk_at "y"
  refine ⟨rfl, _, rfl, ?_⟩
  repeat walk_at "y"
  refine br2 (fun hb => ?_) fun hb => ?_
  · repeat walk_at "y"
    exact h0 hb
  · repeat walk_at "y"
    refine br2 (fun hn => ?_) fun hn => ?_
    · repeat walk_at "y"
      refine e_call (fun _ => .nil) ?_
      repeat walk_at "y"
      exact ⟨Sm.neg sb, by omega, by rw [npt_turn hn]; exact h hb⟩
    · repeat walk_at "y"
      refine e_call (fun _ => .nil) ?_
      repeat walk_at "y"
      exact ⟨sb, by omega, h hb⟩
theorem ok_added {C : Addr} (B : Bl mg) (d_part_of : Dfn P w K mg base (L2.CX P w) "part_of" ["top", "bottom"] 3 (fs_part_of C)) (F : Fun K "added" "added" s_added f fd) : FnOk P w K mg base CX0 4 f fd ["one", "other"] (spD K fs_added) := by
  refine fn0 F sc_added (fun ds R Ex ⟨a, b, c, d, h, _⟩ => by rw [h]; rfl) fun cdv A outer s H E hr => ⟨_, (pss_one (ps_ret (pe_dNK d_part_of hr (pa_cons (pe_op op_addU (pe_op op_mulU (pe_ix (ix_K (K := K)) (pv 0) pe_int (fun _ _ => rfl)) (pe_ix (ix_K (K := K)) (pv 1) pe_int (fun _ _ => rfl))) (pe_op op_mulU (pe_ix (ix_K (K := K)) (pv 1) pe_int (fun _ _ => rfl)) (pe_ix (ix_K (K := K)) (pv 0) pe_int (fun _ _ => rfl)))) (pa_cons (pe_op op_mulU (pe_ix (ix_K (K := K)) (pv 0) pe_int (fun _ _ => rfl)) (pe_ix (ix_K (K := K)) (pv 1) pe_int (fun _ _ => rfl))) pa_nil))))), fun ds R Ex ⟨a, b, c, d, hd, ⟨sa, sb, sc, sd⟩, hz, h⟩ => ?_⟩
  subst hd
  (try dsimp only [cxOf, Cx.nox, Cx.wish]); change tS K _ _ _ [.val (pt a b), .val (pt c d)] _
  repeat walk_at "y"
  refine e_call (fun _ => .nil) ?_
  repeat walk_at "y"
  exact ⟨Sm.le (Sm.mul sb sd) (by decide), fun z => absurd z hz, fun _ => h⟩
theorem ok_less {C : Addr} (B : Bl mg) (d_part_of : Dfn P w K mg base (L2.CX P w) "part_of" ["top", "bottom"] 3 (fs_part_of C)) (F : Fun K "less" "less" s_less f fd) : FnOk P w K mg base CX0 4 f fd ["one", "other"] (spD K fs_less) := by
  refine fn0 F sc_less (fun ds R Ex ⟨a, b, c, d, h, _⟩ => by rw [h]; rfl) fun cdv A outer s H E hr => ⟨_, (pss_one (ps_ret (pe_dNK d_part_of hr (pa_cons (pe_op op_sub (pe_op op_mulU (pe_ix (ix_K (K := K)) (pv 0) pe_int (fun _ _ => rfl)) (pe_ix (ix_K (K := K)) (pv 1) pe_int (fun _ _ => rfl))) (pe_op op_mulU (pe_ix (ix_K (K := K)) (pv 1) pe_int (fun _ _ => rfl)) (pe_ix (ix_K (K := K)) (pv 0) pe_int (fun _ _ => rfl)))) (pa_cons (pe_op op_mulU (pe_ix (ix_K (K := K)) (pv 0) pe_int (fun _ _ => rfl)) (pe_ix (ix_K (K := K)) (pv 1) pe_int (fun _ _ => rfl))) pa_nil))))), fun ds R Ex ⟨a, b, c, d, hd, ⟨sa, sb, sc, sd⟩, hz, h⟩ => ?_⟩
  subst hd
  (try dsimp only [cxOf, Cx.nox, Cx.wish]); change tS K _ _ _ [.val (pt a b), .val (pt c d)] _
  repeat walk_at "y"
  refine e_call (fun _ => .nil) ?_
  repeat walk_at "y"
  exact ⟨Sm.le (Sm.mul sb sd) (by decide), fun z => absurd z hz, fun _ => h⟩
theorem ok_product {C : Addr} (B : Bl mg) (d_part_of : Dfn P w K mg base (L2.CX P w) "part_of" ["top", "bottom"] 3 (fs_part_of C)) (F : Fun K "product" "product" s_product f fd) : FnOk P w K mg base CX0 4 f fd ["one", "other"] (spD K fs_product) := by
  refine fn0 F sc_product (fun ds R Ex ⟨a, b, c, d, h, _⟩ => by rw [h]; rfl) fun cdv A outer s H E hr => ⟨_, (pss_one (ps_ret (pe_dNK d_part_of hr (pa_cons (pe_op op_mulU (pe_ix (ix_K (K := K)) (pv 0) pe_int (fun _ _ => rfl)) (pe_ix (ix_K (K := K)) (pv 1) pe_int (fun _ _ => rfl))) (pa_cons (pe_op op_mulU (pe_ix (ix_K (K := K)) (pv 0) pe_int (fun _ _ => rfl)) (pe_ix (ix_K (K := K)) (pv 1) pe_int (fun _ _ => rfl))) pa_nil))))), fun ds R Ex ⟨a, b, c, d, hd, ⟨sa, sb, sc, sd⟩, hz, h⟩ => ?_⟩
  subst hd
  (try dsimp only [cxOf, Cx.nox, Cx.wish]); change tS K _ _ _ [.val (pt a b), .val (pt c d)] _
  repeat walk_at "y"
  refine e_call (fun _ => .nil) ?_
  repeat walk_at "y"
  exact ⟨Sm.le (Sm.mul sb sd) (by decide), fun z => absurd z hz, fun _ => h⟩
theorem ok_quotient {C : Addr} (B : Bl mg) (d_part_of : Dfn P w K mg base (L2.CX P w) "part_of" ["top", "bottom"] 3 (fs_part_of C)) (F : Fun K "quotient" "quotient" s_quotient f fd) : FnOk P w K mg base (L2.CX P w) 4 f fd ["one", "other"] (spD K (fs_quotient C)) := by
  refine fnX F sc_quotient (fun ds R Ex ⟨a, b, c, d, h, _⟩ => by rw [h]; rfl) fun cdv A outer s H E hr => ⟨_, (pss_one (ps_ret (pe_dXK d_part_of hr (passes_call (takes_of rfl rfl rfl rfl) fun _ _ _ _ h => h) (pa_cons (pe_op op_mulU (pe_ix (ix_K (K := K)) (pv 0) pe_int (fun _ _ => rfl)) (pe_ix (ix_K (K := K)) (pv 1) pe_int (fun _ _ => rfl))) (pa_cons (pe_op op_mulU (pe_ix (ix_K (K := K)) (pv 0) pe_int (fun _ _ => rfl)) (pe_ix (ix_K (K := K)) (pv 1) pe_int (fun _ _ => rfl))) pa_nil))))), fun ds R Ex ⟨a, b, c, d, hd, ⟨sa, sb, sc, sd⟩, h0, h⟩ => ?_⟩
  subst hd
  (try dsimp only [cxOf, Cx.nox, Cx.wish]); change tS K _ _ _ [.val (pt a b), .val (pt c d)] _
  repeat walk_at "y"
  refine e_callX (fun _ => .nil) ?_
  repeat walk_at "y"
  exact ⟨Sm.le (Sm.mul sb sc) (by decide), h0, h⟩
theorem ok_lesser (B : Bl mg) (d_is_more : Dfn P w K mg base CX0 "is_more" ["one", "other"] 2 fs_is_more) (F : Fun K "lesser" "lesser" s_lesser f fd) : FnOk P w K mg base CX0 3 f fd ["one", "other"] (spD K fs_lesser) := by
  refine fn0 F sc_lesser (fun ds R Ex ⟨a, b, c, d, h, _⟩ => by rw [h]; rfl) fun cdv A outer s H E hr => ⟨_, (pss_cons (ps_if (pt_truK (K := K) (pe_dK d_is_more hr (pa_cons (pv 0) (pa_cons (pv 1) pa_nil)))) (pss_one (ps_ret (pv 1))) pss_nil)
      (pss_one (ps_ret (pv 0)))), fun ds R Ex ⟨a, b, c, d, hd, ⟨sa, sb, sc, sd⟩, h⟩ => ?_⟩
  subst hd
  (try dsimp only [cxOf, Cx.nox, Cx.wish]); change tS K _ _ _ [.val (pt a b), .val (pt c d)] _
  repeat walk_at "y"
  refine e_call (fun _ => .nil) ?_
  repeat walk_at "y"
  refine ⟨_, _, _, _, rfl, ⟨by assumption, by assumption, by assumption, by assumption⟩, ?_⟩
  repeat walk_at "y"
  refine br2 (fun hn => ?_) fun hn => ?_
  · repeat walk_at "y"
    rw [if_pos hn] at h
    exact h
  · repeat walk_at "y"
    rw [if_neg hn] at h
    exact h
theorem ok_greater (B : Bl mg) (d_is_more : Dfn P w K mg base CX0 "is_more" ["one", "other"] 2 fs_is_more) (F : Fun K "greater" "greater" s_greater f fd) : FnOk P w K mg base CX0 3 f fd ["one", "other"] (spD K fs_greater) := by
  refine fn0 F sc_greater (fun ds R Ex ⟨a, b, c, d, h, _⟩ => by rw [h]; rfl) fun cdv A outer s H E hr => ⟨_, (pss_cons (ps_if (pt_truK (K := K) (pe_dK d_is_more hr (pa_cons (pv 1) (pa_cons (pv 0) pa_nil)))) (pss_one (ps_ret (pv 1))) pss_nil)
      (pss_one (ps_ret (pv 0)))), fun ds R Ex ⟨a, b, c, d, hd, ⟨sa, sb, sc, sd⟩, h⟩ => ?_⟩
  subst hd
  (try dsimp only [cxOf, Cx.nox, Cx.wish]); change tS K _ _ _ [.val (pt a b), .val (pt c d)] _
  repeat walk_at "y"
  refine e_call (fun _ => .nil) ?_
  repeat walk_at "y"
  refine ⟨_, _, _, _, rfl, ⟨by assumption, by assumption, by assumption, by assumption⟩, ?_⟩
  repeat walk_at "y"
  refine br2 (fun hn => ?_) fun hn => ?_
  · repeat walk_at "y"
    rw [if_pos hn] at h
    exact h
  · repeat walk_at "y"
    rw [if_neg hn] at h
    exact h
end
end K01
end

section
set_option maxHeartbeats 4000000
open PySem PySem.Spec PyProof.Rows L2 Y
local macro_rules | `(tactic| walk_at "yE") => `(tactic| first
  | ((with_reducible show tE _ _ _ (tOp _ _ _) _ _); first
    | (with_reducible refine e_ix ?_)
    | (with_reducible refine e_add ?_)
    | (with_reducible refine e_catA ?_)
    | (with_reducible refine e_sub ?_)
    | (with_reducible refine e_mul ?_)
    | (with_reducible refine e_mod ?_)
    | (with_reducible refine e_fdiv ?_)
    | (with_reducible refine e_pow ?_)
    | (with_reducible refine e_shr ?_)
    | (with_reducible refine e_band ?_)
    | (with_reducible refine e_lt ?_)
    | (with_reducible refine e_le ?_)
    | (with_reducible refine e_gt ?_)
    | (with_reducible refine e_ge ?_)
    | (with_reducible refine e_eq ?_)
    | (with_reducible refine e_ne ?_)
    | (with_reducible refine e_isN ?_)
    | (with_reducible refine e_notN ?_)
    | (with_reducible refine e_isB ?_)
    | (with_reducible refine e_isntB ?_))
  | ((with_reducible show tE _ _ _ (tCB _ _) _ _); first
    | (with_reducible refine e_len ?_)
    | (with_reducible refine e_isX (by with_unfolding_all exact fun _ h => h) ?_)
    | (with_reducible refine e_isInt ?_)
    | (with_reducible refine e_isBool ?_)
    | (with_reducible refine e_isTup ?_)
    | (with_reducible refine e_isStr ?_)
    | (with_reducible refine e_isList ?_)
    | (with_reducible refine e_gcd ?_)
    | (with_reducible refine e_abs ?_)
    | (with_reducible refine e_max2 ?_)
    | (with_reducible refine e_intB ?_)
    | (with_reducible refine e_strI ?_)
    | (with_reducible refine e_list ?_)
    | (with_reducible refine e_repr ?_)
    | (with_reducible refine e_tupL ?_)
    | (with_reducible refine e_all ?_))
  | (with_reducible refine e_val (by with_unfolding_all rfl) ?_)
  | (with_reducible refine e_own (by with_unfolding_all rfl) ?_)
  | (with_reducible refine e_int ?_)
  | (with_reducible refine e_bl ?_)
  | (with_reducible refine e_non ?_)
  | (with_reducible refine e_str ?_)
  | (with_reducible refine e_neg ?_)
  | (with_reducible refine e_and ?_)
  | (with_reducible refine e_or ?_)
  | (with_reducible refine e_not ?_)
  | (with_reducible refine e_if ?_)
  | (with_reducible refine e_chainI ?_)
  | (with_reducible refine e_tup ?_)
  | (with_reducible refine e_lst ?_)
  | (with_reducible refine e_dk0 ?_)
  | (with_reducible refine e_sl ?_)
  | (with_reducible refine e_revL ?_))
local macro_rules | `(tactic| walk_at "yS") => `(tactic| first
  | (with_reducible refine s_seq ?_)
  | (with_reducible refine s_if ?_)
  | (with_reducible refine s_retOwn (by with_unfolding_all rfl) ?_)
  | (with_reducible refine s_ret ?_)
  | (with_reducible refine s_retN ?_)
  | (with_reducible refine s_next ?_)
  | (with_reducible refine s_set ?_ (by with_unfolding_all exact Nat.le_of_ble_eq_true rfl))
  | (with_reducible refine s_asgG ?_)
  | (with_reducible refine s_parS ?_ (by with_unfolding_all exact Nat.le_of_ble_eq_true rfl) (by with_unfolding_all exact Nat.le_of_ble_eq_true rfl))
  | (with_reducible refine s_rz ?_)
  | (with_reducible refine s_appendS (by with_unfolding_all rfl) ?_)
  | (with_reducible refine s_expr ?_)
  | ((with_reducible refine s_tryKK ?_); intro W))
local macro_rules | `(tactic| walk_at "yT") => `(tactic| first
  | (with_reducible refine t_test ?_)
  | (with_reducible refine t_tru ?_)
  | (with_reducible refine t_not ?_)
  | (with_reducible refine t_and ?_)
  | (with_reducible refine t_or ?_))
local macro_rules | `(tactic| walk_at "yA") => `(tactic| first
  | (with_reducible refine vs_cons ?_)
  | (with_reducible refine vs_nil ?_)
  | (with_reducible refine a_cons ?_)
  | (with_reducible refine a_nil ?_)
  | (with_reducible refine o_none ?_)
  | (with_reducible refine o_some ?_))
local macro_rules | `(tactic| walk_at "yX") => `(tactic| first
  | ((with_reducible show ∃ _, CmpD _ _ _ ∧ _); first | refine ⟨_, cmpd_int, ?_⟩ | refine ⟨_, cmpd_str, ?_⟩ | refine ⟨_, cmpd_bl, ?_⟩)
  | ((with_reducible show ∃ _ _, _ ∧ ExcC _ _ ∧ _); refine ⟨_, _, rfl, by assumption, by assumption, ?_⟩)
  | (refine ⟨_, _, rfl, rfl, ?_⟩)
  | (refine ⟨_, _, rfl, ?_⟩)
  | (refine ⟨_, rfl, ?_⟩))
local macro_rules | `(tactic| walk_at "yN") => `(tactic| first
  | (with_reducible refine brT ?_)
  | (with_reducible refine brF ?_)
  | (with_reducible refine brT' ?_)
  | (with_reducible refine brF' ?_)
  | ((with_reducible show ((!_) = false → _) ∧ _); first | (refine brA' rfl ?_) | (refine brB' rfl ?_))
  | ((with_reducible show ((!_) = true → _) ∧ _); first | (refine brA rfl ?_) | (refine brB rfl ?_))
  | ((with_reducible show 0 < _ ∧ _); refine ⟨by first | decide | omega, ?_⟩)
  | ((with_reducible show _ ≤ sizeLine ∧ _); refine ⟨small_len (by with_unfolding_all exact Nat.le_of_ble_eq_true rfl), ?_⟩)
  | ((with_reducible show CPow _ _ ∧ _); refine ⟨⟨by decide, by decide, by decide⟩, ?_⟩)
  | ((with_reducible show CDivX _ _ ∧ _); refine ⟨⟨by decide, by decide⟩, ?_⟩)
  | ((with_reducible show 0 ≤ _ ∧ _); refine ⟨by first | decide | omega, ?_⟩)
  | ((with_reducible show _ = D.non ∧ _); refine ⟨rfl, ?_⟩))
local macro_rules | `(tactic| walk_at "yO") => `(tactic| first
  | ((with_reducible show vR _ _); first | (with_reducible refine vr_val ?_) | (with_reducible refine vr_own ?_))
  | ((with_reducible show asgR _ _); first | (with_reducible refine as_val ?_) | (with_reducible refine as_own ?_))
  | ((with_reducible show ∃ _, _); walk_at "yX")
  | ((with_reducible show _ ∧ _); walk_at "yN")
  | ((with_reducible show AddD _ _ _); first | (refine add_int ?_) | (refine add_lst (small_len' (by with_unfolding_all exact Nat.le_of_ble_eq_true rfl)) ?_))
  | ((with_reducible show MulD _ _ _); refine mul_int (by walk_at "mok") ?_)
  | (with_reducible refine ss_go (by with_unfolding_all repeat constructor) ?_)
  | (with_reducible refine g_nameS (by first | trivial | exact List.mem_cons_self | simp) (by with_unfolding_all repeat constructor) ?_)
  | (with_reducible refine g_tup (by with_unfolding_all rfl) ?_)
  | (with_reducible refine gs_cons ?_)
  | (with_reducible refine gs_nil ?_))
local macro_rules | `(tactic| walk_at "y") => `(tactic| first
  | ((with_reducible show tE _ _ _ _ _ _); walk_at "yE")
  | ((with_reducible show tS _ _ _ _ _ _); walk_at "yS")
  | ((with_reducible show tT _ _ _ _ _ _); walk_at "yT")
  | ((with_reducible show tVs _ _ _ _ _ _); walk_at "yA")
  | ((with_reducible show tA _ _ _ _ _ _); walk_at "yA")
  | ((with_reducible show tOo _ _ _ _ _ _); walk_at "yA")
  | walk_at "yO")
local macro_rules | `(tactic| walk_at "z") => `(tactic| (fail_if_success (with_reducible show tS _ _ _ (tSeq (tIfS _ _ _) _) _ _); walk_at "y"))
local macro_rules | `(tactic| walk_at "smb") => `(tactic| first
  | assumption
  | exact (show Sm 64 _ by unfold Sm; decide)
  | (apply Sm.mul <;> walk_at "smb")
  | (apply Sm.add2 <;> walk_at "smb")
  | (apply Sm.sub2 <;> walk_at "smb")
  | (apply Sm.neg <;> walk_at "smb"))
local macro_rules | `(tactic| walk_at "mok") => `(tactic| exact mulOk (by walk_at "smb") (by walk_at "smb") (by decide) (by decide) (by decide))

namespace K01
open PySem PySem.Spec PyProof.Rows L2 Y
section
variable {P : Program} {w : World} {K : PySem.W.Frag} {mg : Str → Option Value} {base : Heap} {f : Addr} {fd : FuncData}
theorem ok_law_drawn (B : Bl mg) (F : Fun K "_law_drawn" "_law_drawn" s__law_drawn f fd) : FnOk P w K mg base CX0 2 f fd ["_law_a", "_law_b"] (spD K fs_law_drawn) := by
  refine fn0 F sc__law_drawn (fun ds R Ex ⟨a, b, h, _⟩ => by rw [h]; rfl) fun cdv A outer s H E hr => ⟨_, (pss_cons (ps_set (i := 2) sc__law_drawn.nd rfl (by first | exact .inl rfl | exact .inr rfl) (pe_ix (ix_K (K := K)) (pe_lst (pa_cons (pe_op op_mod (pv 0) pe_int) (pa_cons (pe_op op_mod (pv 0) pe_int) (pa_cons (pe_op op_mod (pe_op op_mulU (pv 0) (pv 1)) (pe_op op_pow pe_int pe_int)) (pa_cons (pe_op op_mod (pe_op op_mulU (pv 0) (pe_op op_addU (pv 1) pe_int)) (pe_op op_pow pe_int pe_int)) pa_nil))))) (pe_op op_mod (pe_op op_fdivX (pv 0) pe_int) pe_int) (fun _ _ => rfl)))
      (pss_one (ps_ret (pe_ix (ix_K (K := K)) (pe_lst (pa_cons (pv 2) (pa_cons (pe_op op_sub pe_int (pv 2)) pa_nil))) (pe_op op_mod (pe_op op_fdivX (pv 1) pe_int) pe_int) (fun _ _ => rfl))))), fun ds R Ex ⟨a, b, hd, ca, cb, h⟩ => ?_⟩
  subst hd
  obtain ⟨a0, a1⟩ := ca
  obtain ⟨b0, b1⟩ := cb
  have sa : Sm 133 a := by unfold Sm; omega
  have sb : Sm 133 b := by unfold Sm; omega
  (try dsimp only [cxOf, Cx.nox, Cx.wish]); change tS K _ _ _ [.val (.int a), .val (.int b), .emp] _
  repeat walk_at "y"
  have h7 := Int.emod_nonneg (a.fdiv 7) (show (4 : Int) ≠ 0 by decide)
  have h8 := Int.emod_lt_of_pos (a.fdiv 7) (show (0 : Int) < 4 by decide)
  obtain ⟨d, hm, hx⟩ := ixd_any (ds := [.int (a % 12), .int (a % 1000), .int (a * b % 10 ^ Int.toNat 20), .int (a * (b + 1) % 10 ^ Int.toNat 12)]) h7 h8
  obtain ⟨r, rfl, hr0, hr1⟩ : ∃ r : Int, d = .int r ∧ 0 ≤ r ∧ r < 10 ^ 20 := by
    have md : ∀ (x m : Int), 0 < m → m ≤ 10 ^ 20 → 0 ≤ x % m ∧ x % m < 10 ^ 20 := fun x m h1 h2 => ⟨Int.emod_nonneg _ (by omega), Int.lt_of_lt_of_le (Int.emod_lt_of_pos _ h1) h2⟩
    rcases List.mem_cons.mp hm with e | hm
    · exact ⟨_, e, md _ _ (by decide) (by decide)⟩
    rcases List.mem_cons.mp hm with e | hm
    · exact ⟨_, e, md _ _ (by decide) (by decide)⟩
    rcases List.mem_cons.mp hm with e | hm
    · exact ⟨_, e, md _ _ (by decide) (by decide)⟩
    rcases List.mem_cons.mp hm with e | hm
    · exact ⟨_, e, md _ _ (by decide) (by decide)⟩
    · cases hm
  refine ⟨_, _, rfl, hx, ?_⟩
  repeat walk_at "y"
  have k7 := Int.emod_nonneg (b.fdiv 11) (show (2 : Int) ≠ 0 by decide)
  have k8 := Int.emod_lt_of_pos (b.fdiv 11) (show (0 : Int) < 2 by decide)
  obtain ⟨d, hm, hx⟩ := ixd_any (ds := [.int r, .int (0 - r)]) k7 k8
  refine ⟨_, d, rfl, hx, ?_⟩
  rcases List.mem_cons.mp hm with e | hm
  · subst e
    exact h r ⟨by omega, by omega⟩
  rcases List.mem_cons.mp hm with e | hm
  · subst e
    exact h (0 - r) ⟨by omega, by omega⟩
  · cases hm
theorem ok_law_made (B : Bl mg) (d__law_drawn : Dfn P w K mg base CX0 "_law_drawn" ["_law_a", "_law_b"] 2 fs_law_drawn) (F : Fun K "_law_made" "_law_made" s__law_made f fd) : FnOk P w K mg base CX0 3 f fd ["_law_a", "_law_b", "_law_c"] (spD K fs_law_made) := by
  refine fn0 F sc__law_made (fun ds R Ex ⟨a, b, c, h, _⟩ => by rw [h]; rfl) fun cdv A outer s H E hr => ⟨_, (pss_cons (ps_par (i := 3) (j := 4) rfl sc__law_made.nd rfl rfl (by decide) rfl rfl (pa_cons (pe_dK d__law_drawn hr (pa_cons (pv 0) (pa_cons (pv 1) pa_nil))) (pa_cons (pe_op op_addU pe_int (pe_callB call_abs (by rfl) B.bAbs (by decide +kernel) (pa_cons (pe_dK d__law_drawn hr (pa_cons (pv 1) (pa_cons (pv 2) pa_nil))) pa_nil))) pa_nil)) (by rfl))
      (pss_cons (ps_set (i := 5) sc__law_made.nd rfl (by first | exact .inl rfl | exact .inr rfl) (pe_op op_addU pe_int (pe_op op_mod (pv 2) pe_int)))
      (pss_cons (ps_set (i := 6) sc__law_made.nd rfl (by first | exact .inl rfl | exact .inr rfl) (pe_ix (ix_K (K := K)) (pe_lst (pa_cons pe_int (pa_cons (pe_op op_sub pe_int pe_int) pa_nil))) (pe_op op_mod (pe_op op_fdivX (pv 2) pe_int) pe_int) (fun _ _ => rfl)))
      (pss_one (ps_ret (pe_tup (pa_cons (pv 3) (pa_cons (pv 4) (pa_cons (pe_op op_mulU (pe_op op_mulU (pv 3) (pv 5)) (pv 6)) (pa_cons (pe_op op_mulU (pe_op op_mulU (pv 4) (pv 5)) (pv 6)) pa_nil)))))))))), fun ds R Ex ⟨a, b, c, hd, ca, cb, cc, h⟩ => ?_⟩
  subst hd
  (try dsimp only [cxOf, Cx.nox, Cx.wish]); change tS K _ _ _ [.val (.int a), .val (.int b), .val (.int c), .emp, .emp, .emp, .emp] _
  repeat walk_at "y"
  refine e_call (fun _ => .nil) ?_
  repeat walk_at "y"
  refine ⟨ca, cb, fun t ht => ?_⟩
  repeat walk_at "y"
  refine e_call (fun _ => .nil) ?_
  repeat walk_at "y"
  refine ⟨cb, cc, fun u hu => ?_⟩
  repeat walk_at "y"
  have st : Sm 67 t := by unfold Sm; omega
  have su : Sm 67 (1 + ((u.natAbs : Nat) : Int)) := by unfold Sm; omega
  have m0 := Int.emod_nonneg c (show (30 : Int) ≠ 0 by decide)
  have m1 := Int.emod_lt_of_pos c (show (0 : Int) < 30 by decide)
  have sm : Sm 64 (1 + c % 30) := by unfold Sm; omega
  have k7 := Int.emod_nonneg (c.fdiv 30) (show (2 : Int) ≠ 0 by decide)
  have k8 := Int.emod_lt_of_pos (c.fdiv 30) (show (0 : Int) < 2 by decide)
  obtain ⟨d, hm, hx⟩ := ixd_any (ds := [.int 1, .int (0 - 1)]) k7 k8
  obtain ⟨g, rfl, hg⟩ : ∃ g : Int, d = .int g ∧ (g = 1 ∨ g = -1) := by
    rcases List.mem_cons.mp hm with e | hm
    · exact ⟨1, e, .inl rfl⟩
    rcases List.mem_cons.mp hm with e | hm
    · exact ⟨0 - 1, e, .inr (by decide)⟩
    · cases hm
  have sg : Sm 64 g := by rcases hg with rfl | rfl <;> (unfold Sm; decide)
  refine ⟨_, _, rfl, hx, ?_⟩
  repeat walk_at "y"
  have h' := h t (1 + ((u.natAbs : Nat) : Int)) ((1 + c % 30) * g) ht (by omega) (by rcases hg with rfl | rfl <;> omega)
  rw [← Int.mul_assoc, ← Int.mul_assoc] at h'
  exact h'
end
end K01
end

section
set_option maxHeartbeats 4000000
open PySem PySem.Spec PyProof.Rows L2 Y
local macro_rules | `(tactic| walk_at "yE") => `(tactic| first
  | ((with_reducible show tE _ _ _ (tOp _ _ _) _ _); first
    | (with_reducible refine e_ix ?_)
    | (with_reducible refine e_add ?_)
    | (with_reducible refine e_catA ?_)
    | (with_reducible refine e_sub ?_)
    | (with_reducible refine e_mul ?_)
    | (with_reducible refine e_mod ?_)
    | (with_reducible refine e_fdiv ?_)
    | (with_reducible refine e_pow ?_)
    | (with_reducible refine e_shr ?_)
    | (with_reducible refine e_band ?_)
    | (with_reducible refine e_lt ?_)
    | (with_reducible refine e_le ?_)
    | (with_reducible refine e_gt ?_)
    | (with_reducible refine e_ge ?_)
    | (with_reducible refine e_eq ?_)
    | (with_reducible refine e_ne ?_)
    | (with_reducible refine e_isN ?_)
    | (with_reducible refine e_notN ?_)
    | (with_reducible refine e_isB ?_)
    | (with_reducible refine e_isntB ?_))
  | ((with_reducible show tE _ _ _ (tCB _ _) _ _); first
    | (with_reducible refine e_len ?_)
    | (with_reducible refine e_isX (by with_unfolding_all exact fun _ h => h) ?_)
    | (with_reducible refine e_isInt ?_)
    | (with_reducible refine e_isBool ?_)
    | (with_reducible refine e_isTup ?_)
    | (with_reducible refine e_isStr ?_)
    | (with_reducible refine e_isList ?_)
    | (with_reducible refine e_gcd ?_)
    | (with_reducible refine e_abs ?_)
    | (with_reducible refine e_max2 ?_)
    | (with_reducible refine e_intB ?_)
    | (with_reducible refine e_strI ?_)
    | (with_reducible refine e_list ?_)
    | (with_reducible refine e_repr ?_)
    | (with_reducible refine e_tupL ?_)
    | (with_reducible refine e_all ?_))
  | (with_reducible refine e_val (by with_unfolding_all rfl) ?_)
  | (with_reducible refine e_own (by with_unfolding_all rfl) ?_)
  | (with_reducible refine e_int ?_)
  | (with_reducible refine e_bl ?_)
  | (with_reducible refine e_non ?_)
  | (with_reducible refine e_str ?_)
  | (with_reducible refine e_neg ?_)
  | (with_reducible refine e_and ?_)
  | (with_reducible refine e_or ?_)
  | (with_reducible refine e_not ?_)
  | (with_reducible refine e_if ?_)
  | (with_reducible refine e_chainI ?_)
  | (with_reducible refine e_tup ?_)
  | (with_reducible refine e_lst ?_)
  | (with_reducible refine e_dk0 ?_)
  | (with_reducible refine e_sl ?_)
  | (with_reducible refine e_revL ?_))
local macro_rules | `(tactic| walk_at "yS") => `(tactic| first
  | (with_reducible refine s_seq ?_)
  | (with_reducible refine s_if ?_)
  | (with_reducible refine s_retOwn (by with_unfolding_all rfl) ?_)
  | (with_reducible refine s_ret ?_)
  | (with_reducible refine s_retN ?_)
  | (with_reducible refine s_next ?_)
  | (with_reducible refine s_set ?_ (by with_unfolding_all exact Nat.le_of_ble_eq_true rfl))
  | (with_reducible refine s_asgG ?_)
  | (with_reducible refine s_parS ?_ (by with_unfolding_all exact Nat.le_of_ble_eq_true rfl) (by with_unfolding_all exact Nat.le_of_ble_eq_true rfl))
  | (with_reducible refine s_rz ?_)
  | (with_reducible refine s_appendS (by with_unfolding_all rfl) ?_)
  | (with_reducible refine s_expr ?_)
  | ((with_reducible refine s_tryKK ?_); intro W))
local macro_rules | `(tactic| walk_at "yT") => `(tactic| first
  | (with_reducible refine t_test ?_)
  | (with_reducible refine t_tru ?_)
  | (with_reducible refine t_not ?_)
  | (with_reducible refine t_and ?_)
  | (with_reducible refine t_or ?_))
local macro_rules | `(tactic| walk_at "yA") => `(tactic| first
  | (with_reducible refine vs_cons ?_)
  | (with_reducible refine vs_nil ?_)
  | (with_reducible refine a_cons ?_)
  | (with_reducible refine a_nil ?_)
  | (with_reducible refine o_none ?_)
  | (with_reducible refine o_some ?_))
local macro_rules | `(tactic| walk_at "yX") => `(tactic| first
  | ((with_reducible show ∃ _, CmpD _ _ _ ∧ _); first | refine ⟨_, cmpd_int, ?_⟩ | refine ⟨_, cmpd_str, ?_⟩ | refine ⟨_, cmpd_bl, ?_⟩)
  | ((with_reducible show ∃ _ _, _ ∧ ExcC _ _ ∧ _); refine ⟨_, _, rfl, by assumption, by assumption, ?_⟩)
  | (refine ⟨_, _, rfl, rfl, ?_⟩)
  | (refine ⟨_, _, rfl, ?_⟩)
  | (refine ⟨_, rfl, ?_⟩))
local macro_rules | `(tactic| walk_at "yN") => `(tactic| first
  | (with_reducible refine brT ?_)
  | (with_reducible refine brF ?_)
  | (with_reducible refine brT' ?_)
  | (with_reducible refine brF' ?_)
  | ((with_reducible show ((!_) = false → _) ∧ _); first | (refine brA' rfl ?_) | (refine brB' rfl ?_))
  | ((with_reducible show ((!_) = true → _) ∧ _); first | (refine brA rfl ?_) | (refine brB rfl ?_))
  | ((with_reducible show 0 < _ ∧ _); refine ⟨by first | decide | omega, ?_⟩)
  | ((with_reducible show _ ≤ sizeLine ∧ _); refine ⟨small_len (by with_unfolding_all exact Nat.le_of_ble_eq_true rfl), ?_⟩)
  | ((with_reducible show CPow _ _ ∧ _); refine ⟨⟨by decide, by decide, by decide⟩, ?_⟩)
  | ((with_reducible show CDivX _ _ ∧ _); refine ⟨⟨by decide, by decide⟩, ?_⟩)
  | ((with_reducible show 0 ≤ _ ∧ _); refine ⟨by first | decide | omega, ?_⟩)
  | ((with_reducible show _ = D.non ∧ _); refine ⟨rfl, ?_⟩))
local macro_rules | `(tactic| walk_at "yO") => `(tactic| first
  | ((with_reducible show vR _ _); first | (with_reducible refine vr_val ?_) | (with_reducible refine vr_own ?_))
  | ((with_reducible show asgR _ _); first | (with_reducible refine as_val ?_) | (with_reducible refine as_own ?_))
  | ((with_reducible show ∃ _, _); walk_at "yX")
  | ((with_reducible show _ ∧ _); walk_at "yN")
  | ((with_reducible show AddD _ _ _); first | (refine add_int ?_) | (refine add_lst (small_len' (by with_unfolding_all exact Nat.le_of_ble_eq_true rfl)) ?_))
  | ((with_reducible show MulD _ _ _); refine mul_int (by walk_at "mok") ?_)
  | (with_reducible refine ss_go (by with_unfolding_all repeat constructor) ?_)
  | (with_reducible refine g_nameS (by first | trivial | exact List.mem_cons_self | simp) (by with_unfolding_all repeat constructor) ?_)
  | (with_reducible refine g_tup (by with_unfolding_all rfl) ?_)
  | (with_reducible refine gs_cons ?_)
  | (with_reducible refine gs_nil ?_))
local macro_rules | `(tactic| walk_at "y") => `(tactic| first
  | ((with_reducible show tE _ _ _ _ _ _); walk_at "yE")
  | ((with_reducible show tS _ _ _ _ _ _); walk_at "yS")
  | ((with_reducible show tT _ _ _ _ _ _); walk_at "yT")
  | ((with_reducible show tVs _ _ _ _ _ _); walk_at "yA")
  | ((with_reducible show tA _ _ _ _ _ _); walk_at "yA")
  | ((with_reducible show tOo _ _ _ _ _ _); walk_at "yA")
  | walk_at "yO")
local macro_rules | `(tactic| walk_at "z") => `(tactic| (fail_if_success (with_reducible show tS _ _ _ (tSeq (tIfS _ _ _) _) _ _); walk_at "y"))
local macro_rules | `(tactic| walk_at "smb") => `(tactic| first
  | assumption
  | exact (show Sm 64 _ by unfold Sm; decide)
  | (apply Sm.mul <;> walk_at "smb")
  | (apply Sm.add2 <;> walk_at "smb")
  | (apply Sm.sub2 <;> walk_at "smb")
  | (apply Sm.neg <;> walk_at "smb"))
local macro_rules | `(tactic| walk_at "mok") => `(tactic| exact mulOk (by walk_at "smb") (by walk_at "smb") (by decide) (by decide) (by decide))

namespace K01
open PySem PySem.Spec PyProof.Rows L2 Y
section
variable {P : Program} {w : World} {K : PySem.W.Frag} {mg : Str → Option Value} {base : Heap} {f : Addr} {fd : FuncData}
theorem ok_law_row (B : Bl mg) (F : Fun K "_law_row" "_law_row" s__law_row f fd) : FnOk P w K mg base CX0 2 f fd ["_law_script", "_law_many"] (spD K fs_law_row) := by
  refine fn0 F sc__law_row (fun ds R Ex ⟨a, b, h, _⟩ => by rw [h]; rfl) fun cdv A outer s H E hr => ⟨_, (pss_cons (ps_if (PW.pt (pw_and (pt_cmpR op_gt (pe_callB (call_lenK (K := K)) (by rfl) B.bLen (by decide +kernel) (pa_cons (pv 0) pa_nil)) pe_int (nomark _)) (pw_and1 (pt_cmpR (op_eqK (K := K) hr) (pe_op op_mod (pe_ix (ix_K (K := K)) (pv 0) pe_int (fun _ _ => rfl)) pe_int) pe_int (nomark _))))) (pss_one (ps_ret (pe_op op_addU (pe_lc (own := [("_law_cell", 2)]) rfl sc__law_row.nd (pi_listK (K := K) (pv 0)) (blkOk_by (N := NM__law_row) (sc := defScope s__law_row) (by decide +kernel)) (fun _ _ _ _ _ => (pg_name (i := 2) sc__law_row.nd rfl (by first | exact .inl rfl | exact .inr rfl))) (fun _ _ _ _ _ => pts_nil) (fun _ _ _ _ _ => (pe_op op_mod (pe_op op_fdivX (pv 2) pe_int) (pe_op op_pow pe_int pe_int)))) (pe_op op_mulU (pe_lst (pa_cons pe_int pa_nil)) (pv 1))))) pss_nil)
      (pss_cons (ps_set (i := 3) sc__law_row.nd rfl (by first | exact .inl rfl | exact .inr rfl) (pe_lst pa_nil))
      (pss_cons (ps_set (i := 4) sc__law_row.nd rfl (by first | exact .inl rfl | exact .inr rfl) pe_int)
      (pss_cons (ps_for PassesOwn.never rfl (pi_range1 (by rfl) B.bRange (pa_cons (pe_callB (call_max2 rfl) (by rfl) B.bMax (by decide +kernel) (pa_cons (pv 1) (pa_cons (pe_op op_addU (pe_callB (call_lenK (K := K)) (by rfl) B.bLen (by decide +kernel) (pa_cons (pv 0) pa_nil)) (pv 1)) pa_nil))) pa_nil)) (pg_name (i := 5) sc__law_row.nd rfl (by first | exact .inl rfl | exact .inr rfl))
      (pss_cons (ps_set (i := 2) sc__law_row.nd rfl (by first | exact .inl rfl | exact .inr rfl) pe_int)
      (pss_cons (ps_if (pt_cmpR op_gt (pe_callB (call_lenK (K := K)) (by rfl) B.bLen (by decide +kernel) (pa_cons (pv 0) pa_nil)) pe_int (nomark _)) (pss_one (ps_set (i := 2) sc__law_row.nd rfl (by first | exact .inl rfl | exact .inr rfl) (pe_ix (ix_K (K := K)) (pv 0) (pe_op op_mod (pv 5) (pe_callB (call_lenK (K := K)) (by rfl) B.bLen (by decide +kernel) (pa_cons (pv 0) pa_nil))) (fun _ _ => rfl)))) pss_nil)
      (pss_cons (ps_set (i := 4) sc__law_row.nd rfl (by first | exact .inl rfl | exact .inr rfl) (pe_op op_mod (pe_op op_addU (pe_op op_addU (pe_op op_mulU (pv 4) pe_int) (pv 2)) (pv 5)) pe_int))
      (pss_one (ps_expr (pe_bm PySem.F.plainAttrs_list PySem.F.slot_list_append PySem.F.type_list_append mt_append (pv 3) (pa_cons (pe_op op_mod (pe_op op_addU (pe_op op_mulU (pv 4) (pv 4)) (pe_op op_mulU pe_int (pv 4))) pe_int) pa_nil))))))))
      (pss_one (ps_ret (pv 3))))))), fun ds R Ex ⟨ns, m, hd, hn, hm, h⟩ => ?_⟩
  subst hd
  (try dsimp only [cxOf, Cx.nox, Cx.wish]); change tS K _ _ _ [.val (.fz (ns.map D.int)), .val (.int m), .emp, .emp, .emp, .emp] _
  refine s_seqJ (fun ρ' => ρ' = [.val (.fz (ns.map D.int)), .val (.int m), .emp, .emp, .emp, .emp]) ?_ fun ρ' hρ => ?_
  · repeat walk_at "y"
    refine ⟨fun hl => ?_, fun _ => ?_⟩
    · obtain ⟨n0, nr, rfl⟩ : ∃ n0 nr, ns = n0 :: nr := by
        cases ns with
        | nil => simp at hl
        | cons x r => exact ⟨x, r, rfl⟩
      repeat walk_at "y"
      refine ⟨0, .int n0, rfl, atI_nat (j := 0) rfl, ?_⟩
      repeat walk_at "y"
      refine br2 (fun he => ?_) fun he => ?_
      · repeat walk_at "y"
        refine e_lcM (fun d : D => match d with | .int c => .int (c.fdiv 2 % 10 ^ 40) | d => d) (ic_list ?_)
        repeat walk_at "y"
        refine ⟨by rw [List.length_map]; exact small_len' (Nat.le_trans hn (by decide)), fun d hd => ?_, ?_⟩
        · obtain ⟨c, _, rfl⟩ := List.mem_map.mp hd
          repeat walk_at "y"
          rfl
        · repeat walk_at "y"
          refine mul_rep (by omega) ?_
          refine add_lst (small_len' (by rw [List.length_map, List.length_map, List.length_replicate]; omega)) ?_
          have e : List.map (fun d : D => match d with | .int c => D.int (c.fdiv 2 % 10 ^ 40) | d => d) (List.map D.int (n0 :: nr)) ++ List.replicate m (D.int 0) = ((n0 :: nr).map (fun c : Int => c.fdiv 2 % 10 ^ 40) ++ List.replicate m 0).map D.int := by
            rw [List.map_append, List.map_map, List.map_map, List.map_replicate]
            rfl
          have h' := h ((n0 :: nr).map (fun c : Int => c.fdiv 2 % 10 ^ 40) ++ List.replicate m 0) (by rw [List.length_append, List.length_map, List.length_replicate]) (fun x hx => by
            rcases List.mem_append.mp hx with hx | hx
            · obtain ⟨c, _, rfl⟩ := List.mem_map.mp hx
              exact ⟨Int.emod_nonneg _ (by decide), Int.emod_lt_of_pos _ (by decide)⟩
            · rw [(List.mem_replicate.mp hx).2]
              decide)
          rw [← e] at h'
          exact h'
      · repeat walk_at "y"
        rfl
    · repeat walk_at "y"
      rfl
  · subst hρ
    repeat walk_at "y"
    refine s_for (i_range1 ?_)
    repeat walk_at "y"
    have hmx : (max (m : Int) (((ns.map D.int).length : Nat) + (m : Int))).toNat = ns.length + m := by
      rw [List.length_map]
      omega
    rw [hmx]
    refine ⟨by rw [List.length_map]; omega, by rw [List.length_map]; omega, ?_⟩
    refine ⟨fun i ρ => ∃ (rows : List Int) (more : Int) (s2 s5 : Slot), ρ = [.val (.fz (ns.map D.int)), .val (.int m), s2, .own (rows.map D.int), .val (.int more), s5] ∧ rows.length = i ∧ (0 ≤ more ∧ more < 2147483647) ∧ ∀ x ∈ rows, 0 ≤ x ∧ x < 10 ^ 40,
      ⟨[], 7, .emp, .emp, rfl, rfl, ⟨by decide, by decide⟩, fun x hx => by cases hx⟩, ?_, ?_⟩
    · rintro i d ρ' hd ⟨rows, more, s2, s5, rfl, hl, ⟨q0, q1⟩, hx⟩
      obtain ⟨hi, rfl⟩ := rangeD_get hd
      have sq : Sm 64 more := by unfold Sm; omega
      repeat ((fail_if_success (with_reducible show tS _ _ _ (tSeq (tIfS _ _ _) _) _ _)); walk_at "y")
      refine s_seqJ (fun ρ' => ∃ c : Int, ρ' = [.val (.fz (ns.map D.int)), .val (.int m), .val (.int c), .own (rows.map D.int), .val (.int more), .val (.int (0 + (i : Int)))]) ?_ ?_
      · repeat walk_at "y"
        refine ⟨fun hp => ?_, fun _ => ?_⟩
        · have hlen : 0 < ns.length := by
            have z := of_decide_eq_true hp
            rw [List.length_map] at z
            omega
          repeat walk_at "y"
          have z0 := Int.emod_nonneg (0 + (i : Int)) (show (((ns.map D.int).length : Nat) : Int) ≠ 0 by rw [List.length_map]; omega)
          have z1 := Int.emod_lt_of_pos (0 + (i : Int)) (show (0 : Int) < (((ns.map D.int).length : Nat) : Int) by rw [List.length_map]; omega)
          obtain ⟨d, hm1, hx1⟩ := ixd_any z0 z1
          obtain ⟨c, _, rfl⟩ := List.mem_map.mp hm1
          refine ⟨_, _, rfl, hx1, ?_⟩
          repeat walk_at "y"
          exact ⟨c, rfl⟩
        · repeat walk_at "y"
          exact ⟨0, rfl⟩
      · rintro ρ2 ⟨c, rfl⟩
        repeat walk_at "y"
        obtain ⟨q, hq⟩ : ∃ q : Int, (more * 48271 + c + (0 + (i : Int))) % 2147483647 = q := ⟨_, rfl⟩
        have z0 := Int.emod_nonneg (more * 48271 + c + (0 + (i : Int))) (show (2147483647 : Int) ≠ 0 by decide)
        have z1 := Int.emod_lt_of_pos (more * 48271 + c + (0 + (i : Int))) (show (0 : Int) < 2147483647 by decide)
        rw [hq] at z0 z1 ⊢
        have sq' : Sm 64 q := by unfold Sm; omega
        repeat walk_at "y"
        refine ⟨small_lt (by rw [List.length_map]; omega), ?_⟩
        repeat walk_at "y"
        have y0 := Int.emod_nonneg (q * q + 16807 * q) (show (2147483629 : Int) ≠ 0 by decide)
        have y1 := Int.emod_lt_of_pos (q * q + 16807 * q) (show (0 : Int) < 2147483629 by decide)
        refine ⟨rows ++ [(q * q + 16807 * q) % 2147483629], q, .val (.int c), .val (.int (0 + (i : Int))), by rw [List.map_append]; rfl, by rw [List.length_append, hl]; rfl, ⟨z0, z1⟩, fun x hx' => ?_⟩
        rcases List.mem_append.mp hx' with hx' | hx'
        · exact hx x hx'
        · rw [List.mem_singleton.mp hx']
          exact ⟨y0, by omega⟩
    · rintro ρ' ⟨rows, more, s2, s5, rfl, hl, hq, hx⟩
      repeat walk_at "y"
      rw [rangeD_len] at hl
      exact h rows hl hx
end
end K01
end

section
set_option maxHeartbeats 4000000
open PySem PySem.Spec PyProof.Rows L2 Y
local macro_rules | `(tactic| walk_at "yE") => `(tactic| first
  | ((with_reducible show tE _ _ _ (tOp _ _ _) _ _); first
    | (with_reducible refine e_ix ?_)
    | (with_reducible refine e_add ?_)
    | (with_reducible refine e_catA ?_)
    | (with_reducible refine e_sub ?_)
    | (with_reducible refine e_mul ?_)
    | (with_reducible refine e_mod ?_)
    | (with_reducible refine e_fdiv ?_)
    | (with_reducible refine e_pow ?_)
    | (with_reducible refine e_shr ?_)
    | (with_reducible refine e_band ?_)
    | (with_reducible refine e_lt ?_)
    | (with_reducible refine e_le ?_)
    | (with_reducible refine e_gt ?_)
    | (with_reducible refine e_ge ?_)
    | (with_reducible refine e_eq ?_)
    | (with_reducible refine e_ne ?_)
    | (with_reducible refine e_isN ?_)
    | (with_reducible refine e_notN ?_)
    | (with_reducible refine e_isB ?_)
    | (with_reducible refine e_isntB ?_))
  | ((with_reducible show tE _ _ _ (tCB _ _) _ _); first
    | (with_reducible refine e_len ?_)
    | (with_reducible refine e_isX (by with_unfolding_all exact fun _ h => h) ?_)
    | (with_reducible refine e_isInt ?_)
    | (with_reducible refine e_isBool ?_)
    | (with_reducible refine e_isTup ?_)
    | (with_reducible refine e_isStr ?_)
    | (with_reducible refine e_isList ?_)
    | (with_reducible refine e_gcd ?_)
    | (with_reducible refine e_abs ?_)
    | (with_reducible refine e_max2 ?_)
    | (with_reducible refine e_intB ?_)
    | (with_reducible refine e_strI ?_)
    | (with_reducible refine e_list ?_)
    | (with_reducible refine e_repr ?_)
    | (with_reducible refine e_tupL ?_)
    | (with_reducible refine e_all ?_))
  | (with_reducible refine e_val (by with_unfolding_all rfl) ?_)
  | (with_reducible refine e_own (by with_unfolding_all rfl) ?_)
  | (with_reducible refine e_int ?_)
  | (with_reducible refine e_bl ?_)
  | (with_reducible refine e_non ?_)
  | (with_reducible refine e_str ?_)
  | (with_reducible refine e_neg ?_)
  | (with_reducible refine e_and ?_)
  | (with_reducible refine e_or ?_)
  | (with_reducible refine e_not ?_)
  | (with_reducible refine e_if ?_)
  | (with_reducible refine e_chainI ?_)
  | (with_reducible refine e_tup ?_)
  | (with_reducible refine e_lst ?_)
  | (with_reducible refine e_dk0 ?_)
  | (with_reducible refine e_sl ?_)
  | (with_reducible refine e_revL ?_))
local macro_rules | `(tactic| walk_at "yS") => `(tactic| first
  | (with_reducible refine s_seq ?_)
  | (with_reducible refine s_if ?_)
  | (with_reducible refine s_retOwn (by with_unfolding_all rfl) ?_)
  | (with_reducible refine s_ret ?_)
  | (with_reducible refine s_retN ?_)
  | (with_reducible refine s_next ?_)
  | (with_reducible refine s_set ?_ (by with_unfolding_all exact Nat.le_of_ble_eq_true rfl))
  | (with_reducible refine s_asgG ?_)
  | (with_reducible refine s_parS ?_ (by with_unfolding_all exact Nat.le_of_ble_eq_true rfl) (by with_unfolding_all exact Nat.le_of_ble_eq_true rfl))
  | (with_reducible refine s_rz ?_)
  | (with_reducible refine s_appendS (by with_unfolding_all rfl) ?_)
  | (with_reducible refine s_expr ?_)
  | ((with_reducible refine s_tryKK ?_); intro W))
local macro_rules | `(tactic| walk_at "yT") => `(tactic| first
  | (with_reducible refine t_test ?_)
  | (with_reducible refine t_tru ?_)
  | (with_reducible refine t_not ?_)
  | (with_reducible refine t_and ?_)
  | (with_reducible refine t_or ?_))
local macro_rules | `(tactic| walk_at "yA") => `(tactic| first
  | (with_reducible refine vs_cons ?_)
  | (with_reducible refine vs_nil ?_)
  | (with_reducible refine a_cons ?_)
  | (with_reducible refine a_nil ?_)
  | (with_reducible refine o_none ?_)
  | (with_reducible refine o_some ?_))
local macro_rules | `(tactic| walk_at "yX") => `(tactic| first
  | ((with_reducible show ∃ _, CmpD _ _ _ ∧ _); first | refine ⟨_, cmpd_int, ?_⟩ | refine ⟨_, cmpd_str, ?_⟩ | refine ⟨_, cmpd_bl, ?_⟩)
  | ((with_reducible show ∃ _ _, _ ∧ ExcC _ _ ∧ _); refine ⟨_, _, rfl, by assumption, by assumption, ?_⟩)
  | (refine ⟨_, _, rfl, rfl, ?_⟩)
  | (refine ⟨_, _, rfl, ?_⟩)
  | (refine ⟨_, rfl, ?_⟩))
local macro_rules | `(tactic| walk_at "yN") => `(tactic| first
  | (with_reducible refine brT ?_)
  | (with_reducible refine brF ?_)
  | (with_reducible refine brT' ?_)
  | (with_reducible refine brF' ?_)
  | ((with_reducible show ((!_) = false → _) ∧ _); first | (refine brA' rfl ?_) | (refine brB' rfl ?_))
  | ((with_reducible show ((!_) = true → _) ∧ _); first | (refine brA rfl ?_) | (refine brB rfl ?_))
  | ((with_reducible show 0 < _ ∧ _); refine ⟨by first | decide | omega, ?_⟩)
  | ((with_reducible show _ ≤ sizeLine ∧ _); refine ⟨small_len (by with_unfolding_all exact Nat.le_of_ble_eq_true rfl), ?_⟩)
  | ((with_reducible show CPow _ _ ∧ _); refine ⟨⟨by decide, by decide, by decide⟩, ?_⟩)
  | ((with_reducible show CDivX _ _ ∧ _); refine ⟨⟨by decide, by decide⟩, ?_⟩)
  | ((with_reducible show 0 ≤ _ ∧ _); refine ⟨by first | decide | omega, ?_⟩)
  | ((with_reducible show _ = D.non ∧ _); refine ⟨rfl, ?_⟩))
local macro_rules | `(tactic| walk_at "yO") => `(tactic| first
  | ((with_reducible show vR _ _); first | (with_reducible refine vr_val ?_) | (with_reducible refine vr_own ?_))
  | ((with_reducible show asgR _ _); first | (with_reducible refine as_val ?_) | (with_reducible refine as_own ?_))
  | ((with_reducible show ∃ _, _); walk_at "yX")
  | ((with_reducible show _ ∧ _); walk_at "yN")
  | ((with_reducible show AddD _ _ _); first | (refine add_int ?_) | (refine add_lst (small_len' (by with_unfolding_all exact Nat.le_of_ble_eq_true rfl)) ?_))
  | ((with_reducible show MulD _ _ _); refine mul_int (by walk_at "mok") ?_)
  | (with_reducible refine ss_go (by with_unfolding_all repeat constructor) ?_)
  | (with_reducible refine g_nameS (by first | trivial | exact List.mem_cons_self | simp) (by with_unfolding_all repeat constructor) ?_)
  | (with_reducible refine g_tup (by with_unfolding_all rfl) ?_)
  | (with_reducible refine gs_cons ?_)
  | (with_reducible refine gs_nil ?_))
local macro_rules | `(tactic| walk_at "y") => `(tactic| first
  | ((with_reducible show tE _ _ _ _ _ _); walk_at "yE")
  | ((with_reducible show tS _ _ _ _ _ _); walk_at "yS")
  | ((with_reducible show tT _ _ _ _ _ _); walk_at "yT")
  | ((with_reducible show tVs _ _ _ _ _ _); walk_at "yA")
  | ((with_reducible show tA _ _ _ _ _ _); walk_at "yA")
  | ((with_reducible show tOo _ _ _ _ _ _); walk_at "yA")
  | walk_at "yO")
local macro_rules | `(tactic| walk_at "z") => `(tactic| (fail_if_success (with_reducible show tS _ _ _ (tSeq (tIfS _ _ _) _) _ _); walk_at "y"))
local macro_rules | `(tactic| walk_at "smb") => `(tactic| first
  | assumption
  | exact (show Sm 64 _ by unfold Sm; decide)
  | (apply Sm.mul <;> walk_at "smb")
  | (apply Sm.add2 <;> walk_at "smb")
  | (apply Sm.sub2 <;> walk_at "smb")
  | (apply Sm.neg <;> walk_at "smb"))
local macro_rules | `(tactic| walk_at "mok") => `(tactic| exact mulOk (by walk_at "smb") (by walk_at "smb") (by decide) (by decide) (by decide))

namespace K01
open PySem PySem.Spec PyProof.Rows L2 Y
section
variable {P : Program} {w : World} {K : PySem.W.Frag} {mg : Str → Option Value} {base : Heap} {f : Addr} {fd : FuncData}
theorem ok_law_of_class {C C_NoPart C_NoSpan C_NoBox C_NoText C_NoItem C_NoName C_NoWish C_NoChange C_NoRow C_TooMany : Addr} {x : Str} (B : Bl mg) (c_NoPart : Cl mg "NoPart" C_NoPart) (c_NoSpan : Cl mg "NoSpan" C_NoSpan) (c_NoBox : Cl mg "NoBox" C_NoBox) (c_NoText : Cl mg "NoText" C_NoText) (c_NoItem : Cl mg "NoItem" C_NoItem) (c_NoName : Cl mg "NoName" C_NoName) (c_NoWish : Cl mg "NoWish" C_NoWish) (c_NoChange : Cl mg "NoChange" C_NoChange) (c_NoRow : Cl mg "NoRow" C_NoRow) (c_TooMany : Cl mg "TooMany" C_TooMany)
    (kx : KitX K C x C_NoPart C_NoSpan C_NoBox C_NoText C_NoItem C_NoName C_NoWish C_NoChange C_NoRow C_TooMany) (F : Fun K "_law_of_class" "_law_of_class" s__law_of_class f fd) : FnOk P w K mg base CX0 2 f fd ["_law_e", "_law_name"] (spD K (fs_law_of_class C x)) := by
  refine fn0 F sc__law_of_class (fun ds R Ex ⟨h, _⟩ => by rw [h]; rfl) fun cdv A outer s H E hr => ⟨_, (pss_cons (ps_set (i := 2) sc__law_of_class.nd rfl (by first | exact .inl rfl | exact .inr rfl) (pe_lst (pa_cons (pe_callB (call_isXK (K := K)) (by rfl) B.bIsi (by decide +kernel) (pa_cons (pv 0) (pa_cons (pe_glob (v := .ref C_NoPart) rfl c_NoPart.g rfl) pa_nil))) (pa_cons (pe_callB (call_isXK (K := K)) (by rfl) B.bIsi (by decide +kernel) (pa_cons (pv 0) (pa_cons (pe_glob (v := .ref C_NoSpan) rfl c_NoSpan.g rfl) pa_nil))) (pa_cons (pe_callB (call_isXK (K := K)) (by rfl) B.bIsi (by decide +kernel) (pa_cons (pv 0) (pa_cons (pe_glob (v := .ref C_NoBox) rfl c_NoBox.g rfl) pa_nil))) (pa_cons (pe_callB (call_isXK (K := K)) (by rfl) B.bIsi (by decide +kernel) (pa_cons (pv 0) (pa_cons (pe_glob (v := .ref C_NoText) rfl c_NoText.g rfl) pa_nil))) pa_nil))))))
      (pss_cons (ps_set (i := 2) sc__law_of_class.nd rfl (by first | exact .inl rfl | exact .inr rfl) (pe_op op_addU (pv 2) (pe_lst (pa_cons (pe_callB (call_isXK (K := K)) (by rfl) B.bIsi (by decide +kernel) (pa_cons (pv 0) (pa_cons (pe_glob (v := .ref C_NoItem) rfl c_NoItem.g rfl) pa_nil))) (pa_cons (pe_callB (call_isXK (K := K)) (by rfl) B.bIsi (by decide +kernel) (pa_cons (pv 0) (pa_cons (pe_glob (v := .ref C_NoName) rfl c_NoName.g rfl) pa_nil))) (pa_cons (pe_callB (call_isXK (K := K)) (by rfl) B.bIsi (by decide +kernel) (pa_cons (pv 0) (pa_cons (pe_glob (v := .ref C_NoWish) rfl c_NoWish.g rfl) pa_nil))) (pa_cons (pe_callB (call_isXK (K := K)) (by rfl) B.bIsi (by decide +kernel) (pa_cons (pv 0) (pa_cons (pe_glob (v := .ref C_NoChange) rfl c_NoChange.g rfl) pa_nil))) pa_nil)))))))
      (pss_cons (ps_set (i := 2) sc__law_of_class.nd rfl (by first | exact .inl rfl | exact .inr rfl) (pe_op op_addU (pv 2) (pe_lst (pa_cons (pe_callB (call_isXK (K := K)) (by rfl) B.bIsi (by decide +kernel) (pa_cons (pv 0) (pa_cons (pe_glob (v := .ref C_NoRow) rfl c_NoRow.g rfl) pa_nil))) (pa_cons (pe_callB (call_isXK (K := K)) (by rfl) B.bIsi (by decide +kernel) (pa_cons (pv 0) (pa_cons (pe_glob (v := .ref C_TooMany) rfl c_TooMany.g rfl) pa_nil))) pa_nil)))))
      (pss_cons (ps_set (i := 3) sc__law_of_class.nd rfl (by first | exact .inl rfl | exact .inr rfl) (pe_lst (pa_cons pe_str (pa_cons pe_str (pa_cons pe_str (pa_cons pe_str (pa_cons pe_str (pa_cons pe_str (pa_cons pe_str (pa_cons pe_str (pa_cons pe_str (pa_cons pe_str pa_nil))))))))))))
      (pss_one (ps_ret (pe_and (pe_callB (call_isXK (K := K)) (by rfl) B.bIsi (by decide +kernel) (pa_cons (pv 0) (pa_cons (pe_bltn (v := .ty "ValueError") rfl B.bVE (by decide +kernel) rfl) pa_nil))) (pe_one (pe_cmpR (op_eqK (K := K) hr) (pe_lc (own := [("_law_one", 4)]) rfl sc__law_of_class.nd (pi_listK (K := K) (pv 3)) (blkOk_by (N := NM__law_of_class) (sc := defScope s__law_of_class) (by decide +kernel)) (fun _ _ _ _ _ => (pg_name (i := 4) sc__law_of_class.nd rfl (by first | exact .inl rfl | exact .inr rfl))) (fun _ _ _ _ _ => pts_nil) (fun _ _ _ _ _ => (pe_cmpR (op_eqK (K := K) hr) (pv 4) (pv 1) (nomark _)))) (pv 2) (nomark _)))))))))), fun ds R Ex ⟨hd, h⟩ => ?_⟩
  subst hd
  obtain ⟨e, ve, k0, k1, k2, k3, k4, k5, k6, k7, k8, k9⟩ := kx
  (try dsimp only [cxOf, Cx.nox, Cx.wish]); change tS K _ _ _ [.val (.exc C), .val (.str x), .emp, .emp, .emp] _
  repeat walk_at "y"
  refine e_lcM (fun d : D => match d with | .str y => .bl (decide (y = x)) | d => d) (ic_list ?_)
  repeat walk_at "y"
  refine ⟨fun d hd => ?_, ?_⟩
  · have q : ∃ y : Str, d = .str y := by
      simp only [List.mem_cons, List.not_mem_nil, or_false] at hd
      rcases hd with e | e | e | e | e | e | e | e | e | e <;> exact ⟨_, e⟩
    obtain ⟨y, rfl⟩ := q
    repeat walk_at "y"
    rfl
  · repeat walk_at "y"
    refine ⟨true, cmpd_same (by rfl) (Nat.le_of_ble_eq_true rfl), ?_⟩
    exact h
theorem ok_law_refused {C C_WideError : Addr} (B : Bl mg) (c_WideError : Cl mg "WideError" C_WideError) (hx : PySem.W.exmOne K (.ref C) (.ref C_WideError) = some true)
    (d_part_of : Dfn P w K mg base (L2.CX P w) "part_of" ["top", "bottom"] 3 (fs_part_of C)) (d_quotient : Dfn P w K mg base (L2.CX P w) "quotient" ["one", "other"] 4 (fs_quotient C)) (d__law_of_class : Dfn P w K mg base CX0 "_law_of_class" ["_law_e", "_law_name"] 2 (fs_law_of_class C "NoPart"))
    (F : Fun K "_law_refused" "_law_refused" s__law_refused f fd) : FnOk P w K mg base CX0 5 f fd ["_law_way", "_law_one"] (spD K fs_law_refused) := by
  refine fn0 F sc__law_refused (fun ds R Ex ⟨n, a, b, h, _⟩ => by rw [h]; rfl) fun cdv A outer s H E hr => ⟨_, (pss_cons (ps_set (i := 2) sc__law_refused.nd rfl (by first | exact .inl rfl | exact .inr rfl) pe_non)
      (pss_cons (ps_tryK (K := K) (i := 3) (j := 2) rfl rfl sc__law_refused.nd rfl rfl (by decide) rfl rfl ⟨rfl, by decide, .inl c_WideError.g⟩ rfl (by decide) (by decide) (by rfl) fun W pn xe tk _ =>
      (pss_one (ps_if (pt_cmpR (op_eqK (K := K) hr) (pv 0) pe_int (nomark _)) (pss_one (ps_expr (pe_dSK d_part_of (hr.mono (by decide)) tk (pa_cons (pe_ix (ix_K (K := K)) (pv 1) pe_int (fun _ _ => rfl)) (pa_cons pe_int pa_nil))))) (pss_one (ps_expr (pe_dSK d_quotient hr tk (pa_cons (pv 1) (pa_cons (pe_tup (pa_cons pe_int (pa_cons pe_int pa_nil))) pa_nil))))))))
      (pss_one (ps_ret (pe_and (pe_cmpR op_notN (pv 2) pe_non (nomark _)) (pe_one (pe_dK d__law_of_class (hr.mono (by decide)) (pa_cons (pv 2) (pa_cons pe_str pa_nil))))))))), fun ds R Ex ⟨n, a, b, hd, ⟨sa, sb⟩, h⟩ => ?_⟩
  subst hd
  (try dsimp only [cxOf, Cx.nox, Cx.wish]); change tS K _ _ _ [.val (.int n), .val (pt a b), .emp, .emp] _
  repeat walk_at "y"
  refine br2 (fun hn => ?_) fun hn => ?_
  · repeat walk_at "y"
    refine e_callS ?_
    repeat walk_at "y"
    refine ⟨Sm.le (n := 64) (by unfold Sm; decide) (by decide), fun _ => ⟨C, rfl, hx, ?_⟩, fun z => absurd rfl z⟩
    repeat walk_at "y"
    refine e_call (fun _ => .nil) ?_
    repeat walk_at "y"
    exact ⟨rfl, h⟩
  · repeat walk_at "y"
    refine e_callS ?_
    repeat walk_at "y"
    refine ⟨a, b, 0, 1, rfl, ⟨sa, sb, Sm.le (n := 64) (by unfold Sm; decide) (by decide), Sm.le (n := 64) (by unfold Sm; decide) (by decide)⟩, fun _ => ⟨C, rfl, hx, ?_⟩, fun z => absurd (Int.mul_zero b) z⟩
    repeat walk_at "y"
    refine e_call (fun _ => .nil) ?_
    repeat walk_at "y"
    exact ⟨rfl, h⟩
theorem ok_law_is (B : Bl mg) (d__law_part : Dfn P w K mg base CX0 "_law_part" ["_law_top", "_law_bottom"] 3 fs_law_part) (F : Fun K "_law_is" "_law_is" s__law_is f fd) : FnOk P w K mg base CX0 4 f fd ["_law_found", "_law_top", "_law_bottom"] (spD K fs_law_is) := by
  refine fn0 F sc__law_is (fun ds R Ex ⟨a, b, h, _⟩ => by rw [h]; rfl) fun cdv A outer s H E hr => ⟨_, (pss_cons (ps_if (PW.pt (pw_or (pt_not (pt_truK (K := K) (pe_callB (call_isiK (K := K)) (by rfl) B.bIsi (by decide +kernel) (pa_cons (pv 0) (pa_cons (pe_bltn (v := .ty "tuple") rfl B.bTuple (by decide +kernel) rfl) pa_nil))))) (pw_or (pt_cmpR (op_neK (K := K) hr) (pe_callB (call_lenK (K := K)) (by rfl) B.bLen (by decide +kernel) (pa_cons (pv 0) pa_nil)) pe_int (nomark _)) (pw_or1 (pt_cmpR (op_neK (K := K) hr) (pe_lc (own := [("_law_one", 3)]) rfl sc__law_is.nd (pi_tupK (K := K) (pv 0)) (blkOk_by (N := NM__law_is) (sc := defScope s__law_is) (by decide +kernel)) (fun _ _ _ _ _ => (pg_name (i := 3) sc__law_is.nd rfl (by first | exact .inl rfl | exact .inr rfl))) (fun _ _ _ _ _ => (pts_one (pt_truK (K := K) (pe_callB (call_isiK (K := K)) (by rfl) B.bIsi (by decide +kernel) (pa_cons (pv 3) (pa_cons (pe_bltn (v := .ty "bool") rfl B.bBool (by decide +kernel) rfl) pa_nil)))))) (fun _ _ _ _ _ => (pv 3))) (pe_lst pa_nil) (nomark _)))))) (pss_one (ps_ret pe_bl)) pss_nil)
      (pss_cons (ps_if (pt_cmpR op_lt (pv 2) pe_int (nomark _)) (pss_one (ps_par (i := 1) (j := 2) rfl sc__law_is.nd rfl rfl (by decide) rfl rfl (pa_cons (pe_op op_sub pe_int (pv 1)) (pa_cons (pe_op op_sub pe_int (pv 2)) pa_nil)) (by rfl))) pss_nil)
      (pss_one (ps_ret (pe_cmpR (op_eqK (K := K) hr) (pv 0) (pe_dK d__law_part hr (pa_cons (pv 1) (pa_cons (pv 2) pa_nil))) (nomark _)))))), fun ds R Ex ⟨a, b, hd, sb, hb, h⟩ => ?_⟩
  subst hd
  obtain ⟨x, y, hxy⟩ : ∃ x y, npt a b = pt x y := by
    unfold npt
    split <;> exact ⟨_, _, rfl⟩
  rw [hxy]
  (try dsimp only [cxOf, Cx.nox, Cx.wish]); change tS K _ _ _ [.val (pt x y), .val (.int a), .val (.int b), .emp] _
  repeat walk_at "y"
  refine ⟨rfl, _, rfl, ?_⟩
  repeat walk_at "y"
  refine e_lcF id isBoolD (tIt.ic (i_tup ?_))
  repeat walk_at "y"
  refine ⟨fun d hd => ?_, ?_⟩
  · obtain ⟨z, rfl⟩ : ∃ z, d = .int z := by
      simp only [List.mem_cons, List.not_mem_nil, or_false] at hd
      rcases hd with e | e <;> exact ⟨_, e⟩
    repeat walk_at "y"
    refine ⟨rfl, _, rfl, rfl, fun hb => ?_⟩
    repeat walk_at "y"
    rfl
  · repeat walk_at "y"
    refine ⟨true, cmpd_same rfl (Nat.le_of_ble_eq_true rfl), ?_⟩
    repeat ((fail_if_success (with_reducible show tS _ _ _ (tSeq (tIfS _ _ _) _) _ _)); walk_at "y")
    refine s_seqJ (fun ρ' => ∃ a' b' : Int, 0 < b' ∧ Sm 900 b' ∧ prt a' b' = pt x y ∧ ρ' = [.val (pt x y), .val (.int a'), .val (.int b'), .emp]) ?_ ?_
    · repeat walk_at "y"
      refine br2 (fun hn => ?_) fun hn => ?_
      · repeat walk_at "y"
        unfold npt at hxy
        rw [if_pos hn] at hxy
        exact ⟨0 - a, 0 - b, by omega, by unfold Sm at *; omega, by rw [Int.zero_sub, Int.zero_sub]; exact hxy, rfl⟩
      · repeat walk_at "y"
        unfold npt at hxy
        rw [if_neg hn] at hxy
        exact ⟨a, b, by omega, sb, hxy, rfl⟩
    · rintro ρ' ⟨a', b', hb', sb', e, rfl⟩
      repeat walk_at "y"
      refine e_call (fun _ => .nil) ?_
      repeat walk_at "y"
      refine ⟨sb', ?_⟩
      rw [e]
      refine ⟨true, cmpd_same rfl (Nat.le_of_ble_eq_true rfl), ?_⟩
      exact h
end
end K01
end

section
set_option maxHeartbeats 4000000
open PySem PySem.Spec PyProof.Rows L2 Y
local macro_rules | `(tactic| walk_at "yE") => `(tactic| first
  | ((with_reducible show tE _ _ _ (tOp _ _ _) _ _); first
    | (with_reducible refine e_ix ?_)
    | (with_reducible refine e_add ?_)
    | (with_reducible refine e_catA ?_)
    | (with_reducible refine e_sub ?_)
    | (with_reducible refine e_mul ?_)
    | (with_reducible refine e_mod ?_)
    | (with_reducible refine e_fdiv ?_)
    | (with_reducible refine e_pow ?_)
    | (with_reducible refine e_shr ?_)
    | (with_reducible refine e_band ?_)
    | (with_reducible refine e_lt ?_)
    | (with_reducible refine e_le ?_)
    | (with_reducible refine e_gt ?_)
    | (with_reducible refine e_ge ?_)
    | (with_reducible refine e_eq ?_)
    | (with_reducible refine e_ne ?_)
    | (with_reducible refine e_isN ?_)
    | (with_reducible refine e_notN ?_)
    | (with_reducible refine e_isB ?_)
    | (with_reducible refine e_isntB ?_))
  | ((with_reducible show tE _ _ _ (tCB _ _) _ _); first
    | (with_reducible refine e_len ?_)
    | (with_reducible refine e_isX (by with_unfolding_all exact fun _ h => h) ?_)
    | (with_reducible refine e_isInt ?_)
    | (with_reducible refine e_isBool ?_)
    | (with_reducible refine e_isTup ?_)
    | (with_reducible refine e_isStr ?_)
    | (with_reducible refine e_isList ?_)
    | (with_reducible refine e_gcd ?_)
    | (with_reducible refine e_abs ?_)
    | (with_reducible refine e_max2 ?_)
    | (with_reducible refine e_intB ?_)
    | (with_reducible refine e_strI ?_)
    | (with_reducible refine e_list ?_)
    | (with_reducible refine e_repr ?_)
    | (with_reducible refine e_tupL ?_)
    | (with_reducible refine e_all ?_))
  | (with_reducible refine e_val (by with_unfolding_all rfl) ?_)
  | (with_reducible refine e_own (by with_unfolding_all rfl) ?_)
  | (with_reducible refine e_int ?_)
  | (with_reducible refine e_bl ?_)
  | (with_reducible refine e_non ?_)
  | (with_reducible refine e_str ?_)
  | (with_reducible refine e_neg ?_)
  | (with_reducible refine e_and ?_)
  | (with_reducible refine e_or ?_)
  | (with_reducible refine e_not ?_)
  | (with_reducible refine e_if ?_)
  | (with_reducible refine e_chainI ?_)
  | (with_reducible refine e_tup ?_)
  | (with_reducible refine e_lst ?_)
  | (with_reducible refine e_dk0 ?_)
  | (with_reducible refine e_sl ?_)
  | (with_reducible refine e_revL ?_))
local macro_rules | `(tactic| walk_at "yS") => `(tactic| first
  | (with_reducible refine s_seq ?_)
  | (with_reducible refine s_if ?_)
  | (with_reducible refine s_retOwn (by with_unfolding_all rfl) ?_)
  | (with_reducible refine s_ret ?_)
  | (with_reducible refine s_retN ?_)
  | (with_reducible refine s_next ?_)
  | (with_reducible refine s_set ?_ (by with_unfolding_all exact Nat.le_of_ble_eq_true rfl))
  | (with_reducible refine s_asgG ?_)
  | (with_reducible refine s_parS ?_ (by with_unfolding_all exact Nat.le_of_ble_eq_true rfl) (by with_unfolding_all exact Nat.le_of_ble_eq_true rfl))
  | (with_reducible refine s_rz ?_)
  | (with_reducible refine s_appendS (by with_unfolding_all rfl) ?_)
  | (with_reducible refine s_expr ?_)
  | ((with_reducible refine s_tryKK ?_); intro W))
local macro_rules | `(tactic| walk_at "yT") => `(tactic| first
  | (with_reducible refine t_test ?_)
  | (with_reducible refine t_tru ?_)
  | (with_reducible refine t_not ?_)
  | (with_reducible refine t_and ?_)
  | (with_reducible refine t_or ?_))
local macro_rules | `(tactic| walk_at "yA") => `(tactic| first
  | (with_reducible refine vs_cons ?_)
  | (with_reducible refine vs_nil ?_)
  | (with_reducible refine a_cons ?_)
  | (with_reducible refine a_nil ?_)
  | (with_reducible refine o_none ?_)
  | (with_reducible refine o_some ?_))
local macro_rules | `(tactic| walk_at "yX") => `(tactic| first
  | ((with_reducible show ∃ _, CmpD _ _ _ ∧ _); first | refine ⟨_, cmpd_int, ?_⟩ | refine ⟨_, cmpd_str, ?_⟩ | refine ⟨_, cmpd_bl, ?_⟩)
  | ((with_reducible show ∃ _ _, _ ∧ ExcC _ _ ∧ _); refine ⟨_, _, rfl, by assumption, by assumption, ?_⟩)
  | (refine ⟨_, _, rfl, rfl, ?_⟩)
  | (refine ⟨_, _, rfl, ?_⟩)
  | (refine ⟨_, rfl, ?_⟩))
local macro_rules | `(tactic| walk_at "yN") => `(tactic| first
  | (with_reducible refine brT ?_)
  | (with_reducible refine brF ?_)
  | (with_reducible refine brT' ?_)
  | (with_reducible refine brF' ?_)
  | ((with_reducible show ((!_) = false → _) ∧ _); first | (refine brA' rfl ?_) | (refine brB' rfl ?_))
  | ((with_reducible show ((!_) = true → _) ∧ _); first | (refine brA rfl ?_) | (refine brB rfl ?_))
  | ((with_reducible show 0 < _ ∧ _); refine ⟨by first | decide | omega, ?_⟩)
  | ((with_reducible show _ ≤ sizeLine ∧ _); refine ⟨small_len (by with_unfolding_all exact Nat.le_of_ble_eq_true rfl), ?_⟩)
  | ((with_reducible show CPow _ _ ∧ _); refine ⟨⟨by decide, by decide, by decide⟩, ?_⟩)
  | ((with_reducible show CDivX _ _ ∧ _); refine ⟨⟨by decide, by decide⟩, ?_⟩)
  | ((with_reducible show 0 ≤ _ ∧ _); refine ⟨by first | decide | omega, ?_⟩)
  | ((with_reducible show _ = D.non ∧ _); refine ⟨rfl, ?_⟩))
local macro_rules | `(tactic| walk_at "yO") => `(tactic| first
  | ((with_reducible show vR _ _); first | (with_reducible refine vr_val ?_) | (with_reducible refine vr_own ?_))
  | ((with_reducible show asgR _ _); first | (with_reducible refine as_val ?_) | (with_reducible refine as_own ?_))
  | ((with_reducible show ∃ _, _); walk_at "yX")
  | ((with_reducible show _ ∧ _); walk_at "yN")
  | ((with_reducible show AddD _ _ _); first | (refine add_int ?_) | (refine add_lst (small_len' (by with_unfolding_all exact Nat.le_of_ble_eq_true rfl)) ?_))
  | ((with_reducible show MulD _ _ _); refine mul_int (by walk_at "mok") ?_)
  | (with_reducible refine ss_go (by with_unfolding_all repeat constructor) ?_)
  | (with_reducible refine g_nameS (by first | trivial | exact List.mem_cons_self | simp) (by with_unfolding_all repeat constructor) ?_)
  | (with_reducible refine g_tup (by with_unfolding_all rfl) ?_)
  | (with_reducible refine gs_cons ?_)
  | (with_reducible refine gs_nil ?_))
local macro_rules | `(tactic| walk_at "y") => `(tactic| first
  | ((with_reducible show tE _ _ _ _ _ _); walk_at "yE")
  | ((with_reducible show tS _ _ _ _ _ _); walk_at "yS")
  | ((with_reducible show tT _ _ _ _ _ _); walk_at "yT")
  | ((with_reducible show tVs _ _ _ _ _ _); walk_at "yA")
  | ((with_reducible show tA _ _ _ _ _ _); walk_at "yA")
  | ((with_reducible show tOo _ _ _ _ _ _); walk_at "yA")
  | walk_at "yO")
local macro_rules | `(tactic| walk_at "z") => `(tactic| (fail_if_success (with_reducible show tS _ _ _ (tSeq (tIfS _ _ _) _) _ _); walk_at "y"))
local macro_rules | `(tactic| walk_at "smb") => `(tactic| first
  | assumption
  | exact (show Sm 64 _ by unfold Sm; decide)
  | (apply Sm.mul <;> walk_at "smb")
  | (apply Sm.add2 <;> walk_at "smb")
  | (apply Sm.sub2 <;> walk_at "smb")
  | (apply Sm.neg <;> walk_at "smb"))
local macro_rules | `(tactic| walk_at "mok") => `(tactic| exact mulOk (by walk_at "smb") (by walk_at "smb") (by decide) (by decide) (by decide))

namespace K01
open PySem PySem.Spec PyProof.Rows L2 Y
section
variable {P : Program} {w : World} {K : PySem.W.Frag} {mg : Str → Option Value} {base : Heap} {f : Addr} {fd : FuncData}
theorem ok_law_right {C : Addr} (B : Bl mg) (d_is_more : Dfn P w K mg base CX0 "is_more" ["one", "other"] 2 fs_is_more) (d__law_is : Dfn P w K mg base CX0 "_law_is" ["_law_found", "_law_top", "_law_bottom"] 4 fs_law_is)
    (d_added : Dfn P w K mg base CX0 "added" ["one", "other"] 4 fs_added) (d_less : Dfn P w K mg base CX0 "less" ["one", "other"] 4 fs_less) (d_product : Dfn P w K mg base CX0 "product" ["one", "other"] 4 fs_product)
    (d_quotient : Dfn P w K mg base (L2.CX P w) "quotient" ["one", "other"] 4 (fs_quotient C)) (d_lesser : Dfn P w K mg base CX0 "lesser" ["one", "other"] 3 fs_lesser) (d_greater : Dfn P w K mg base CX0 "greater" ["one", "other"] 3 fs_greater)
    (F : Fun K "_law_right" "_law_right" s__law_right f fd) : FnOk P w K mg base CX0 5 f fd ["_law_one", "_law_other"] (spD K fs_law_right) := by
  refine fn0 F sc__law_right (fun ds R Ex ⟨p, q, h, _⟩ => by rw [h]; rfl) fun cdv A outer s H E hr => ⟨_, (pss_cons (ps_asg (pv 0) (pg_tup rfl (pgs_cons (pg_name (i := 2) sc__law_right.nd rfl (by first | exact .inl rfl | exact .inr rfl)) (pgs_cons (pg_name (i := 3) sc__law_right.nd rfl (by first | exact .inl rfl | exact .inr rfl)) pgs_nil))))
      (pss_cons (ps_asg (pv 1) (pg_tup rfl (pgs_cons (pg_name (i := 4) sc__law_right.nd rfl (by first | exact .inl rfl | exact .inr rfl)) (pgs_cons (pg_name (i := 5) sc__law_right.nd rfl (by first | exact .inl rfl | exact .inr rfl)) pgs_nil))))
      (pss_cons (ps_set (i := 6) sc__law_right.nd rfl (by first | exact .inl rfl | exact .inr rfl) (pe_and (pe_dK d__law_is hr (pa_cons (pe_dK d_added hr (pa_cons (pv 0) (pa_cons (pv 1) pa_nil))) (pa_cons (pe_op op_addU (pe_op op_mulU (pv 2) (pv 5)) (pe_op op_mulU (pv 4) (pv 3))) (pa_cons (pe_op op_mulU (pv 3) (pv 5)) pa_nil)))) (pe_one (pe_dK d__law_is hr (pa_cons (pe_dK d_less hr (pa_cons (pv 0) (pa_cons (pv 1) pa_nil))) (pa_cons (pe_op op_sub (pe_op op_mulU (pv 2) (pv 5)) (pe_op op_mulU (pv 4) (pv 3))) (pa_cons (pe_op op_mulU (pv 3) (pv 5)) pa_nil)))))))
      (pss_cons (ps_set (i := 6) sc__law_right.nd rfl (by first | exact .inl rfl | exact .inr rfl) (pe_and (pv 6) (pe_one (pe_dK d__law_is hr (pa_cons (pe_dK d_product hr (pa_cons (pv 0) (pa_cons (pv 1) pa_nil))) (pa_cons (pe_op op_mulU (pv 2) (pv 4)) (pa_cons (pe_op op_mulU (pv 3) (pv 5)) pa_nil)))))))
      (pss_cons (ps_if (pt_cmpR (op_neK (K := K) hr) (pv 4) pe_int (nomark _)) (pss_one (ps_set (i := 6) sc__law_right.nd rfl (by first | exact .inl rfl | exact .inr rfl) (pe_and (pv 6) (pe_one (pe_dK d__law_is hr (pa_cons (pe_dNK d_quotient hr (pa_cons (pv 0) (pa_cons (pv 1) pa_nil))) (pa_cons (pe_op op_mulU (pv 2) (pv 5)) (pa_cons (pe_op op_mulU (pv 3) (pv 4)) pa_nil)))))))) pss_nil)
      (pss_cons (ps_set (i := 7) sc__law_right.nd rfl (by first | exact .inl rfl | exact .inr rfl) (pe_dK d_is_more (hr.mono (by decide)) (pa_cons (pv 0) (pa_cons (pv 1) pa_nil))))
      (pss_cons (ps_set (i := 6) sc__law_right.nd rfl (by first | exact .inl rfl | exact .inr rfl) (pe_and (pv 6) (pe_and (pe_callB (call_isiK (K := K)) (by rfl) B.bIsi (by decide +kernel) (pa_cons (pv 7) (pa_cons (pe_bltn (v := .ty "bool") rfl B.bBool (by decide +kernel) rfl) pa_nil))) (pe_one (pe_cmpR (op_eqK (K := K) hr) (pv 7) (pe_cmpR op_gt (pe_op op_mulU (pv 2) (pv 5)) (pe_op op_mulU (pv 4) (pv 3)) (nomark _)) (nomark _))))))
      (pss_one (ps_ret (pe_and (pv 6) (pe_and (pe_cmpR (op_eqK (K := K) hr) (pe_dK d_lesser (hr.mono (by decide)) (pa_cons (pv 0) (pa_cons (pv 1) pa_nil))) (pe_ix (ix_K (K := K)) (pe_lst (pa_cons (pv 0) (pa_cons (pv 1) pa_nil))) (pe_callTy call_int1 (by rfl) B.bInt (by decide +kernel) (pa_cons (pv 7) pa_nil)) (fun _ _ => rfl)) (nomark _)) (pe_one (pe_cmpR (op_eqK (K := K) hr) (pe_dK d_greater (hr.mono (by decide)) (pa_cons (pv 0) (pa_cons (pv 1) pa_nil))) (pe_ix (ix_K (K := K)) (pe_lst (pa_cons (pv 1) (pa_cons (pv 0) pa_nil))) (pe_callTy call_int1 (by rfl) B.bInt (by decide +kernel) (pa_cons (pv 7) pa_nil)) (fun _ _ => rfl)) (nomark _)))))))))))))), fun ds R Ex ⟨p, q, hd, ⟨a, b, hp, b0, hg1, sa, sb⟩, ⟨c, d, hq, d0, hg2, sc, sd⟩, h⟩ => ?_⟩
  subst hd hp hq
  have sm4 : Sm 400 a ∧ Sm 400 b ∧ Sm 400 c ∧ Sm 400 d := ⟨Sm.le sa (by decide), Sm.le sb (by decide), Sm.le sc (by decide), Sm.le sd (by decide)⟩
  have hbd : b * d ≠ 0 := Int.mul_ne_zero (by omega) (by omega)
  have sbd : Sm 900 (b * d) := Sm.le (Sm.mul sb sd) (by decide)
  have is4 : ∀ {x y : Prop}, (x → y) → x → y := fun h => h
  (try dsimp only [cxOf, Cx.nox, Cx.wish]); change tS K _ _ _ [.val (pt a b), .val (pt c d), .emp, .emp, .emp, .emp, .emp, .emp] _
  repeat walk_at "y"
  refine e_call (fun _ => .nil) ?_
  repeat walk_at "y"
  refine e_call (fun _ => .nil) ?_
  repeat walk_at "y"
  refine ⟨a, b, c, d, rfl, sm4, hbd, ?_⟩
  repeat walk_at "y"
  refine ⟨sbd, hbd, ?_⟩
  repeat walk_at "y"
  refine e_call (fun _ => .nil) ?_
  repeat walk_at "y"
  refine e_call (fun _ => .nil) ?_
  repeat walk_at "y"
  refine ⟨a, b, c, d, rfl, sm4, hbd, ?_⟩
  repeat walk_at "y"
  refine ⟨sbd, hbd, ?_⟩
  repeat walk_at "y"
  refine e_call (fun _ => .nil) ?_
  repeat walk_at "y"
  refine e_call (fun _ => .nil) ?_
  repeat walk_at "y"
  refine ⟨a, b, c, d, rfl, sm4, hbd, ?_⟩
  repeat walk_at "y"
  refine ⟨sbd, hbd, ?_⟩
  repeat ((fail_if_success (with_reducible show tS _ _ _ (tSeq (tIfS _ _ _) _) _ _)); walk_at "y")
  refine s_seqJ (fun ρ' => ρ' = [.val (pt a b), .val (pt c d), .val (.int a), .val (.int b), .val (.int c), .val (.int d), .val (.bl true), .emp]) ?_ ?_
  · repeat walk_at "y"
    refine br2n (fun hc => ?_) fun hc => ?_
    · have hbc : b * c ≠ 0 := Int.mul_ne_zero (by omega) hc
      repeat walk_at "y"
      refine e_call (fun _ => .nil) ?_
      repeat walk_at "y"
      refine e_call (fun _ => .nil) ?_
      repeat walk_at "y"
      refine ⟨a, b, c, d, rfl, sm4, fun z => absurd z hbc, fun _ => ?_⟩
      repeat walk_at "y"
      refine ⟨Sm.le (Sm.mul sb sc) (by decide), hbc, ?_⟩
      repeat walk_at "y"
      rfl
    · repeat walk_at "y"
      rfl
  · rintro ρ' rfl
    repeat walk_at "y"
    refine e_call (fun _ => .nil) ?_
    repeat walk_at "y"
    refine ⟨a, b, c, d, rfl, sm4, ?_⟩
    repeat walk_at "y"
    refine ⟨rfl, _, rfl, brA rfl ?_⟩
    repeat walk_at "y"
    refine brA (decide_eq_true rfl) ?_
    repeat walk_at "y"
    refine e_call (fun _ => .nil) ?_
    repeat walk_at "y"
    refine ⟨a, b, c, d, rfl, sm4, ?_⟩
    repeat walk_at "y"
    have cmp : ∀ x y : Int, CmpD (pt x y) (pt x y) true := fun x y => cmpd_same rfl (Nat.le_of_ble_eq_true rfl)
    by_cases hm : c * b < a * d
    · refine ⟨_, pt c d, rfl, ?_, ?_⟩
      · show atI [pt a b, pt c d] (if decide (c * b < a * d) = true then 1 else 0) = _
        rw [if_pos (decide_eq_true hm)]
        rfl
      rw [if_pos hm]
      refine ⟨true, cmp _ _, ?_⟩
      repeat walk_at "y"
      refine e_call (fun _ => .nil) ?_
      repeat walk_at "y"
      refine ⟨a, b, c, d, rfl, sm4, ?_⟩
      repeat walk_at "y"
      refine ⟨_, pt a b, rfl, ?_, ?_⟩
      · show atI [pt c d, pt a b] (if decide (c * b < a * d) = true then 1 else 0) = _
        rw [if_pos (decide_eq_true hm)]
        rfl
      rw [if_neg (show ¬ a * d < c * b by omega)]
      exact ⟨true, cmp _ _, h⟩
    · refine ⟨_, pt a b, rfl, ?_, ?_⟩
      · show atI [pt a b, pt c d] (if decide (c * b < a * d) = true then 1 else 0) = _
        rw [if_neg (by rw [decide_eq_false hm]; decide)]
        rfl
      rw [if_neg hm]
      refine ⟨true, cmp _ _, ?_⟩
      repeat walk_at "y"
      refine e_call (fun _ => .nil) ?_
      repeat walk_at "y"
      refine ⟨a, b, c, d, rfl, sm4, ?_⟩
      repeat walk_at "y"
      refine ⟨_, pt c d, rfl, ?_, ?_⟩
      · show atI [pt c d, pt a b] (if decide (c * b < a * d) = true then 1 else 0) = _
        rw [if_neg (by rw [decide_eq_false hm]; decide)]
        rfl
      by_cases hm2 : a * d < c * b
      · rw [if_pos hm2]
        exact ⟨true, cmp _ _, h⟩
      · rw [if_neg hm2, pt_inj (pt_same b0 d0 hg1 hg2 (show a * d = c * b by omega))]
        exact ⟨true, cmp _ _, h⟩
theorem ok_law_looked_at (B : Bl mg) (d__law_thing : Dfn P w K mg base CX0 "_law_thing" ["_law_part_here", "_law_number"] 2 fs_law_thing) (d_is_part : Dfn P w K mg base CX0 "is_part" ["thing"] 3 fs_is_part)
    (F : Fun K "_law_looked_at" "_law_looked_at" s__law_looked_at f fd) : FnOk P w K mg base CX0 4 f fd ["_law_part_here", "_law_number"] (spD K fs_law_looked_at) := by
  refine fn0 F sc__law_looked_at (fun ds R Ex ⟨p, q, h, _⟩ => by rw [h]; rfl) fun cdv A outer s H E hr => ⟨_, (pss_cons (ps_set (i := 2) sc__law_looked_at.nd rfl (by first | exact .inl rfl | exact .inr rfl) (pe_dK d__law_thing (hr.mono (by decide)) (pa_cons (pv 0) (pa_cons (pv 1) pa_nil))))
      (pss_one (ps_ret (pe_and (pe_cmpR op_is_bl (pe_dK d_is_part hr (pa_cons (pv 0) pa_nil)) pe_bl (nomark _)) (pe_and (pe_cmpR op_is_bl (pe_dK d_is_part hr (pa_cons (pe_tup (pa_cons (pe_op op_sub pe_int (pe_ix (ix_K (K := K)) (pv 0) pe_int (fun _ _ => rfl))) (pa_cons (pe_ix (ix_K (K := K)) (pv 0) pe_int (fun _ _ => rfl)) pa_nil))) pa_nil)) pe_bl (nomark _)) (pe_one (pe_cmpR op_is_bl (pe_dK d_is_part hr (pa_cons (pv 2) pa_nil)) pe_bl (nomark _)))))))), fun ds R Ex ⟨p, n, hd, hp', cn, h⟩ => ?_⟩
  obtain ⟨a, b, hp, b0, hg, sa, sb⟩ := id hp'
  subst hd hp
  (try dsimp only [cxOf, Cx.nox, Cx.wish]); change tS K _ _ _ [.val (pt a b), .val (.int n), .emp] _
  repeat walk_at "y"
  refine e_call (fun _ => .nil) ?_
  repeat walk_at "y"
  refine ⟨hp', cn, fun d hd1 hd2 => ?_⟩
  repeat walk_at "y"
  refine e_call (fun _ => .nil) ?_
  repeat walk_at "y"
  have p1 : isPartD (pt a b) = true := by
    show (decide (0 < b) && decide (Nat.gcd a.natAbs b.natAbs = 1)) = true
    rw [decide_eq_true b0, decide_eq_true hg]
    rfl
  have p2 : isPartD (pt (0 - a) b) = true := by
    show (decide (0 < b) && decide (Nat.gcd (0 - a).natAbs b.natAbs = 1)) = true
    rw [decide_eq_true b0, Int.zero_sub, Int.natAbs_neg, decide_eq_true hg]
    rfl
  refine ⟨rfl, ?_⟩
  rw [p1]
  repeat walk_at "y"
  refine brA (by decide) ?_
  repeat walk_at "y"
  refine e_call (fun _ => .nil) ?_
  repeat walk_at "y"
  refine ⟨rfl, ?_⟩
  rw [p2]
  repeat walk_at "y"
  refine brA (by decide) ?_
  repeat walk_at "y"
  refine e_call (fun _ => .nil) ?_
  repeat walk_at "y"
  refine ⟨hd2, ?_⟩
  rw [hd1]
  repeat walk_at "y"
  exact h
end
end K01
end

section
namespace K01
open PySem PySem.Spec PyProof.Rows L2 Y
theorem ng_mul {t u m : Int} : ng (t * m) (u * m) = ng t u * ((m.natAbs : Nat) : Int) := by
  unfold ng
  rw [Int.natAbs_mul, Int.natAbs_mul, Nat.gcd_mul_right]
  exact Int.natCast_mul _ _
theorem prt_mul {t u m : Int} (hu : 0 < u) (hm : 0 < m) : prt (t * m) (u * m) = prt t u := by
  unfold prt
  have e : ((m.natAbs : Nat) : Int) = m := by omega
  rw [ng_mul, e, Int.mul_ediv_mul_of_pos_left _ _ hm, Int.mul_ediv_mul_of_pos_left _ _ hm]
theorem npt_mul {t u m : Int} (hu : 0 < u) (hm : m ≠ 0) : npt (t * m) (u * m) = npt t u := by
  have e2 : npt t u = prt t u := by
    unfold npt
    rw [if_neg (by omega)]
  rw [e2]
  unfold npt
  by_cases h : 0 < m
  · rw [if_neg (by have := Int.mul_pos hu h; omega), prt_mul hu h]
  · have h2 : 0 < -m := by omega
    have h3 : u * m < 0 := by
      have := Int.mul_pos hu h2
      rw [Int.mul_neg] at this
      omega
    rw [if_pos h3, ← Int.mul_neg, ← Int.mul_neg, prt_mul hu h2]
theorem npt_prt {t u : Int} (hu : 0 < u) : npt t u = prt t u := by
  unfold npt
  rw [if_neg (by omega)]
theorem prt_Prt {t u : Int} (hu : 0 < u) (st : Sm 100 t) (su : Sm 100 u) : Prt (prt t u) := by
  have g0 := ng_pos (a := t) (b := u) (by omega)
  obtain ⟨a, ha⟩ : ng t u ∣ t := by
    unfold ng
    exact Int.ofNat_dvd_left.mpr (Nat.gcd_dvd_left _ _)
  obtain ⟨b, hb⟩ : ng t u ∣ u := by
    unfold ng
    exact Int.ofNat_dvd_left.mpr (Nat.gcd_dvd_right _ _)
  have e1 : t / ng t u = a := by
    conv => lhs; lhs; rw [ha]
    exact Int.mul_ediv_cancel_left _ (by omega)
  have e2 : u / ng t u = b := by
    conv => lhs; lhs; rw [hb]
    exact Int.mul_ediv_cancel_left _ (by omega)
  have b0 : 0 < b := by
    rw [← e2]
    exact Int.ediv_pos_of_pos_of_dvd hu (by omega) ⟨b, hb⟩
  have na : t.natAbs = (ng t u).natAbs * a.natAbs := by rw [← Int.natAbs_mul, ← ha]
  have nb : u.natAbs = (ng t u).natAbs * b.natAbs := by rw [← Int.natAbs_mul, ← hb]
  have ngn : (ng t u).natAbs = Nat.gcd t.natAbs u.natAbs := by
    unfold ng
    omega
  have gp : 0 < (ng t u).natAbs := by omega
  refine ⟨a, b, ?_, b0, ?_, ?_, ?_⟩
  · unfold prt
    rw [e1, e2]
  · have z : Nat.gcd t.natAbs u.natAbs = (ng t u).natAbs * Nat.gcd a.natAbs b.natAbs := by
      rw [← Nat.gcd_mul_left, ← na, ← nb]
    rw [← ngn] at z
    exact Nat.eq_of_mul_eq_mul_left gp (by omega)
  · unfold Sm at *
    refine Nat.lt_of_le_of_lt ?_ st
    rw [na]
    exact Nat.le_mul_of_pos_left _ gp
  · unfold Sm at *
    refine Nat.lt_of_le_of_lt ?_ su
    rw [nb]
    exact Nat.le_mul_of_pos_left _ gp
theorem prt_of_Prt {a b : Int} (h : 0 < b) (g : Nat.gcd a.natAbs b.natAbs = 1) (sa : Sm 100 a) (sb : Sm 100 b) : Prt (pt a b) := ⟨a, b, rfl, h, g, sa, sb⟩
theorem cell_at {rows : List Int} (hx : ∀ x ∈ rows, 0 ≤ x ∧ x < 10 ^ 40) {i : Int} (h0 : 0 ≤ i) (h1 : i < rows.length) : ∃ c, Cell c ∧ atI (rows.map D.int) i = some (.int c) := by
  obtain ⟨d, hm, ha⟩ := ixd_any (ds := rows.map D.int) h0 (by rw [List.length_map]; exact h1)
  obtain ⟨c, hc, rfl⟩ := List.mem_map.mp hm
  exact ⟨c, hx c hc, ha⟩
end K01
end

section
set_option maxHeartbeats 4000000
open PySem PySem.Spec PyProof.Rows L2 Y
local macro_rules | `(tactic| walk_at "yE") => `(tactic| first
  | ((with_reducible show tE _ _ _ (tOp _ _ _) _ _); first
    | (with_reducible refine e_ix ?_)
    | (with_reducible refine e_add ?_)
    | (with_reducible refine e_catA ?_)
    | (with_reducible refine e_sub ?_)
    | (with_reducible refine e_mul ?_)
    | (with_reducible refine e_mod ?_)
    | (with_reducible refine e_fdiv ?_)
    | (with_reducible refine e_pow ?_)
    | (with_reducible refine e_shr ?_)
    | (with_reducible refine e_band ?_)
    | (with_reducible refine e_lt ?_)
    | (with_reducible refine e_le ?_)
    | (with_reducible refine e_gt ?_)
    | (with_reducible refine e_ge ?_)
    | (with_reducible refine e_eq ?_)
    | (with_reducible refine e_ne ?_)
    | (with_reducible refine e_isN ?_)
    | (with_reducible refine e_notN ?_)
    | (with_reducible refine e_isB ?_)
    | (with_reducible refine e_isntB ?_))
  | ((with_reducible show tE _ _ _ (tCB _ _) _ _); first
    | (with_reducible refine e_len ?_)
    | (with_reducible refine e_isX (by with_unfolding_all exact fun _ h => h) ?_)
    | (with_reducible refine e_isInt ?_)
    | (with_reducible refine e_isBool ?_)
    | (with_reducible refine e_isTup ?_)
    | (with_reducible refine e_isStr ?_)
    | (with_reducible refine e_isList ?_)
    | (with_reducible refine e_gcd ?_)
    | (with_reducible refine e_abs ?_)
    | (with_reducible refine e_max2 ?_)
    | (with_reducible refine e_intB ?_)
    | (with_reducible refine e_strI ?_)
    | (with_reducible refine e_list ?_)
    | (with_reducible refine e_repr ?_)
    | (with_reducible refine e_tupL ?_)
    | (with_reducible refine e_all ?_))
  | (with_reducible refine e_val (by with_unfolding_all rfl) ?_)
  | (with_reducible refine e_own (by with_unfolding_all rfl) ?_)
  | (with_reducible refine e_int ?_)
  | (with_reducible refine e_bl ?_)
  | (with_reducible refine e_non ?_)
  | (with_reducible refine e_str ?_)
  | (with_reducible refine e_neg ?_)
  | (with_reducible refine e_and ?_)
  | (with_reducible refine e_or ?_)
  | (with_reducible refine e_not ?_)
  | (with_reducible refine e_if ?_)
  | (with_reducible refine e_chainI ?_)
  | (with_reducible refine e_tup ?_)
  | (with_reducible refine e_lst ?_)
  | (with_reducible refine e_dk0 ?_)
  | (with_reducible refine e_sl ?_)
  | (with_reducible refine e_revL ?_))
local macro_rules | `(tactic| walk_at "yS") => `(tactic| first
  | (with_reducible refine s_seq ?_)
  | (with_reducible refine s_if ?_)
  | (with_reducible refine s_retOwn (by with_unfolding_all rfl) ?_)
  | (with_reducible refine s_ret ?_)
  | (with_reducible refine s_retN ?_)
  | (with_reducible refine s_next ?_)
  | (with_reducible refine s_set ?_ (by with_unfolding_all exact Nat.le_of_ble_eq_true rfl))
  | (with_reducible refine s_asgG ?_)
  | (with_reducible refine s_parS ?_ (by with_unfolding_all exact Nat.le_of_ble_eq_true rfl) (by with_unfolding_all exact Nat.le_of_ble_eq_true rfl))
  | (with_reducible refine s_rz ?_)
  | (with_reducible refine s_appendS (by with_unfolding_all rfl) ?_)
  | (with_reducible refine s_expr ?_)
  | ((with_reducible refine s_tryKK ?_); intro W))
local macro_rules | `(tactic| walk_at "yT") => `(tactic| first
  | (with_reducible refine t_test ?_)
  | (with_reducible refine t_tru ?_)
  | (with_reducible refine t_not ?_)
  | (with_reducible refine t_and ?_)
  | (with_reducible refine t_or ?_))
local macro_rules | `(tactic| walk_at "yA") => `(tactic| first
  | (with_reducible refine vs_cons ?_)
  | (with_reducible refine vs_nil ?_)
  | (with_reducible refine a_cons ?_)
  | (with_reducible refine a_nil ?_)
  | (with_reducible refine o_none ?_)
  | (with_reducible refine o_some ?_))
local macro_rules | `(tactic| walk_at "yX") => `(tactic| first
  | ((with_reducible show ∃ _, CmpD _ _ _ ∧ _); first | refine ⟨_, cmpd_int, ?_⟩ | refine ⟨_, cmpd_str, ?_⟩ | refine ⟨_, cmpd_bl, ?_⟩)
  | ((with_reducible show ∃ _ _, _ ∧ ExcC _ _ ∧ _); refine ⟨_, _, rfl, by assumption, by assumption, ?_⟩)
  | (refine ⟨_, _, rfl, rfl, ?_⟩)
  | (refine ⟨_, _, rfl, ?_⟩)
  | (refine ⟨_, rfl, ?_⟩))
local macro_rules | `(tactic| walk_at "yN") => `(tactic| first
  | (with_reducible refine brT ?_)
  | (with_reducible refine brF ?_)
  | (with_reducible refine brT' ?_)
  | (with_reducible refine brF' ?_)
  | ((with_reducible show ((!_) = false → _) ∧ _); first | (refine brA' rfl ?_) | (refine brB' rfl ?_))
  | ((with_reducible show ((!_) = true → _) ∧ _); first | (refine brA rfl ?_) | (refine brB rfl ?_))
  | ((with_reducible show 0 < _ ∧ _); refine ⟨by first | decide | omega, ?_⟩)
  | ((with_reducible show _ ≤ sizeLine ∧ _); refine ⟨small_len (by with_unfolding_all exact Nat.le_of_ble_eq_true rfl), ?_⟩)
  | ((with_reducible show CPow _ _ ∧ _); refine ⟨⟨by decide, by decide, by decide⟩, ?_⟩)
  | ((with_reducible show CDivX _ _ ∧ _); refine ⟨⟨by decide, by decide⟩, ?_⟩)
  | ((with_reducible show 0 ≤ _ ∧ _); refine ⟨by first | decide | omega, ?_⟩)
  | ((with_reducible show _ = D.non ∧ _); refine ⟨rfl, ?_⟩))
local macro_rules | `(tactic| walk_at "yO") => `(tactic| first
  | ((with_reducible show vR _ _); first | (with_reducible refine vr_val ?_) | (with_reducible refine vr_own ?_))
  | ((with_reducible show asgR _ _); first | (with_reducible refine as_val ?_) | (with_reducible refine as_own ?_))
  | ((with_reducible show ∃ _, _); walk_at "yX")
  | ((with_reducible show _ ∧ _); walk_at "yN")
  | ((with_reducible show AddD _ _ _); first | (refine add_int ?_) | (refine add_lst (small_len' (by with_unfolding_all exact Nat.le_of_ble_eq_true rfl)) ?_))
  | ((with_reducible show MulD _ _ _); refine mul_int (by walk_at "mok") ?_)
  | (with_reducible refine ss_go (by with_unfolding_all repeat constructor) ?_)
  | (with_reducible refine g_nameS (by first | trivial | exact List.mem_cons_self | simp) (by with_unfolding_all repeat constructor) ?_)
  | (with_reducible refine g_tup (by with_unfolding_all rfl) ?_)
  | (with_reducible refine gs_cons ?_)
  | (with_reducible refine gs_nil ?_))
local macro_rules | `(tactic| walk_at "y") => `(tactic| first
  | ((with_reducible show tE _ _ _ _ _ _); walk_at "yE")
  | ((with_reducible show tS _ _ _ _ _ _); walk_at "yS")
  | ((with_reducible show tT _ _ _ _ _ _); walk_at "yT")
  | ((with_reducible show tVs _ _ _ _ _ _); walk_at "yA")
  | ((with_reducible show tA _ _ _ _ _ _); walk_at "yA")
  | ((with_reducible show tOo _ _ _ _ _ _); walk_at "yA")
  | walk_at "yO")
local macro_rules | `(tactic| walk_at "z") => `(tactic| (fail_if_success (with_reducible show tS _ _ _ (tSeq (tIfS _ _ _) _) _ _); walk_at "y"))
local macro_rules | `(tactic| walk_at "smb") => `(tactic| first
  | assumption
  | exact (show Sm 64 _ by unfold Sm; decide)
  | (apply Sm.mul <;> walk_at "smb")
  | (apply Sm.add2 <;> walk_at "smb")
  | (apply Sm.sub2 <;> walk_at "smb")
  | (apply Sm.neg <;> walk_at "smb"))
local macro_rules | `(tactic| walk_at "mok") => `(tactic| exact mulOk (by walk_at "smb") (by walk_at "smb") (by decide) (by decide) (by decide))

namespace K01
open PySem PySem.Spec PyProof.Rows L2 Y
section
variable {P : Program} {w : World} {K : PySem.W.Frag} {mg : Str → Option Value} {base : Heap} {f : Addr} {fd : FuncData}
theorem ok_law {C : Addr} (B : Bl mg) (d__law_row : Dfn P w K mg base CX0 "_law_row" ["_law_script", "_law_many"] 2 fs_law_row) (d__law_made : Dfn P w K mg base CX0 "_law_made" ["_law_a", "_law_b", "_law_c"] 3 fs_law_made) (d__law_part : Dfn P w K mg base CX0 "_law_part" ["_law_top", "_law_bottom"] 3 fs_law_part)
    (d__law_is : Dfn P w K mg base CX0 "_law_is" ["_law_found", "_law_top", "_law_bottom"] 4 fs_law_is) (d_part_of : Dfn P w K mg base (L2.CX P w) "part_of" ["top", "bottom"] 3 (fs_part_of C)) (d_part_of_1 : DfnD P w K mg base (L2.CX P w) "part_of" ["top", "bottom"] [.int 1] 3 (fs_part_of C))
    (d__law_right : Dfn P w K mg base CX0 "_law_right" ["_law_one", "_law_other"] 5 fs_law_right) (d__law_refused : Dfn P w K mg base CX0 "_law_refused" ["_law_way", "_law_one"] 5 fs_law_refused) (d__law_looked_at : Dfn P w K mg base CX0 "_law_looked_at" ["_law_part_here", "_law_number"] 4 fs_law_looked_at)
    (F : Fun K "law" "law" s_law f fd) : FnOk P w K mg base CX0 6 f fd ["_law_script"] (spD K fs_law) := by
  refine fn0 F sc_law (fun ds R Ex ⟨ns, h, _⟩ => by rw [h]; rfl) fun cdv A outer s H E hr => ⟨_, (pss_cons (ps_set (i := 1) sc_law.nd rfl (by first | exact .inl rfl | exact .inr rfl) (pe_dK d__law_row (hr.mono (by decide)) (pa_cons (pv 0) (pa_cons pe_int pa_nil))))
      (pss_cons (ps_for PassesOwn.never rfl (pi_range1 (by rfl) B.bRange (pa_cons (pe_op op_sub (pe_callB (call_lenK (K := K)) (by rfl) B.bLen (by decide +kernel) (pa_cons (pv 1) pa_nil)) pe_int) pa_nil)) (pg_name (i := 2) sc_law.nd rfl (by first | exact .inl rfl | exact .inr rfl))
      (pss_cons (ps_asg (pe_dK d__law_made (hr.mono (by decide)) (pa_cons (pe_ix (ix_K (K := K)) (pv 1) (pv 2) (fun _ _ => rfl)) (pa_cons (pe_ix (ix_K (K := K)) (pv 1) (pe_op op_addU (pv 2) pe_int) (fun _ _ => rfl)) (pa_cons (pe_ix (ix_K (K := K)) (pv 1) (pe_op op_addU (pv 2) pe_int) (fun _ _ => rfl)) pa_nil)))) (pg_tup rfl (pgs_cons (pg_name (i := 3) sc_law.nd rfl (by first | exact .inl rfl | exact .inr rfl)) (pgs_cons (pg_name (i := 4) sc_law.nd rfl (by first | exact .inl rfl | exact .inr rfl)) (pgs_cons (pg_name (i := 5) sc_law.nd rfl (by first | exact .inl rfl | exact .inr rfl)) (pgs_cons (pg_name (i := 6) sc_law.nd rfl (by first | exact .inl rfl | exact .inr rfl)) pgs_nil))))))
      (pss_cons (ps_set (i := 7) sc_law.nd rfl (by first | exact .inl rfl | exact .inr rfl) (pe_dK d__law_part (hr.mono (by decide)) (pa_cons (pv 3) (pa_cons (pv 4) pa_nil))))
      (pss_cons (ps_if (PW.pt (pw_or (pt_not (pt_truK (K := K) (pe_dK d__law_is (hr.mono (by decide)) (pa_cons (pe_dNK d_part_of (hr.mono (by decide)) (pa_cons (pv 5) (pa_cons (pv 6) pa_nil))) (pa_cons (pv 3) (pa_cons (pv 4) pa_nil)))))) (pw_or1 (pt_not (pt_truK (K := K) (pe_dK d__law_is (hr.mono (by decide)) (pa_cons (pe_dNDK d_part_of_1 (hr.mono (by decide)) (pa_cons (pv 3) pa_nil)) (pa_cons (pv 3) (pa_cons pe_int pa_nil))))))))) (pss_one (ps_ret pe_bl)) pss_nil)
      (pss_cons (ps_asg (pe_dK d__law_made (hr.mono (by decide)) (pa_cons (pe_ix (ix_K (K := K)) (pv 1) (pe_op op_addU (pv 2) pe_int) (fun _ _ => rfl)) (pa_cons (pe_ix (ix_K (K := K)) (pv 1) (pe_op op_addU (pv 2) pe_int) (fun _ _ => rfl)) (pa_cons (pe_ix (ix_K (K := K)) (pv 1) (pe_op op_addU (pv 2) pe_int) (fun _ _ => rfl)) pa_nil)))) (pg_tup rfl (pgs_cons (pg_name (i := 3) sc_law.nd rfl (by first | exact .inl rfl | exact .inr rfl)) (pgs_cons (pg_name (i := 4) sc_law.nd rfl (by first | exact .inl rfl | exact .inr rfl)) (pgs_cons (pg_name (i := 5) sc_law.nd rfl (by first | exact .inl rfl | exact .inr rfl)) (pgs_cons (pg_name (i := 6) sc_law.nd rfl (by first | exact .inl rfl | exact .inr rfl)) pgs_nil))))))
      (pss_cons (ps_set (i := 8) sc_law.nd rfl (by first | exact .inl rfl | exact .inr rfl) (pe_ix (ix_K (K := K)) (pe_lst (pa_cons (pe_dK d__law_part (hr.mono (by decide)) (pa_cons (pv 3) (pa_cons (pv 4) pa_nil))) (pa_cons (pv 7) (pa_cons (pe_tup (pa_cons (pe_op op_sub pe_int (pe_ix (ix_K (K := K)) (pv 7) pe_int (fun _ _ => rfl))) (pa_cons (pe_ix (ix_K (K := K)) (pv 7) pe_int (fun _ _ => rfl)) pa_nil))) (pa_cons (pe_tup (pa_cons pe_int (pa_cons pe_int pa_nil))) pa_nil))))) (pe_op op_mod (pe_op op_fdivX (pe_ix (ix_K (K := K)) (pv 1) (pv 2) (fun _ _ => rfl)) pe_int) pe_int) (fun _ _ => rfl)))
      (pss_cons (ps_if (pt_cmpR op_gt (pe_op op_mod (pe_ix (ix_K (K := K)) (pv 1) (pv 2) (fun _ _ => rfl)) pe_int) pe_int (nomark _)) (pss_one (ps_set (i := 8) sc_law.nd rfl (by first | exact .inl rfl | exact .inr rfl) (pe_dK d__law_part (hr.mono (by decide)) (pa_cons (pv 3) (pa_cons (pv 4) pa_nil))))) pss_nil)
      (pss_cons (ps_if (PW.pt (pw_or (pt_not (pt_truK (K := K) (pe_dK d__law_right hr (pa_cons (pv 7) (pa_cons (pv 8) pa_nil))))) (pw_or1 (pt_not (pt_truK (K := K) (pe_dK d__law_refused hr (pa_cons (pe_op op_mod (pe_ix (ix_K (K := K)) (pv 1) (pv 2) (fun _ _ => rfl)) pe_int) (pa_cons (pv 7) pa_nil)))))))) (pss_one (ps_ret pe_bl)) pss_nil)
      (pss_one (ps_if (pt_not (pt_truK (K := K) (pe_dK d__law_looked_at (hr.mono (by decide)) (pa_cons (pv 7) (pa_cons (pe_ix (ix_K (K := K)) (pv 1) (pe_op op_addU (pv 2) pe_int) (fun _ _ => rfl)) pa_nil))))) (pss_one (ps_ret pe_bl)) pss_nil))))))))))
      (pss_one (ps_ret pe_bl)))), fun ds R Ex ⟨ns, hd, hn, h⟩ => ?_⟩
  subst hd
  (try dsimp only [cxOf, Cx.nox, Cx.wish]); change tS K _ _ _ [.val (.fz (ns.map D.int)), .emp, .emp, .emp, .emp, .emp, .emp, .emp, .emp] _
  repeat walk_at "y"
  refine e_call (fun _ => .nil) ?_
  repeat walk_at "y"
  refine ⟨hn, by decide, fun rows hl hx => ?_⟩
  repeat walk_at "y"
  refine s_freezeS (i := 1) rfl (by repeat constructor) ?_
  refine s_for (i_range1 ?_)
  repeat walk_at "y"
  have hl : rows.length = ns.length + 12 := hl
  refine ⟨by rw [List.length_map, hl]; omega, by rw [List.length_map, hl]; omega, ?_⟩
  refine ⟨fun i ρ => ∃ s2 s3 s4 s5 s6 s7 s8 : Slot, ρ = [.val (.fz (ns.map D.int)), .val (.lst (rows.map D.int)), s2, s3, s4, s5, s6, s7, s8], ⟨_, _, _, _, _, _, _, rfl⟩, ?_, ?_⟩
  · rintro i d ρ' hd ⟨s2, s3, s4, s5, s6, s7, s8, rfl⟩
    obtain ⟨hi, rfl⟩ := rangeD_get hd
    rw [List.length_map, hl] at hi
    rw [Int.zero_add]
    obtain ⟨c0, h0, a0⟩ := cell_at hx (i := (i : Int)) (by omega) (by omega)
    obtain ⟨c1, h1, a1⟩ := cell_at hx (i := (i : Int) + 1) (by omega) (by omega)
    obtain ⟨c2, h2, a2⟩ := cell_at hx (i := (i : Int) + 2) (by omega) (by omega)
    obtain ⟨c3, h3, a3⟩ := cell_at hx (i := (i : Int) + 3) (by omega) (by omega)
    obtain ⟨c4, h4, a4⟩ := cell_at hx (i := (i : Int) + 4) (by omega) (by omega)
    obtain ⟨c5, h5, a5⟩ := cell_at hx (i := (i : Int) + 5) (by omega) (by omega)
    repeat walk_at "y"
    refine e_call (fun _ => .nil) ?_
    repeat walk_at "y"
    refine ⟨_, _, rfl, a0, ?_⟩
    repeat walk_at "y"
    refine ⟨_, _, rfl, a1, ?_⟩
    repeat walk_at "y"
    refine ⟨_, _, rfl, a2, ?_⟩
    repeat walk_at "y"
    refine ⟨c0, c1, c2, rfl, h0, h1, h2, fun t u m ht hu hm => ?_⟩
    have st : Sm 100 t := by unfold Sm; omega
    have su : Sm 100 u := by unfold Sm; omega
    repeat walk_at "y"
    refine e_call (fun _ => .nil) ?_
    repeat walk_at "y"
    refine ⟨Sm.le su (by decide), ?_⟩
    repeat walk_at "y"
    refine e_call (fun _ => .nil) ?_
    repeat walk_at "y"
    refine e_call (fun _ => .nil) ?_
    repeat walk_at "y"
    have sum : Sm 900 (u * m) := Sm.le (Sm.mul su (show Sm 64 m by unfold Sm; omega)) (by decide)
    have um : u * m ≠ 0 := Int.mul_ne_zero (by omega) hm.1
    refine ⟨sum, fun z => absurd z um, fun _ => ?_⟩
    rw [npt_mul hu.1 hm.1]
    repeat walk_at "y"
    refine ⟨Sm.le su (by decide), by omega, ?_⟩
    repeat walk_at "y"
    refine e_call (fun _ => .nil) ?_
    repeat walk_at "y"
    refine e_call (fun _ => .cons (.int 1) .nil) ?_
    repeat walk_at "y"
    have s1 : Sm 900 1 := Sm.le (show Sm 64 1 by unfold Sm; decide) (by decide)
    refine ⟨s1, fun z => absurd z (by decide), fun _ => ?_⟩
    repeat walk_at "y"
    refine ⟨s1, by decide, ?_⟩
    repeat walk_at "y"
    refine e_call (fun _ => .nil) ?_
    repeat walk_at "y"
    refine ⟨_, _, rfl, a3, ?_⟩
    repeat walk_at "y"
    refine ⟨_, _, rfl, a4, ?_⟩
    repeat walk_at "y"
    refine ⟨_, _, rfl, a5, ?_⟩
    repeat walk_at "y"
    refine ⟨c3, c4, c5, rfl, h3, h4, h5, fun t2 u2 m2 ht2 hu2 hm2 => ?_⟩
    have st2 : Sm 100 t2 := by unfold Sm; omega
    have su2 : Sm 100 u2 := by unfold Sm; omega
    repeat walk_at "y"
    refine e_call (fun _ => .nil) ?_
    repeat walk_at "y"
    refine ⟨Sm.le su2 (by decide), ?_⟩
    repeat walk_at "y"
    refine ⟨_, _, rfl, a0, ?_⟩
    repeat walk_at "y"
    have pr1 : Prt (prt t u) := prt_Prt hu.1 st su
    have pr2 : Prt (prt t2 u2) := prt_Prt hu2.1 st2 su2
    have z0 := Int.emod_nonneg (c0.fdiv 4096) (show (4 : Int) ≠ 0 by decide)
    have z1 := Int.emod_lt_of_pos (c0.fdiv 4096) (show (0 : Int) < 4 by decide)
    obtain ⟨d, hm, hx2⟩ := ixd_any (ds := [prt t2 u2, prt t u, .tup [.int (0 - t / ng t u), .int (u / ng t u)], .tup [.int 0, .int 1]]) z0 z1
    have pd : Prt d := by
      simp only [List.mem_cons, List.not_mem_nil, or_false] at hm
      rcases hm with rfl | rfl | rfl | rfl
      · exact pr2
      · exact pr1
      · obtain ⟨a, b, he, b0, hg, sa, sb⟩ := pr1
        have e1 : t / ng t u = a ∧ u / ng t u = b := by
          unfold prt at he
          injection he with he
          injection he with h1 h2
          injection h2 with h2
          injection h1 with h1
          injection h2 with h2
          exact ⟨h1, h2⟩
        rw [e1.1, e1.2]
        refine ⟨0 - a, b, rfl, b0, ?_, ?_, sb⟩
        · rw [Int.zero_sub, Int.natAbs_neg]
          exact hg
        · rw [Int.zero_sub]
          exact Sm.neg sa
      · exact ⟨0, 1, rfl, by decide, rfl, by unfold Sm; decide, by unfold Sm; decide⟩
    refine ⟨_, d, rfl, hx2, ?_⟩
    repeat ((fail_if_success (with_reducible show tS _ _ _ (tSeq (tIfS _ _ _) _) _ _)); walk_at "y")
    dsimp only
    refine s_seqJ (fun ρ' => ∃ q, Prt q ∧ ρ' = [.val (.fz (ns.map D.int)), .val (.lst (rows.map D.int)), .val (.int (i : Int)), .val (.int t2), .val (.int u2), .val (.int (t2 * m2)), .val (.int (u2 * m2)), .val (prt t u), .val q]) ?_ ?_
    · repeat walk_at "y"
      refine ⟨_, _, rfl, a0, ?_⟩
      repeat walk_at "y"
      refine br2 (fun _ => ?_) (fun _ => ?_)
      · repeat walk_at "y"
        refine e_call (fun _ => .nil) ?_
        repeat walk_at "y"
        refine ⟨Sm.le su2 (by decide), ?_⟩
        repeat walk_at "y"
        exact ⟨_, pr2, rfl⟩
      · repeat walk_at "y"
        exact ⟨_, pd, rfl⟩
    · rintro ρ' ⟨q, pq, rfl⟩
      repeat walk_at "y"
      refine e_call (fun _ => .nil) ?_
      repeat walk_at "y"
      refine ⟨pr1, pq, ?_⟩
      repeat walk_at "y"
      refine e_call (fun _ => .nil) ?_
      repeat walk_at "y"
      refine ⟨_, _, rfl, a0, ?_⟩
      repeat walk_at "y"
      obtain ⟨a, b, he, b0, hg, sa, sb⟩ := id pr1
      rw [he]
      refine ⟨_, _, _, rfl, ⟨Sm.le sa (by decide), Sm.le sb (by decide)⟩, ?_⟩
      repeat walk_at "y"
      refine e_call (fun _ => .nil) ?_
      repeat walk_at "y"
      refine ⟨_, _, rfl, a5, ?_⟩
      repeat walk_at "y"
      refine ⟨he ▸ pr1, h5, ?_⟩
      repeat walk_at "y"
      exact ⟨_, _, _, _, _, _, _, rfl⟩
  · rintro ρ' ⟨s2, s3, s4, s5, s6, s7, s8, rfl⟩
    repeat walk_at "y"
    exact h
end
end K01
end

section
set_option maxHeartbeats 4000000
open PySem PySem.Spec PyProof.Rows L2 Y
local macro_rules | `(tactic| walk_at "yE") => `(tactic| first
  | ((with_reducible show tE _ _ _ (tOp _ _ _) _ _); first
    | (with_reducible refine e_ix ?_)
    | (with_reducible refine e_add ?_)
    | (with_reducible refine e_catA ?_)
    | (with_reducible refine e_sub ?_)
    | (with_reducible refine e_mul ?_)
    | (with_reducible refine e_mod ?_)
    | (with_reducible refine e_fdiv ?_)
    | (with_reducible refine e_pow ?_)
    | (with_reducible refine e_shr ?_)
    | (with_reducible refine e_band ?_)
    | (with_reducible refine e_lt ?_)
    | (with_reducible refine e_le ?_)
    | (with_reducible refine e_gt ?_)
    | (with_reducible refine e_ge ?_)
    | (with_reducible refine e_eq ?_)
    | (with_reducible refine e_ne ?_)
    | (with_reducible refine e_isN ?_)
    | (with_reducible refine e_notN ?_)
    | (with_reducible refine e_isB ?_)
    | (with_reducible refine e_isntB ?_))
  | ((with_reducible show tE _ _ _ (tCB _ _) _ _); first
    | (with_reducible refine e_len ?_)
    | (with_reducible refine e_isX (by with_unfolding_all exact fun _ h => h) ?_)
    | (with_reducible refine e_isInt ?_)
    | (with_reducible refine e_isBool ?_)
    | (with_reducible refine e_isTup ?_)
    | (with_reducible refine e_isStr ?_)
    | (with_reducible refine e_isList ?_)
    | (with_reducible refine e_gcd ?_)
    | (with_reducible refine e_abs ?_)
    | (with_reducible refine e_max2 ?_)
    | (with_reducible refine e_intB ?_)
    | (with_reducible refine e_strI ?_)
    | (with_reducible refine e_list ?_)
    | (with_reducible refine e_repr ?_)
    | (with_reducible refine e_tupL ?_)
    | (with_reducible refine e_all ?_))
  | (with_reducible refine e_val (by with_unfolding_all rfl) ?_)
  | (with_reducible refine e_own (by with_unfolding_all rfl) ?_)
  | (with_reducible refine e_int ?_)
  | (with_reducible refine e_bl ?_)
  | (with_reducible refine e_non ?_)
  | (with_reducible refine e_str ?_)
  | (with_reducible refine e_neg ?_)
  | (with_reducible refine e_and ?_)
  | (with_reducible refine e_or ?_)
  | (with_reducible refine e_not ?_)
  | (with_reducible refine e_if ?_)
  | (with_reducible refine e_chainI ?_)
  | (with_reducible refine e_tup ?_)
  | (with_reducible refine e_lst ?_)
  | (with_reducible refine e_dk0 ?_)
  | (with_reducible refine e_sl ?_)
  | (with_reducible refine e_revL ?_))
local macro_rules | `(tactic| walk_at "yS") => `(tactic| first
  | (with_reducible refine s_seq ?_)
  | (with_reducible refine s_if ?_)
  | (with_reducible refine s_retOwn (by with_unfolding_all rfl) ?_)
  | (with_reducible refine s_ret ?_)
  | (with_reducible refine s_retN ?_)
  | (with_reducible refine s_next ?_)
  | (with_reducible refine s_set ?_ (by with_unfolding_all exact Nat.le_of_ble_eq_true rfl))
  | (with_reducible refine s_asgG ?_)
  | (with_reducible refine s_parS ?_ (by with_unfolding_all exact Nat.le_of_ble_eq_true rfl) (by with_unfolding_all exact Nat.le_of_ble_eq_true rfl))
  | (with_reducible refine s_rz ?_)
  | (with_reducible refine s_appendS (by with_unfolding_all rfl) ?_)
  | (with_reducible refine s_expr ?_)
  | ((with_reducible refine s_tryKK ?_); intro W))
local macro_rules | `(tactic| walk_at "yT") => `(tactic| first
  | (with_reducible refine t_test ?_)
  | (with_reducible refine t_tru ?_)
  | (with_reducible refine t_not ?_)
  | (with_reducible refine t_and ?_)
  | (with_reducible refine t_or ?_))
local macro_rules | `(tactic| walk_at "yA") => `(tactic| first
  | (with_reducible refine vs_cons ?_)
  | (with_reducible refine vs_nil ?_)
  | (with_reducible refine a_cons ?_)
  | (with_reducible refine a_nil ?_)
  | (with_reducible refine o_none ?_)
  | (with_reducible refine o_some ?_))
local macro_rules | `(tactic| walk_at "yX") => `(tactic| first
  | ((with_reducible show ∃ _, CmpD _ _ _ ∧ _); first | refine ⟨_, cmpd_int, ?_⟩ | refine ⟨_, cmpd_str, ?_⟩ | refine ⟨_, cmpd_bl, ?_⟩)
  | ((with_reducible show ∃ _ _, _ ∧ ExcC _ _ ∧ _); refine ⟨_, _, rfl, by assumption, by assumption, ?_⟩)
  | (refine ⟨_, _, rfl, rfl, ?_⟩)
  | (refine ⟨_, _, rfl, ?_⟩)
  | (refine ⟨_, rfl, ?_⟩))
local macro_rules | `(tactic| walk_at "yN") => `(tactic| first
  | (with_reducible refine brT ?_)
  | (with_reducible refine brF ?_)
  | (with_reducible refine brT' ?_)
  | (with_reducible refine brF' ?_)
  | ((with_reducible show ((!_) = false → _) ∧ _); first | (refine brA' rfl ?_) | (refine brB' rfl ?_))
  | ((with_reducible show ((!_) = true → _) ∧ _); first | (refine brA rfl ?_) | (refine brB rfl ?_))
  | ((with_reducible show 0 < _ ∧ _); refine ⟨by first | decide | omega, ?_⟩)
  | ((with_reducible show _ ≤ sizeLine ∧ _); refine ⟨small_len (by with_unfolding_all exact Nat.le_of_ble_eq_true rfl), ?_⟩)
  | ((with_reducible show CPow _ _ ∧ _); refine ⟨⟨by decide, by decide, by decide⟩, ?_⟩)
  | ((with_reducible show CDivX _ _ ∧ _); refine ⟨⟨by decide, by decide⟩, ?_⟩)
  | ((with_reducible show 0 ≤ _ ∧ _); refine ⟨by first | decide | omega, ?_⟩)
  | ((with_reducible show _ = D.non ∧ _); refine ⟨rfl, ?_⟩))
local macro_rules | `(tactic| walk_at "yO") => `(tactic| first
  | ((with_reducible show vR _ _); first | (with_reducible refine vr_val ?_) | (with_reducible refine vr_own ?_))
  | ((with_reducible show asgR _ _); first | (with_reducible refine as_val ?_) | (with_reducible refine as_own ?_))
  | ((with_reducible show ∃ _, _); walk_at "yX")
  | ((with_reducible show _ ∧ _); walk_at "yN")
  | ((with_reducible show AddD _ _ _); first | (refine add_int ?_) | (refine add_lst (small_len' (by with_unfolding_all exact Nat.le_of_ble_eq_true rfl)) ?_))
  | ((with_reducible show MulD _ _ _); refine mul_int (by walk_at "mok") ?_)
  | (with_reducible refine ss_go (by with_unfolding_all repeat constructor) ?_)
  | (with_reducible refine g_nameS (by first | trivial | exact List.mem_cons_self | simp) (by with_unfolding_all repeat constructor) ?_)
  | (with_reducible refine g_tup (by with_unfolding_all rfl) ?_)
  | (with_reducible refine gs_cons ?_)
  | (with_reducible refine gs_nil ?_))
local macro_rules | `(tactic| walk_at "y") => `(tactic| first
  | ((with_reducible show tE _ _ _ _ _ _); walk_at "yE")
  | ((with_reducible show tS _ _ _ _ _ _); walk_at "yS")
  | ((with_reducible show tT _ _ _ _ _ _); walk_at "yT")
  | ((with_reducible show tVs _ _ _ _ _ _); walk_at "yA")
  | ((with_reducible show tA _ _ _ _ _ _); walk_at "yA")
  | ((with_reducible show tOo _ _ _ _ _ _); walk_at "yA")
  | walk_at "yO")
local macro_rules | `(tactic| walk_at "z") => `(tactic| (fail_if_success (with_reducible show tS _ _ _ (tSeq (tIfS _ _ _) _) _ _); walk_at "y"))
local macro_rules | `(tactic| walk_at "smb") => `(tactic| first
  | assumption
  | exact (show Sm 64 _ by unfold Sm; decide)
  | (apply Sm.mul <;> walk_at "smb")
  | (apply Sm.add2 <;> walk_at "smb")
  | (apply Sm.sub2 <;> walk_at "smb")
  | (apply Sm.neg <;> walk_at "smb"))
local macro_rules | `(tactic| walk_at "mok") => `(tactic| exact mulOk (by walk_at "smb") (by walk_at "smb") (by decide) (by decide) (by decide))

namespace K01
open PySem PySem.Spec PyProof.Rows L2 Y
section
variable {P : Program} {w : World} {K : PySem.W.Frag} {mg : Str → Option Value} {base : Heap} {f : Addr} {fd : FuncData}
theorem ok_law_thing (B : Bl mg) (F : Fun K "_law_thing" "_law_thing" s__law_thing f fd) : FnOk P w K mg base CX0 2 f fd ["_law_part_here", "_law_number"] (spD K fs_law_thing) := by
  refine fn0 F sc__law_thing (fun ds R Ex ⟨p, q, h, _⟩ => by rw [h]; rfl) fun cdv A outer s H E hr => ⟨_, (pss_cons (ps_asg (pv 0) (pg_tup rfl (pgs_cons (pg_name (i := 2) sc__law_thing.nd rfl (by first | exact .inl rfl | exact .inr rfl)) (pgs_cons (pg_name (i := 3) sc__law_thing.nd rfl (by first | exact .inl rfl | exact .inr rfl)) pgs_nil))))
      (pss_cons (ps_set (i := 4) sc__law_thing.nd rfl (by first | exact .inl rfl | exact .inr rfl) (pe_op op_addU pe_int (pe_op op_mod (pe_op op_fdivX (pv 1) pe_int) pe_int)))
      (pss_cons (ps_set (i := 5) sc__law_thing.nd rfl (by first | exact .inl rfl | exact .inr rfl) (pe_lst (pa_cons (pe_tup (pa_cons (pe_op op_mulU (pv 2) (pv 4)) (pa_cons (pe_op op_mulU (pv 3) (pv 4)) pa_nil))) (pa_cons (pe_tup (pa_cons (pe_op op_sub pe_int (pv 2)) (pa_cons (pe_op op_sub pe_int (pv 3)) pa_nil))) (pa_cons (pe_tup (pa_cons (pv 2) (pa_cons pe_int pa_nil))) (pa_cons (pe_lst (pa_cons (pv 2) (pa_cons (pv 3) pa_nil))) (pa_cons (pe_tup (pa_cons (pv 2) (pa_cons (pv 3) (pa_cons pe_int pa_nil)))) (pa_cons (pe_tup (pa_cons (pv 2) pa_nil)) pa_nil))))))))
      (pss_cons (ps_set (i := 5) sc__law_thing.nd rfl (by first | exact .inl rfl | exact .inr rfl) (pe_op op_addU (pv 5) (pe_lst (pa_cons pe_non (pa_cons pe_bl (pa_cons (pv 2) (pa_cons (pe_op op_addU (pe_op op_addU (pe_callTy call_str_int (by rfl) B.bStr (by decide +kernel) (pa_cons (pv 2) pa_nil)) pe_str) (pe_callTy call_str_int (by rfl) B.bStr (by decide +kernel) (pa_cons (pv 3) pa_nil))) (pa_cons (pe_tup (pa_cons pe_bl (pa_cons pe_int pa_nil))) (pa_cons (pe_tup (pa_cons pe_int (pa_cons pe_bl pa_nil))) (pa_cons (pe_tup (pa_cons (pe_callTy call_str_int (by rfl) B.bStr (by decide +kernel) (pa_cons (pv 2) pa_nil)) (pa_cons (pv 3) pa_nil))) pa_nil))))))))))
      (pss_one (ps_ret (pe_ix (ix_K (K := K)) (pe_op op_addU (pv 5) (pe_lst (pa_cons (pe_tup (pa_cons (pv 2) (pa_cons pe_non pa_nil))) (pa_cons (pe_tup pa_nil) (pa_cons pe_dnewK (pa_cons (pe_tup (pa_cons pe_int (pa_cons (pv 4) pa_nil))) (pa_cons (pe_tup (pa_cons (pe_tup (pa_cons (pv 2) (pa_cons (pv 3) pa_nil))) (pa_cons pe_int pa_nil))) (pa_cons (pe_tup (pa_cons (pe_op op_sub pe_int (pv 4)) (pa_cons (pe_op op_mulU pe_int (pv 4)) pa_nil))) (pa_cons pe_str pa_nil))))))))) (pe_op op_mod (pv 1) pe_int) (fun _ _ => rfl)))))))), fun ds R Ex ⟨p, n, hd, ⟨a, b, hp, b0, hg, sa, sb⟩, cn, h⟩ => ?_⟩
  subst hd hp
  obtain ⟨n0, n1⟩ := cn
  have k0 := Int.emod_nonneg (n.fdiv 32) (show (9 : Int) ≠ 0 by decide)
  have k1 := Int.emod_lt_of_pos (n.fdiv 32) (show (0 : Int) < 9 by decide)
  (try dsimp only [cxOf, Cx.nox, Cx.wish]); change tS K _ _ _ [.val (pt a b), .val (.int n), .emp, .emp, .emp, .emp] _
  repeat walk_at "y"
  obtain ⟨m, hm⟩ : ∃ m, 2 + n.fdiv 32 % 9 = m := ⟨_, rfl⟩
  have m0 : 2 ≤ m := by omega
  have m1 : m ≤ 10 := by omega
  rw [hm]
  have sm : Sm 64 m := by unfold Sm; omega
  repeat walk_at "y"
  have la := strI_len sa
  have lb := strI_len sb
  have l1 : ("/" : Str).length = 1 := rfl
  refine ⟨Nat.lt_trans (sm_log sa) (by decide), ?_⟩
  repeat walk_at "y"
  refine add_str (small_len' (by rw [l1]; omega)) ?_
  repeat walk_at "y"
  refine ⟨Nat.lt_trans (sm_log sb) (by decide), ?_⟩
  refine add_str (small_len' (by rw [Str.length_append, l1]; omega)) ?_
  repeat walk_at "y"
  have q0 := Int.emod_nonneg n (show (20 : Int) ≠ 0 by decide)
  have q1 := Int.emod_lt_of_pos n (show (0 : Int) < 20 by decide)
  refine ⟨Nat.lt_trans (sm_log sa) (by decide), ?_⟩
  repeat walk_at "y"
  obtain ⟨d, hm, hx⟩ := ixd_any (ds := [.tup [.int (a * m), .int (b * m)], .tup [.int (0 - a), .int (0 - b)], .tup [.int a, .int 0], .lst [.int a, .int b], .tup [.int a, .int b, .int 1], .tup [.int a]] ++
        [.non, .bl true, .int a, .str (Str.ofString (toString a) ++ Str.ofString "/" ++ Str.ofString (toString b)), .tup [.bl true, .int 1], .tup [.int 1, .bl true], .tup [.str (Str.ofString (toString a)), .int b]] ++
      [.tup [.int a, .non], .tup [], .dk0, .tup [.int 0, .int m], .tup [.tup [.int a, .int b], .int 1], .tup [.int (0 - m), .int (2 * m)], .str (Str.ofString "1/2")]) q0 (Int.lt_of_lt_of_le q1 (by simp only [List.length_append, List.length_cons, List.length_nil]; omega))
  refine ⟨_, d, rfl, hx, ?_⟩
  simp only [List.cons_append, List.nil_append, List.mem_cons, List.not_mem_nil, or_false] at hm
  rcases hm with rfl | rfl | rfl | rfl | rfl | rfl | rfl | rfl | rfl | rfl | rfl | rfl | rfl | rfl | rfl | rfl | rfl | rfl | rfl | rfl
  · exact h _ (no_pair m0) rfl
  · exact h _ (no_neg (by omega)) rfl
  · exact h _ (no_neg (by omega)) rfl
  iterate 13 (exact h _ rfl rfl)
  · exact h _ (no_zero m0) rfl
  · exact h _ rfl rfl
  · exact h _ (no_half m0) rfl
  · exact h _ rfl rfl
end
end K01
end

section
set_option maxHeartbeats 4000000
namespace K01
open PySem PySem.Spec PyProof.Rows L2 Y
section
variable {K : PySem.W.Frag}
theorem kit_same {C : Addr} : PySem.W.kitOne K (.ref C) (.ref C) = some true := by
  unfold PySem.W.kitOne
  rw [if_pos (beq_self_eq_true _)]
theorem kit_no {C D : Addr} (h1 : (C == D) = false) (h2 : PySem.W.isClsIn K D = true) (h3 : PySem.W.typeIn K (.ref D) = some (.type "type")) (h4 : PySem.W.subIn K (.ref C) (.ref D) = some false) : PySem.W.kitOne K (.ref C) (.ref D) = some false := by
  have h5 : ¬ (Value.ref C == Value.ref D) = true := by
    intro z
    have z2 : C = D := Value.ref.inj (beq_iff_eq.mp z)
    rw [z2, beq_self_eq_true] at h1
    cases h1
  unfold PySem.W.kitOne
  rw [if_neg h5]
  unfold PySem.W.kitCls
  have h6 : ((PySem.W.clsIn K D).isSome && PySem.W.typeIn K (.ref D) == some (.type "type")) = true := by
    rw [h3]
    unfold PySem.W.isClsIn at h2
    rw [h2]
    rfl
  show (if ((PySem.W.clsIn K D).isSome && PySem.W.typeIn K (.ref D) == some (.type "type")) = true then PySem.W.subIn K (.ref C) (.ref D) else none) = _
  rw [if_pos h6, h4]
theorem kit_ve {C : Addr} (h : PySem.W.subIn K (.ref C) (.type "ValueError") = some true) : PySem.W.kitOne K (.ref C) (.type "ValueError") = some true := by
  unfold PySem.W.kitOne
  rw [if_neg (show ¬ (Value.ref C == Value.type "ValueError") = true from fun z => by cases beq_iff_eq.mp z)]
  show (if PySem.W.kitMeta "ValueError" = true then PySem.W.subIn K (.ref C) (.type "ValueError") else none) = _
  rw [if_pos (by decide +kernel), h]
theorem rps_ints {G : Hp} : ∀ ns : List Int, Rps K G (ns.map V.int) (ns.map D.int)
  | [] => .nil
  | n :: ns => .cons (.int n) (rps_ints ns)
theorem law_sp {H : Hp} {a : Addr} {ns : List Int} (hl : ns.length ≤ 63) (hS : SqL K H a (ns.map V.int)) : spD K fs_law [.ref a] H (fun v _ => v = .bl true) fun _ _ _ => False :=
  ⟨H, [.fz (ns.map D.int)], fun r => r = .val (.bl true), fun _ => False, Same.refl H, .cons (.fz hS (rps_ints ns)) .nil, ⟨ns, rfl, hl, rfl⟩, fun r hr v G' H' e k => by
    subst hr
    cases (show Rp K G' v (.bl true) from k)
    rfl, fun c hc => hc.elim⟩
end
theorem all_mk {l : PySem.W.OpenLaw} {w : World} {K : PySem.W.Frag} {h : Heap} {mg : Str → Option Value} {fa : Addr} (X : K.In h) (G : h.Ns mainGlobals mg) (hfa : mg "law" = some (.ref fa))
    {C_WideError : Addr} {C_NoPart : Addr} {C_NoSpan : Addr} {C_NoBox : Addr} {C_NoText : Addr} {C_NoItem : Addr} {C_NoName : Addr} {C_NoWish : Addr} {C_NoChange : Addr} {C_NoRow : Addr} {C_TooMany : Addr} {oc___init__ : Value} {kV___init__ : Value} {doc___init__ : Value} {pm___init__ : Value} {cd___init__ : Value} {ct___init__ : Value} {o1___init__ : Value} {od___init__ : Option Addr} {an___init__ : Option Addr} {o2___init__ : Option Addr} {sl___init__ : Array (Option Value)} {f___init__ : Addr} {T___init__ : Addr} {tn___init__ : Nat} {o3___init__ : Array (Option Value)} {it___init__ : Array Value} {nm_NoPart : Str} {q_NoPart : Str} {N_NoPart : Addr} {bs_NoPart : List Value} {bm_NoPart : List Value} {sn_NoPart : List Str} {sub_NoPart : List Value} {ab_NoPart : Bool} {col_NoPart : Option Bool} {dd_NoPart : Option Addr} {k0_NoPart : Option Value} {k1_NoPart : Option Value} {nv_NoPart : Str} {tk_NoPart : Tok} {k3_NoPart : Option Value} {k5_NoPart : Option Value} {oc_is_whole : Value} {kV_is_whole : Value} {doc_is_whole : Value} {pm_is_whole : Value} {cd_is_whole : Value} {ct_is_whole : Value} {od_is_whole : Option Addr} {an_is_whole : Option Addr} {sl_is_whole : Array (Option Value)} {f_is_whole : Addr} {oc_is_part : Value} {kV_is_part : Value} {doc_is_part : Value} {pm_is_part : Value} {cd_is_part : Value} {ct_is_part : Value} {od_is_part : Option Addr} {an_is_part : Option Addr} {sl_is_part : Array (Option Value)} {f_is_part : Addr} {oc_reduced : Value} {kV_reduced : Value} {doc_reduced : Value} {pm_reduced : Value} {cd_reduced : Value} {ct_reduced : Value} {od_reduced : Option Addr} {an_reduced : Option Addr} {sl_reduced : Array (Option Value)} {f_reduced : Addr} {oc_part_of : Value} {kV_part_of : Value} {doc_part_of : Value} {pm_part_of : Value} {cd_part_of : Value} {ct_part_of : Value} {od_part_of : Option Addr} {an_part_of : Option Addr} {sl_part_of : Array (Option Value)} {f_part_of : Addr} {T_part_of : Addr} {o1_part_of : Value} {o2_part_of : Option Addr} {tn_part_of : Nat} {o3_part_of : Array (Option Value)} {it_part_of : Array Value} {oc_added : Value} {kV_added : Value} {doc_added : Value} {pm_added : Value} {cd_added : Value} {ct_added : Value} {od_added : Option Addr} {an_added : Option Addr} {sl_added : Array (Option Value)} {f_added : Addr} {oc_less : Value} {kV_less : Value} {doc_less : Value} {pm_less : Value} {cd_less : Value} {ct_less : Value} {od_less : Option Addr} {an_less : Option Addr} {sl_less : Array (Option Value)} {f_less : Addr} {oc_product : Value} {kV_product : Value} {doc_product : Value} {pm_product : Value} {cd_product : Value} {ct_product : Value} {od_product : Option Addr} {an_product : Option Addr} {sl_product : Array (Option Value)} {f_product : Addr} {oc_quotient : Value} {kV_quotient : Value} {doc_quotient : Value} {pm_quotient : Value} {cd_quotient : Value} {ct_quotient : Value} {od_quotient : Option Addr} {an_quotient : Option Addr} {sl_quotient : Array (Option Value)} {f_quotient : Addr} {oc_is_more : Value} {kV_is_more : Value} {doc_is_more : Value} {pm_is_more : Value} {cd_is_more : Value} {ct_is_more : Value} {od_is_more : Option Addr} {an_is_more : Option Addr} {sl_is_more : Array (Option Value)} {f_is_more : Addr} {oc_lesser : Value} {kV_lesser : Value} {doc_lesser : Value} {pm_lesser : Value} {cd_lesser : Value} {ct_lesser : Value} {od_lesser : Option Addr} {an_lesser : Option Addr} {sl_lesser : Array (Option Value)} {f_lesser : Addr} {oc_greater : Value} {kV_greater : Value} {doc_greater : Value} {pm_greater : Value} {cd_greater : Value} {ct_greater : Value} {od_greater : Option Addr} {an_greater : Option Addr} {sl_greater : Array (Option Value)} {f_greater : Addr} {oc__law_row : Value} {kV__law_row : Value} {doc__law_row : Value} {pm__law_row : Value} {cd__law_row : Value} {ct__law_row : Value} {od__law_row : Option Addr} {an__law_row : Option Addr} {sl__law_row : Array (Option Value)} {f__law_row : Addr} {oc__law_gcd : Value} {kV__law_gcd : Value} {doc__law_gcd : Value} {pm__law_gcd : Value} {cd__law_gcd : Value} {ct__law_gcd : Value} {od__law_gcd : Option Addr} {an__law_gcd : Option Addr} {sl__law_gcd : Array (Option Value)} {f__law_gcd : Addr} {oc__law_part : Value} {kV__law_part : Value} {doc__law_part : Value} {pm__law_part : Value} {cd__law_part : Value} {ct__law_part : Value} {od__law_part : Option Addr} {an__law_part : Option Addr} {sl__law_part : Array (Option Value)} {f__law_part : Addr} {oc__law_drawn : Value} {kV__law_drawn : Value} {doc__law_drawn : Value} {pm__law_drawn : Value} {cd__law_drawn : Value} {ct__law_drawn : Value} {od__law_drawn : Option Addr} {an__law_drawn : Option Addr} {sl__law_drawn : Array (Option Value)} {f__law_drawn : Addr} {oc__law_of_class : Value} {kV__law_of_class : Value} {doc__law_of_class : Value} {pm__law_of_class : Value} {cd__law_of_class : Value} {ct__law_of_class : Value} {od__law_of_class : Option Addr} {an__law_of_class : Option Addr} {sl__law_of_class : Array (Option Value)} {f__law_of_class : Addr} {oc__law_refused : Value} {kV__law_refused : Value} {doc__law_refused : Value} {pm__law_refused : Value} {cd__law_refused : Value} {ct__law_refused : Value} {od__law_refused : Option Addr} {an__law_refused : Option Addr} {sl__law_refused : Array (Option Value)} {f__law_refused : Addr} {oc__law_is : Value} {kV__law_is : Value} {doc__law_is : Value} {pm__law_is : Value} {cd__law_is : Value} {ct__law_is : Value} {od__law_is : Option Addr} {an__law_is : Option Addr} {sl__law_is : Array (Option Value)} {f__law_is : Addr} {oc__law_made : Value} {kV__law_made : Value} {doc__law_made : Value} {pm__law_made : Value} {cd__law_made : Value} {ct__law_made : Value} {od__law_made : Option Addr} {an__law_made : Option Addr} {sl__law_made : Array (Option Value)} {f__law_made : Addr} {oc__law_right : Value} {kV__law_right : Value} {doc__law_right : Value} {pm__law_right : Value} {cd__law_right : Value} {ct__law_right : Value} {od__law_right : Option Addr} {an__law_right : Option Addr} {sl__law_right : Array (Option Value)} {f__law_right : Addr} {oc__law_thing : Value} {kV__law_thing : Value} {doc__law_thing : Value} {pm__law_thing : Value} {cd__law_thing : Value} {ct__law_thing : Value} {od__law_thing : Option Addr} {an__law_thing : Option Addr} {sl__law_thing : Array (Option Value)} {f__law_thing : Addr} {oc__law_looked_at : Value} {kV__law_looked_at : Value} {doc__law_looked_at : Value} {pm__law_looked_at : Value} {cd__law_looked_at : Value} {ct__law_looked_at : Value} {od__law_looked_at : Option Addr} {an__law_looked_at : Option Addr} {sl__law_looked_at : Array (Option Value)} {f__law_looked_at : Addr} {oc_law : Value} {kV_law : Value} {doc_law : Value} {pm_law : Value} {cd_law : Value} {ct_law : Value} {od_law : Option Addr} {an_law : Option Addr} {sl_law : Array (Option Value)} {f_law : Addr}
    (z_len : PySem.W.nsIn K mainGlobals "len" = some none)
    (z_isinstance : PySem.W.nsIn K mainGlobals "isinstance" = some none)
    (z_range : PySem.W.nsIn K mainGlobals "range" = some none)
    (z_int : PySem.W.nsIn K mainGlobals "int" = some none)
    (z_str : PySem.W.nsIn K mainGlobals "str" = some none)
    (z_list : PySem.W.nsIn K mainGlobals "list" = some none)
    (z_tuple : PySem.W.nsIn K mainGlobals "tuple" = some none)
    (z_bool : PySem.W.nsIn K mainGlobals "bool" = some none)
    (z_abs : PySem.W.nsIn K mainGlobals "abs" = some none)
    (z_max : PySem.W.nsIn K mainGlobals "max" = some none)
    (z_min : PySem.W.nsIn K mainGlobals "min" = some none)
    (z_all : PySem.W.nsIn K mainGlobals "all" = some none)
    (z_any : PySem.W.nsIn K mainGlobals "any" = some none)
    (z_enumerate : PySem.W.nsIn K mainGlobals "enumerate" = some none)
    (z_zip : PySem.W.nsIn K mainGlobals "zip" = some none)
    (z_repr : PySem.W.nsIn K mainGlobals "repr" = some none)
    (z_sum : PySem.W.nsIn K mainGlobals "sum" = some none)
    (z_sorted : PySem.W.nsIn K mainGlobals "sorted" = some none)
    (z_ValueError : PySem.W.nsIn K mainGlobals "ValueError" = some none)
    (zgcd : PySem.W.nsIn K mainGlobals "gcd" = some (some (.builtin "math.gcd")))
    (g_WideError : PySem.W.nsIn K mainGlobals "WideError" = some (some (.ref C_WideError)))
    (g_NoPart : PySem.W.nsIn K mainGlobals "NoPart" = some (some (.ref C_NoPart)))
    (g_NoSpan : PySem.W.nsIn K mainGlobals "NoSpan" = some (some (.ref C_NoSpan)))
    (g_NoBox : PySem.W.nsIn K mainGlobals "NoBox" = some (some (.ref C_NoBox)))
    (g_NoText : PySem.W.nsIn K mainGlobals "NoText" = some (some (.ref C_NoText)))
    (g_NoItem : PySem.W.nsIn K mainGlobals "NoItem" = some (some (.ref C_NoItem)))
    (g_NoName : PySem.W.nsIn K mainGlobals "NoName" = some (some (.ref C_NoName)))
    (g_NoWish : PySem.W.nsIn K mainGlobals "NoWish" = some (some (.ref C_NoWish)))
    (g_NoChange : PySem.W.nsIn K mainGlobals "NoChange" = some (some (.ref C_NoChange)))
    (g_NoRow : PySem.W.nsIn K mainGlobals "NoRow" = some (some (.ref C_NoRow)))
    (g_TooMany : PySem.W.nsIn K mainGlobals "TooMany" = some (some (.ref C_TooMany)))
    (vV : PySem.W.findCls K (.type "ValueError") (.type "type") "__init__" = some (.val (.builtin "ValueError.__init__")))
    (i___init__ : PySem.W.findIn K (.ref C_NoPart) "__init__" = some (some (.ref f___init__)))
    (l___init__ : K.lookup f___init__ = some ⟨oc___init__, od___init__, .func (PySem.W.fnOf "__init__" "WideError.__init__" (defArgs s___init__) (defBody s___init__) (defScope s___init__) (.ref T___init__) kV___init__ doc___init__ pm___init__ an___init__ cd___init__ ct___init__), sl___init__⟩)
    (c___init__ : PySem.W.codeIn K cd___init__ "WideError.__init__" = true)
    (k___init__ : PySem.W.keepIn K (.ref f___init__) = true)
    (ti___init__ : PySem.W.typeIn K (.ref f___init__) = some (.type "function"))
    (lt___init__ : K.lookup T___init__ = some ⟨o1___init__, o2___init__, .seq it___init__ tn___init__, o3___init__⟩)
    (iv___init__ : ∃ its : List Value, it___init__ = its.toArray ∧ Vals [.str ""] its)
    (xo_NoPart : K.lookup C_NoPart = some (excClassObj nm_NoPart q_NoPart C_NoPart N_NoPart bs_NoPart bm_NoPart true sn_NoPart sub_NoPart ab_NoPart col_NoPart dd_NoPart k0_NoPart k1_NoPart (some (.str nv_NoPart tk_NoPart)) k3_NoPart k5_NoPart "ValueError.__new__"))
    (xm_NoPart : PySem.HandSPX.refsVE bm_NoPart = true)
    (xs_NoPart : PySem.W.findIn K (.ref C_NoPart) "__setattr__" = some (some (.builtin "object.__setattr__")))
    (xk_NoPart : PySem.W.findIn K (.ref C_NoPart) "kind" = some none)
    (xr_NoPart : PySem.W.readsIn K C_NoPart (.type "type") = true)
    (xf_NoPart : PySem.W.findCls K (.ref C_NoPart) (.type "type") "__name__" = some (.get (.builtin "getset_descriptor.__get__") (.builtin "type.__name__") (.ref C_NoPart) (.type "type")))
    (kk_NoPart : PySem.W.keepIn K (.ref C_NoPart) = true)
    (tt_NoPart : PySem.W.typeIn K (.ref C_NoPart) = some (.type "type"))
    (e1_NoPart : PySem.W.findIn K (.ref C_NoPart) "__getattribute__" = some (some (.builtin "BaseException.__getattribute__")))
    (e2_NoPart : PySem.W.findIn K (.ref C_NoPart) "__getattr__" = some none)
    (e3_NoPart : PySem.W.subIn K (.ref C_NoPart) (.type "BaseException") = some true)
    (e4_NoPart : PySem.W.hasDictIn K C_NoPart = true)
    (e5_NoPart : PySem.W.findIn K (.ref C_NoPart) "__class__" = some (some (.builtin "object.__class__")))
    (e6_NoPart : PySem.W.specialIn K (.builtin "object.__class__") "__get__" = some (some (.builtin "getset_descriptor.__get__")))
    (e7_NoPart : PySem.W.takesIn K (.builtin "object.__class__") = some true)
    (e8_NoPart : PySem.W.mroIn K C_NoPart (.type "object") = some true)
    (w1 : PySem.W.subIn K (.ref C_WideError) (.type "BaseException") = some true)
    (w2 : PySem.W.hasDictIn K C_WideError = true)
    (w3 : PySem.W.typeIn K (.ref C_WideError) = some (.type "type"))
    (w4_NoPart : PySem.W.subIn K (.ref C_NoPart) (.ref C_WideError) = some true)
    (kve : PySem.W.subIn K (.ref C_NoPart) (.type "ValueError") = some true)
    (kn1_NoSpan : (C_NoPart == C_NoSpan) = false)
    (kn2_NoSpan : PySem.W.isClsIn K C_NoSpan = true)
    (kn3_NoSpan : PySem.W.typeIn K (.ref C_NoSpan) = some (.type "type"))
    (kn4_NoSpan : PySem.W.subIn K (.ref C_NoPart) (.ref C_NoSpan) = some false)
    (kn1_NoBox : (C_NoPart == C_NoBox) = false)
    (kn2_NoBox : PySem.W.isClsIn K C_NoBox = true)
    (kn3_NoBox : PySem.W.typeIn K (.ref C_NoBox) = some (.type "type"))
    (kn4_NoBox : PySem.W.subIn K (.ref C_NoPart) (.ref C_NoBox) = some false)
    (kn1_NoText : (C_NoPart == C_NoText) = false)
    (kn2_NoText : PySem.W.isClsIn K C_NoText = true)
    (kn3_NoText : PySem.W.typeIn K (.ref C_NoText) = some (.type "type"))
    (kn4_NoText : PySem.W.subIn K (.ref C_NoPart) (.ref C_NoText) = some false)
    (kn1_NoItem : (C_NoPart == C_NoItem) = false)
    (kn2_NoItem : PySem.W.isClsIn K C_NoItem = true)
    (kn3_NoItem : PySem.W.typeIn K (.ref C_NoItem) = some (.type "type"))
    (kn4_NoItem : PySem.W.subIn K (.ref C_NoPart) (.ref C_NoItem) = some false)
    (kn1_NoName : (C_NoPart == C_NoName) = false)
    (kn2_NoName : PySem.W.isClsIn K C_NoName = true)
    (kn3_NoName : PySem.W.typeIn K (.ref C_NoName) = some (.type "type"))
    (kn4_NoName : PySem.W.subIn K (.ref C_NoPart) (.ref C_NoName) = some false)
    (kn1_NoWish : (C_NoPart == C_NoWish) = false)
    (kn2_NoWish : PySem.W.isClsIn K C_NoWish = true)
    (kn3_NoWish : PySem.W.typeIn K (.ref C_NoWish) = some (.type "type"))
    (kn4_NoWish : PySem.W.subIn K (.ref C_NoPart) (.ref C_NoWish) = some false)
    (kn1_NoChange : (C_NoPart == C_NoChange) = false)
    (kn2_NoChange : PySem.W.isClsIn K C_NoChange = true)
    (kn3_NoChange : PySem.W.typeIn K (.ref C_NoChange) = some (.type "type"))
    (kn4_NoChange : PySem.W.subIn K (.ref C_NoPart) (.ref C_NoChange) = some false)
    (kn1_NoRow : (C_NoPart == C_NoRow) = false)
    (kn2_NoRow : PySem.W.isClsIn K C_NoRow = true)
    (kn3_NoRow : PySem.W.typeIn K (.ref C_NoRow) = some (.type "type"))
    (kn4_NoRow : PySem.W.subIn K (.ref C_NoPart) (.ref C_NoRow) = some false)
    (kn1_TooMany : (C_NoPart == C_TooMany) = false)
    (kn2_TooMany : PySem.W.isClsIn K C_TooMany = true)
    (kn3_TooMany : PySem.W.typeIn K (.ref C_TooMany) = some (.type "type"))
    (kn4_TooMany : PySem.W.subIn K (.ref C_NoPart) (.ref C_TooMany) = some false)
    (a_is_whole : PySem.W.nsIn K mainGlobals "is_whole" = some (some (.ref f_is_whole)))
    (l_is_whole : K.lookup f_is_whole = some ⟨oc_is_whole, od_is_whole, .func (PySem.W.fnOf "is_whole" "is_whole" (defArgs s_is_whole) (defBody s_is_whole) (defScope s_is_whole) .none kV_is_whole doc_is_whole pm_is_whole an_is_whole cd_is_whole ct_is_whole), sl_is_whole⟩)
    (c_is_whole : PySem.W.codeIn K cd_is_whole "is_whole" = true)
    (k_is_whole : PySem.W.keepIn K (.ref f_is_whole) = true)
    (a_is_part : PySem.W.nsIn K mainGlobals "is_part" = some (some (.ref f_is_part)))
    (l_is_part : K.lookup f_is_part = some ⟨oc_is_part, od_is_part, .func (PySem.W.fnOf "is_part" "is_part" (defArgs s_is_part) (defBody s_is_part) (defScope s_is_part) .none kV_is_part doc_is_part pm_is_part an_is_part cd_is_part ct_is_part), sl_is_part⟩)
    (c_is_part : PySem.W.codeIn K cd_is_part "is_part" = true)
    (k_is_part : PySem.W.keepIn K (.ref f_is_part) = true)
    (a_reduced : PySem.W.nsIn K mainGlobals "reduced" = some (some (.ref f_reduced)))
    (l_reduced : K.lookup f_reduced = some ⟨oc_reduced, od_reduced, .func (PySem.W.fnOf "reduced" "reduced" (defArgs s_reduced) (defBody s_reduced) (defScope s_reduced) .none kV_reduced doc_reduced pm_reduced an_reduced cd_reduced ct_reduced), sl_reduced⟩)
    (c_reduced : PySem.W.codeIn K cd_reduced "reduced" = true)
    (k_reduced : PySem.W.keepIn K (.ref f_reduced) = true)
    (a_part_of : PySem.W.nsIn K mainGlobals "part_of" = some (some (.ref f_part_of)))
    (l_part_of : K.lookup f_part_of = some ⟨oc_part_of, od_part_of, .func (PySem.W.fnOf "part_of" "part_of" (defArgs s_part_of) (defBody s_part_of) (defScope s_part_of) (.ref T_part_of) kV_part_of doc_part_of pm_part_of an_part_of cd_part_of ct_part_of), sl_part_of⟩)
    (c_part_of : PySem.W.codeIn K cd_part_of "part_of" = true)
    (k_part_of : PySem.W.keepIn K (.ref f_part_of) = true)
    (lt_part_of : K.lookup T_part_of = some ⟨o1_part_of, o2_part_of, .seq it_part_of tn_part_of, o3_part_of⟩)
    (iv_part_of : ∃ its : List Value, it_part_of = its.toArray ∧ Vals [.int 1] its)
    (a_added : PySem.W.nsIn K mainGlobals "added" = some (some (.ref f_added)))
    (l_added : K.lookup f_added = some ⟨oc_added, od_added, .func (PySem.W.fnOf "added" "added" (defArgs s_added) (defBody s_added) (defScope s_added) .none kV_added doc_added pm_added an_added cd_added ct_added), sl_added⟩)
    (c_added : PySem.W.codeIn K cd_added "added" = true)
    (k_added : PySem.W.keepIn K (.ref f_added) = true)
    (a_less : PySem.W.nsIn K mainGlobals "less" = some (some (.ref f_less)))
    (l_less : K.lookup f_less = some ⟨oc_less, od_less, .func (PySem.W.fnOf "less" "less" (defArgs s_less) (defBody s_less) (defScope s_less) .none kV_less doc_less pm_less an_less cd_less ct_less), sl_less⟩)
    (c_less : PySem.W.codeIn K cd_less "less" = true)
    (k_less : PySem.W.keepIn K (.ref f_less) = true)
    (a_product : PySem.W.nsIn K mainGlobals "product" = some (some (.ref f_product)))
    (l_product : K.lookup f_product = some ⟨oc_product, od_product, .func (PySem.W.fnOf "product" "product" (defArgs s_product) (defBody s_product) (defScope s_product) .none kV_product doc_product pm_product an_product cd_product ct_product), sl_product⟩)
    (c_product : PySem.W.codeIn K cd_product "product" = true)
    (k_product : PySem.W.keepIn K (.ref f_product) = true)
    (a_quotient : PySem.W.nsIn K mainGlobals "quotient" = some (some (.ref f_quotient)))
    (l_quotient : K.lookup f_quotient = some ⟨oc_quotient, od_quotient, .func (PySem.W.fnOf "quotient" "quotient" (defArgs s_quotient) (defBody s_quotient) (defScope s_quotient) .none kV_quotient doc_quotient pm_quotient an_quotient cd_quotient ct_quotient), sl_quotient⟩)
    (c_quotient : PySem.W.codeIn K cd_quotient "quotient" = true)
    (k_quotient : PySem.W.keepIn K (.ref f_quotient) = true)
    (a_is_more : PySem.W.nsIn K mainGlobals "is_more" = some (some (.ref f_is_more)))
    (l_is_more : K.lookup f_is_more = some ⟨oc_is_more, od_is_more, .func (PySem.W.fnOf "is_more" "is_more" (defArgs s_is_more) (defBody s_is_more) (defScope s_is_more) .none kV_is_more doc_is_more pm_is_more an_is_more cd_is_more ct_is_more), sl_is_more⟩)
    (c_is_more : PySem.W.codeIn K cd_is_more "is_more" = true)
    (k_is_more : PySem.W.keepIn K (.ref f_is_more) = true)
    (a_lesser : PySem.W.nsIn K mainGlobals "lesser" = some (some (.ref f_lesser)))
    (l_lesser : K.lookup f_lesser = some ⟨oc_lesser, od_lesser, .func (PySem.W.fnOf "lesser" "lesser" (defArgs s_lesser) (defBody s_lesser) (defScope s_lesser) .none kV_lesser doc_lesser pm_lesser an_lesser cd_lesser ct_lesser), sl_lesser⟩)
    (c_lesser : PySem.W.codeIn K cd_lesser "lesser" = true)
    (k_lesser : PySem.W.keepIn K (.ref f_lesser) = true)
    (a_greater : PySem.W.nsIn K mainGlobals "greater" = some (some (.ref f_greater)))
    (l_greater : K.lookup f_greater = some ⟨oc_greater, od_greater, .func (PySem.W.fnOf "greater" "greater" (defArgs s_greater) (defBody s_greater) (defScope s_greater) .none kV_greater doc_greater pm_greater an_greater cd_greater ct_greater), sl_greater⟩)
    (c_greater : PySem.W.codeIn K cd_greater "greater" = true)
    (k_greater : PySem.W.keepIn K (.ref f_greater) = true)
    (a__law_row : PySem.W.nsIn K mainGlobals "_law_row" = some (some (.ref f__law_row)))
    (l__law_row : K.lookup f__law_row = some ⟨oc__law_row, od__law_row, .func (PySem.W.fnOf "_law_row" "_law_row" (defArgs s__law_row) (defBody s__law_row) (defScope s__law_row) .none kV__law_row doc__law_row pm__law_row an__law_row cd__law_row ct__law_row), sl__law_row⟩)
    (c__law_row : PySem.W.codeIn K cd__law_row "_law_row" = true)
    (k__law_row : PySem.W.keepIn K (.ref f__law_row) = true)
    (a__law_gcd : PySem.W.nsIn K mainGlobals "_law_gcd" = some (some (.ref f__law_gcd)))
    (l__law_gcd : K.lookup f__law_gcd = some ⟨oc__law_gcd, od__law_gcd, .func (PySem.W.fnOf "_law_gcd" "_law_gcd" (defArgs s__law_gcd) (defBody s__law_gcd) (defScope s__law_gcd) .none kV__law_gcd doc__law_gcd pm__law_gcd an__law_gcd cd__law_gcd ct__law_gcd), sl__law_gcd⟩)
    (c__law_gcd : PySem.W.codeIn K cd__law_gcd "_law_gcd" = true)
    (k__law_gcd : PySem.W.keepIn K (.ref f__law_gcd) = true)
    (a__law_part : PySem.W.nsIn K mainGlobals "_law_part" = some (some (.ref f__law_part)))
    (l__law_part : K.lookup f__law_part = some ⟨oc__law_part, od__law_part, .func (PySem.W.fnOf "_law_part" "_law_part" (defArgs s__law_part) (defBody s__law_part) (defScope s__law_part) .none kV__law_part doc__law_part pm__law_part an__law_part cd__law_part ct__law_part), sl__law_part⟩)
    (c__law_part : PySem.W.codeIn K cd__law_part "_law_part" = true)
    (k__law_part : PySem.W.keepIn K (.ref f__law_part) = true)
    (a__law_drawn : PySem.W.nsIn K mainGlobals "_law_drawn" = some (some (.ref f__law_drawn)))
    (l__law_drawn : K.lookup f__law_drawn = some ⟨oc__law_drawn, od__law_drawn, .func (PySem.W.fnOf "_law_drawn" "_law_drawn" (defArgs s__law_drawn) (defBody s__law_drawn) (defScope s__law_drawn) .none kV__law_drawn doc__law_drawn pm__law_drawn an__law_drawn cd__law_drawn ct__law_drawn), sl__law_drawn⟩)
    (c__law_drawn : PySem.W.codeIn K cd__law_drawn "_law_drawn" = true)
    (k__law_drawn : PySem.W.keepIn K (.ref f__law_drawn) = true)
    (a__law_of_class : PySem.W.nsIn K mainGlobals "_law_of_class" = some (some (.ref f__law_of_class)))
    (l__law_of_class : K.lookup f__law_of_class = some ⟨oc__law_of_class, od__law_of_class, .func (PySem.W.fnOf "_law_of_class" "_law_of_class" (defArgs s__law_of_class) (defBody s__law_of_class) (defScope s__law_of_class) .none kV__law_of_class doc__law_of_class pm__law_of_class an__law_of_class cd__law_of_class ct__law_of_class), sl__law_of_class⟩)
    (c__law_of_class : PySem.W.codeIn K cd__law_of_class "_law_of_class" = true)
    (k__law_of_class : PySem.W.keepIn K (.ref f__law_of_class) = true)
    (a__law_refused : PySem.W.nsIn K mainGlobals "_law_refused" = some (some (.ref f__law_refused)))
    (l__law_refused : K.lookup f__law_refused = some ⟨oc__law_refused, od__law_refused, .func (PySem.W.fnOf "_law_refused" "_law_refused" (defArgs s__law_refused) (defBody s__law_refused) (defScope s__law_refused) .none kV__law_refused doc__law_refused pm__law_refused an__law_refused cd__law_refused ct__law_refused), sl__law_refused⟩)
    (c__law_refused : PySem.W.codeIn K cd__law_refused "_law_refused" = true)
    (k__law_refused : PySem.W.keepIn K (.ref f__law_refused) = true)
    (a__law_is : PySem.W.nsIn K mainGlobals "_law_is" = some (some (.ref f__law_is)))
    (l__law_is : K.lookup f__law_is = some ⟨oc__law_is, od__law_is, .func (PySem.W.fnOf "_law_is" "_law_is" (defArgs s__law_is) (defBody s__law_is) (defScope s__law_is) .none kV__law_is doc__law_is pm__law_is an__law_is cd__law_is ct__law_is), sl__law_is⟩)
    (c__law_is : PySem.W.codeIn K cd__law_is "_law_is" = true)
    (k__law_is : PySem.W.keepIn K (.ref f__law_is) = true)
    (a__law_made : PySem.W.nsIn K mainGlobals "_law_made" = some (some (.ref f__law_made)))
    (l__law_made : K.lookup f__law_made = some ⟨oc__law_made, od__law_made, .func (PySem.W.fnOf "_law_made" "_law_made" (defArgs s__law_made) (defBody s__law_made) (defScope s__law_made) .none kV__law_made doc__law_made pm__law_made an__law_made cd__law_made ct__law_made), sl__law_made⟩)
    (c__law_made : PySem.W.codeIn K cd__law_made "_law_made" = true)
    (k__law_made : PySem.W.keepIn K (.ref f__law_made) = true)
    (a__law_right : PySem.W.nsIn K mainGlobals "_law_right" = some (some (.ref f__law_right)))
    (l__law_right : K.lookup f__law_right = some ⟨oc__law_right, od__law_right, .func (PySem.W.fnOf "_law_right" "_law_right" (defArgs s__law_right) (defBody s__law_right) (defScope s__law_right) .none kV__law_right doc__law_right pm__law_right an__law_right cd__law_right ct__law_right), sl__law_right⟩)
    (c__law_right : PySem.W.codeIn K cd__law_right "_law_right" = true)
    (k__law_right : PySem.W.keepIn K (.ref f__law_right) = true)
    (a__law_thing : PySem.W.nsIn K mainGlobals "_law_thing" = some (some (.ref f__law_thing)))
    (l__law_thing : K.lookup f__law_thing = some ⟨oc__law_thing, od__law_thing, .func (PySem.W.fnOf "_law_thing" "_law_thing" (defArgs s__law_thing) (defBody s__law_thing) (defScope s__law_thing) .none kV__law_thing doc__law_thing pm__law_thing an__law_thing cd__law_thing ct__law_thing), sl__law_thing⟩)
    (c__law_thing : PySem.W.codeIn K cd__law_thing "_law_thing" = true)
    (k__law_thing : PySem.W.keepIn K (.ref f__law_thing) = true)
    (a__law_looked_at : PySem.W.nsIn K mainGlobals "_law_looked_at" = some (some (.ref f__law_looked_at)))
    (l__law_looked_at : K.lookup f__law_looked_at = some ⟨oc__law_looked_at, od__law_looked_at, .func (PySem.W.fnOf "_law_looked_at" "_law_looked_at" (defArgs s__law_looked_at) (defBody s__law_looked_at) (defScope s__law_looked_at) .none kV__law_looked_at doc__law_looked_at pm__law_looked_at an__law_looked_at cd__law_looked_at ct__law_looked_at), sl__law_looked_at⟩)
    (c__law_looked_at : PySem.W.codeIn K cd__law_looked_at "_law_looked_at" = true)
    (k__law_looked_at : PySem.W.keepIn K (.ref f__law_looked_at) = true)
    (a_law : PySem.W.nsIn K mainGlobals "law" = some (some (.ref f_law)))
    (l_law : K.lookup f_law = some ⟨oc_law, od_law, .func (PySem.W.fnOf "law" "law" (defArgs s_law) (defBody s_law) (defScope s_law) .none kV_law doc_law pm_law an_law cd_law ct_law), sl_law⟩)
    (c_law : PySem.W.codeIn K cd_law "law" = true)
    (k_law : PySem.W.keepIn K (.ref f_law) = true)
    : ∃ fd : FuncData, (∀ (s : Shared) (v : Value), BindsTo s fd ⟨[v], []⟩ [("_law_script", v)]) ∧ ∀ base : Heap, K.In base → base.Ns mainGlobals mg → FnOk l.prog w K mg base CX0 6 fa fd ["_law_script"] (spD K fs_law) := by
  have efa : f_law = fa := by
    have z := (PySem.W.mg_of X G a_law).symm.trans hfa
    injection z with z
    injection z
  subst efa
  refine ⟨PySem.W.fnOf "law" "law" (defArgs s_law) (defBody s_law) (defScope s_law) .none kV_law doc_law pm_law an_law cd_law ct_law, fun s v => BindsTo.of_looks fun M => .of_pure rfl, fun base KB GB => ?_⟩
  generalize hP : l.prog = P
  clear hP
  have B : Bl mg := ⟨PySem.W.mg_none_of X G z_len, PySem.W.mg_none_of X G z_isinstance, PySem.W.mg_none_of X G z_range, PySem.W.mg_none_of X G z_int, PySem.W.mg_none_of X G z_str, PySem.W.mg_none_of X G z_list, PySem.W.mg_none_of X G z_tuple, PySem.W.mg_none_of X G z_bool, PySem.W.mg_none_of X G z_abs, PySem.W.mg_none_of X G z_max, PySem.W.mg_none_of X G z_min, PySem.W.mg_none_of X G z_all, PySem.W.mg_none_of X G z_any, PySem.W.mg_none_of X G z_enumerate, PySem.W.mg_none_of X G z_zip, PySem.W.mg_none_of X G z_repr, PySem.W.mg_none_of X G z_sum, PySem.W.mg_none_of X G z_sorted, PySem.W.mg_none_of X G z_ValueError⟩
  have i_gcd : mg "gcd" = some (.builtin "math.gcd") := PySem.W.mg_of X G zgcd
  have c_WideError : Cl mg "WideError" C_WideError := ⟨PySem.W.mg_of X G g_WideError⟩
  have c_NoPart : Cl mg "NoPart" C_NoPart := ⟨PySem.W.mg_of X G g_NoPart⟩
  have c_NoSpan : Cl mg "NoSpan" C_NoSpan := ⟨PySem.W.mg_of X G g_NoSpan⟩
  have c_NoBox : Cl mg "NoBox" C_NoBox := ⟨PySem.W.mg_of X G g_NoBox⟩
  have c_NoText : Cl mg "NoText" C_NoText := ⟨PySem.W.mg_of X G g_NoText⟩
  have c_NoItem : Cl mg "NoItem" C_NoItem := ⟨PySem.W.mg_of X G g_NoItem⟩
  have c_NoName : Cl mg "NoName" C_NoName := ⟨PySem.W.mg_of X G g_NoName⟩
  have c_NoWish : Cl mg "NoWish" C_NoWish := ⟨PySem.W.mg_of X G g_NoWish⟩
  have c_NoChange : Cl mg "NoChange" C_NoChange := ⟨PySem.W.mg_of X G g_NoChange⟩
  have c_NoRow : Cl mg "NoRow" C_NoRow := ⟨PySem.W.mg_of X G g_NoRow⟩
  have c_TooMany : Cl mg "TooMany" C_TooMany := ⟨PySem.W.mg_of X G g_TooMany⟩
  obtain ⟨its___init__, ite___init__, itv___init__⟩ := iv___init__
  have F___init__ : FunD K "__init__" "WideError.__init__" (defArgs s___init__) (defBody s___init__) (defScope s___init__) [.str ""] [] f___init__ _ := ⟨⟨oc___init__, od___init__, .ref T___init__, kV___init__, doc___init__, pm___init__, an___init__, cd___init__, ct___init__, sl___init__, rfl, l___init__, c___init__, .inr ⟨(fun h => by cases h), T___init__, _, its___init__, tn___init__, rfl, lt___init__, by rw [ite___init__], itv___init__⟩, .inl rfl⟩, k___init__⟩
  have b1___init__ := F___init__.binds1 (ps := ["self", "why"]) 2 1 (fun h => by cases h) rfl (fun _ _ _ _ _ _ _ us its hl hi => match us, hl, its, hi with | [_, _], _, [_], _ => ⟨_, rfl, rfl⟩)
  obtain ⟨ds1___init__, dv1___init__, db1___init__⟩ := b1___init__
  cases dv1___init__
  have io : InitOk P w K mg base f___init__ := ⟨ti___init__, _, db1___init__, ok_init B vV F___init__⟩
  have xc_NoPart : ExcC K C_NoPart := ⟨e1_NoPart, e2_NoPart, e3_NoPart, e4_NoPart, e5_NoPart, e6_NoPart, e7_NoPart, e8_NoPart⟩
  have r_NoPart : ClR P w K mg base C_NoPart := ⟨⟨⟨_, _, _, _, _, _, _, _, _, _, _, _, _, _, _, xo_NoPart, xm_NoPart⟩, xs_NoPart, e3_NoPart, tt_NoPart, kk_NoPart⟩, ⟨_, xc_NoPart, ⟨_, _, xo_NoPart, rfl⟩, tt_NoPart, xr_NoPart, xf_NoPart⟩, xk_NoPart, tt_NoPart, _, i___init__, io⟩
  have hx : PySem.W.exmOne K (.ref C_NoPart) (.ref C_WideError) = some true := PySem.W.exm_ref w1 w2 w3 w4_NoPart
  have kx : KitX K C_NoPart "NoPart" C_NoPart C_NoSpan C_NoBox C_NoText C_NoItem C_NoName C_NoWish C_NoChange C_NoRow C_TooMany := ⟨xc_NoPart, kit_ve kve, kit_same, (kit_no kn1_NoSpan kn2_NoSpan kn3_NoSpan kn4_NoSpan), (kit_no kn1_NoBox kn2_NoBox kn3_NoBox kn4_NoBox), (kit_no kn1_NoText kn2_NoText kn3_NoText kn4_NoText), (kit_no kn1_NoItem kn2_NoItem kn3_NoItem kn4_NoItem), (kit_no kn1_NoName kn2_NoName kn3_NoName kn4_NoName), (kit_no kn1_NoWish kn2_NoWish kn3_NoWish kn4_NoWish), (kit_no kn1_NoChange kn2_NoChange kn3_NoChange kn4_NoChange), (kit_no kn1_NoRow kn2_NoRow kn3_NoRow kn4_NoRow), (kit_no kn1_TooMany kn2_TooMany kn3_TooMany kn4_TooMany)⟩
  have F_is_whole : Fun K "is_whole" "is_whole" s_is_whole f_is_whole _ := fun_mk l_is_whole c_is_whole k_is_whole
  have d_is_whole : Dfn P w K mg base CX0 "is_whole" ["thing"] 2 fs_is_whole := ⟨f_is_whole, _, PySem.W.mg_of X G a_is_whole, k_is_whole, F_is_whole.binds (fun _ _ _ _ _ _ us hl => match us, hl with | [_], _ => rfl), ok_is_whole (B := B) (F := F_is_whole)⟩
  have F_is_part : Fun K "is_part" "is_part" s_is_part f_is_part _ := fun_mk l_is_part c_is_part k_is_part
  have d_is_part : Dfn P w K mg base CX0 "is_part" ["thing"] 3 fs_is_part := ⟨f_is_part, _, PySem.W.mg_of X G a_is_part, k_is_part, F_is_part.binds (fun _ _ _ _ _ _ us hl => match us, hl with | [_], _ => rfl), ok_is_part (B := B) (i_gcd := i_gcd) (d_is_whole := d_is_whole) (F := F_is_part)⟩
  have F_reduced : Fun K "reduced" "reduced" s_reduced f_reduced _ := fun_mk l_reduced c_reduced k_reduced
  have d_reduced : Dfn P w K mg base CX0 "reduced" ["top", "bottom"] 2 fs_reduced := ⟨f_reduced, _, PySem.W.mg_of X G a_reduced, k_reduced, F_reduced.binds (fun _ _ _ _ _ _ us hl => match us, hl with | [_, _], _ => rfl), ok_reduced (B := B) (i_gcd := i_gcd) (F := F_reduced)⟩
  obtain ⟨its_part_of, ite_part_of, itv_part_of⟩ := iv_part_of
  have F_part_of : FunD K "part_of" "part_of" (defArgs s_part_of) (defBody s_part_of) (defScope s_part_of) [.int 1] [] f_part_of _ := ⟨⟨oc_part_of, od_part_of, .ref T_part_of, kV_part_of, doc_part_of, pm_part_of, an_part_of, cd_part_of, ct_part_of, sl_part_of, rfl, l_part_of, c_part_of, .inr ⟨(fun h => by cases h), T_part_of, _, its_part_of, tn_part_of, rfl, lt_part_of, by rw [ite_part_of], itv_part_of⟩, .inl rfl⟩, k_part_of⟩
  have b0_part_of := F_part_of.binds1 (ps := ["top", "bottom"]) 1 0 (fun h => by cases h) rfl (fun _ _ _ _ _ _ _ us its hl hi => match us, hl, its, hi with | [_], _, [_], _ => ⟨_, rfl, rfl⟩)
  obtain ⟨ds0_part_of, dv0_part_of, db0_part_of⟩ := b0_part_of
  have d_part_of_1 : DfnD P w K mg base (L2.CX P w) "part_of" ["top", "bottom"] [.int 1] 3 (fs_part_of C_NoPart) := ⟨f_part_of, _, _, PySem.W.mg_of X G a_part_of, k_part_of, dv0_part_of, db0_part_of, ok_part_of (C := C_NoPart) (B := B) (i_gcd := i_gcd) (c_NoPart := c_NoPart) (r_NoPart := r_NoPart) (d_is_whole := d_is_whole) (d_reduced := d_reduced) (F := F_part_of)⟩
  have b1_part_of := F_part_of.binds1 (ps := ["top", "bottom"]) 2 1 (fun h => by cases h) rfl (fun _ _ _ _ _ _ _ us its hl hi => match us, hl, its, hi with | [_, _], _, [_], _ => ⟨_, rfl, rfl⟩)
  obtain ⟨ds1_part_of, dv1_part_of, db1_part_of⟩ := b1_part_of
  cases dv1_part_of
  have d_part_of : Dfn P w K mg base (L2.CX P w) "part_of" ["top", "bottom"] 3 (fs_part_of C_NoPart) := ⟨f_part_of, _, PySem.W.mg_of X G a_part_of, k_part_of, db1_part_of, ok_part_of (C := C_NoPart) (B := B) (i_gcd := i_gcd) (c_NoPart := c_NoPart) (r_NoPart := r_NoPart) (d_is_whole := d_is_whole) (d_reduced := d_reduced) (F := F_part_of)⟩
  have F_added : Fun K "added" "added" s_added f_added _ := fun_mk l_added c_added k_added
  have d_added : Dfn P w K mg base CX0 "added" ["one", "other"] 4 fs_added := ⟨f_added, _, PySem.W.mg_of X G a_added, k_added, F_added.binds (fun _ _ _ _ _ _ us hl => match us, hl with | [_, _], _ => rfl), ok_added (C := C_NoPart) (B := B) (d_part_of := d_part_of) (F := F_added)⟩
  have F_less : Fun K "less" "less" s_less f_less _ := fun_mk l_less c_less k_less
  have d_less : Dfn P w K mg base CX0 "less" ["one", "other"] 4 fs_less := ⟨f_less, _, PySem.W.mg_of X G a_less, k_less, F_less.binds (fun _ _ _ _ _ _ us hl => match us, hl with | [_, _], _ => rfl), ok_less (C := C_NoPart) (B := B) (d_part_of := d_part_of) (F := F_less)⟩
  have F_product : Fun K "product" "product" s_product f_product _ := fun_mk l_product c_product k_product
  have d_product : Dfn P w K mg base CX0 "product" ["one", "other"] 4 fs_product := ⟨f_product, _, PySem.W.mg_of X G a_product, k_product, F_product.binds (fun _ _ _ _ _ _ us hl => match us, hl with | [_, _], _ => rfl), ok_product (C := C_NoPart) (B := B) (d_part_of := d_part_of) (F := F_product)⟩
  have F_quotient : Fun K "quotient" "quotient" s_quotient f_quotient _ := fun_mk l_quotient c_quotient k_quotient
  have d_quotient : Dfn P w K mg base (L2.CX P w) "quotient" ["one", "other"] 4 (fs_quotient C_NoPart) := ⟨f_quotient, _, PySem.W.mg_of X G a_quotient, k_quotient, F_quotient.binds (fun _ _ _ _ _ _ us hl => match us, hl with | [_, _], _ => rfl), ok_quotient (C := C_NoPart) (B := B) (d_part_of := d_part_of) (F := F_quotient)⟩
  have F_is_more : Fun K "is_more" "is_more" s_is_more f_is_more _ := fun_mk l_is_more c_is_more k_is_more
  have d_is_more : Dfn P w K mg base CX0 "is_more" ["one", "other"] 2 fs_is_more := ⟨f_is_more, _, PySem.W.mg_of X G a_is_more, k_is_more, F_is_more.binds (fun _ _ _ _ _ _ us hl => match us, hl with | [_, _], _ => rfl), ok_is_more (B := B) (F := F_is_more)⟩
  have F_lesser : Fun K "lesser" "lesser" s_lesser f_lesser _ := fun_mk l_lesser c_lesser k_lesser
  have d_lesser : Dfn P w K mg base CX0 "lesser" ["one", "other"] 3 fs_lesser := ⟨f_lesser, _, PySem.W.mg_of X G a_lesser, k_lesser, F_lesser.binds (fun _ _ _ _ _ _ us hl => match us, hl with | [_, _], _ => rfl), ok_lesser (B := B) (d_is_more := d_is_more) (F := F_lesser)⟩
  have F_greater : Fun K "greater" "greater" s_greater f_greater _ := fun_mk l_greater c_greater k_greater
  have d_greater : Dfn P w K mg base CX0 "greater" ["one", "other"] 3 fs_greater := ⟨f_greater, _, PySem.W.mg_of X G a_greater, k_greater, F_greater.binds (fun _ _ _ _ _ _ us hl => match us, hl with | [_, _], _ => rfl), ok_greater (B := B) (d_is_more := d_is_more) (F := F_greater)⟩
  have F__law_row : Fun K "_law_row" "_law_row" s__law_row f__law_row _ := fun_mk l__law_row c__law_row k__law_row
  have d__law_row : Dfn P w K mg base CX0 "_law_row" ["_law_script", "_law_many"] 2 fs_law_row := ⟨f__law_row, _, PySem.W.mg_of X G a__law_row, k__law_row, F__law_row.binds (fun _ _ _ _ _ _ us hl => match us, hl with | [_, _], _ => rfl), ok_law_row (B := B) (F := F__law_row)⟩
  have F__law_gcd : Fun K "_law_gcd" "_law_gcd" s__law_gcd f__law_gcd _ := fun_mk l__law_gcd c__law_gcd k__law_gcd
  have d__law_gcd : Dfn P w K mg base CX0 "_law_gcd" ["_law_one", "_law_other"] 2 fs_law_gcd := ⟨f__law_gcd, _, PySem.W.mg_of X G a__law_gcd, k__law_gcd, F__law_gcd.binds (fun _ _ _ _ _ _ us hl => match us, hl with | [_, _], _ => rfl), ok_law_gcd (B := B) (F := F__law_gcd)⟩
  have F__law_part : Fun K "_law_part" "_law_part" s__law_part f__law_part _ := fun_mk l__law_part c__law_part k__law_part
  have d__law_part : Dfn P w K mg base CX0 "_law_part" ["_law_top", "_law_bottom"] 3 fs_law_part := ⟨f__law_part, _, PySem.W.mg_of X G a__law_part, k__law_part, F__law_part.binds (fun _ _ _ _ _ _ us hl => match us, hl with | [_, _], _ => rfl), ok_law_part (B := B) (d__law_gcd := d__law_gcd) (F := F__law_part)⟩
  have F__law_drawn : Fun K "_law_drawn" "_law_drawn" s__law_drawn f__law_drawn _ := fun_mk l__law_drawn c__law_drawn k__law_drawn
  have d__law_drawn : Dfn P w K mg base CX0 "_law_drawn" ["_law_a", "_law_b"] 2 fs_law_drawn := ⟨f__law_drawn, _, PySem.W.mg_of X G a__law_drawn, k__law_drawn, F__law_drawn.binds (fun _ _ _ _ _ _ us hl => match us, hl with | [_, _], _ => rfl), ok_law_drawn (B := B) (F := F__law_drawn)⟩
  have F__law_of_class : Fun K "_law_of_class" "_law_of_class" s__law_of_class f__law_of_class _ := fun_mk l__law_of_class c__law_of_class k__law_of_class
  have d__law_of_class : Dfn P w K mg base CX0 "_law_of_class" ["_law_e", "_law_name"] 2 (fs_law_of_class C_NoPart "NoPart") := ⟨f__law_of_class, _, PySem.W.mg_of X G a__law_of_class, k__law_of_class, F__law_of_class.binds (fun _ _ _ _ _ _ us hl => match us, hl with | [_, _], _ => rfl), ok_law_of_class (C := C_NoPart) (B := B) (c_NoPart := c_NoPart) (c_NoSpan := c_NoSpan) (c_NoBox := c_NoBox) (c_NoText := c_NoText) (c_NoItem := c_NoItem) (c_NoName := c_NoName) (c_NoWish := c_NoWish) (c_NoChange := c_NoChange) (c_NoRow := c_NoRow) (c_TooMany := c_TooMany) (kx := kx) (F := F__law_of_class)⟩
  have F__law_refused : Fun K "_law_refused" "_law_refused" s__law_refused f__law_refused _ := fun_mk l__law_refused c__law_refused k__law_refused
  have d__law_refused : Dfn P w K mg base CX0 "_law_refused" ["_law_way", "_law_one"] 5 fs_law_refused := ⟨f__law_refused, _, PySem.W.mg_of X G a__law_refused, k__law_refused, F__law_refused.binds (fun _ _ _ _ _ _ us hl => match us, hl with | [_, _], _ => rfl), ok_law_refused (C := C_NoPart) (B := B) (c_WideError := c_WideError) (hx := hx) (d_part_of := d_part_of) (d_quotient := d_quotient) (d__law_of_class := d__law_of_class) (F := F__law_refused)⟩
  have F__law_is : Fun K "_law_is" "_law_is" s__law_is f__law_is _ := fun_mk l__law_is c__law_is k__law_is
  have d__law_is : Dfn P w K mg base CX0 "_law_is" ["_law_found", "_law_top", "_law_bottom"] 4 fs_law_is := ⟨f__law_is, _, PySem.W.mg_of X G a__law_is, k__law_is, F__law_is.binds (fun _ _ _ _ _ _ us hl => match us, hl with | [_, _, _], _ => rfl), ok_law_is (B := B) (d__law_part := d__law_part) (F := F__law_is)⟩
  have F__law_made : Fun K "_law_made" "_law_made" s__law_made f__law_made _ := fun_mk l__law_made c__law_made k__law_made
  have d__law_made : Dfn P w K mg base CX0 "_law_made" ["_law_a", "_law_b", "_law_c"] 3 fs_law_made := ⟨f__law_made, _, PySem.W.mg_of X G a__law_made, k__law_made, F__law_made.binds (fun _ _ _ _ _ _ us hl => match us, hl with | [_, _, _], _ => rfl), ok_law_made (B := B) (d__law_drawn := d__law_drawn) (F := F__law_made)⟩
  have F__law_right : Fun K "_law_right" "_law_right" s__law_right f__law_right _ := fun_mk l__law_right c__law_right k__law_right
  have d__law_right : Dfn P w K mg base CX0 "_law_right" ["_law_one", "_law_other"] 5 fs_law_right := ⟨f__law_right, _, PySem.W.mg_of X G a__law_right, k__law_right, F__law_right.binds (fun _ _ _ _ _ _ us hl => match us, hl with | [_, _], _ => rfl), ok_law_right (C := C_NoPart) (B := B) (d_is_more := d_is_more) (d__law_is := d__law_is) (d_added := d_added) (d_less := d_less) (d_product := d_product) (d_quotient := d_quotient) (d_lesser := d_lesser) (d_greater := d_greater) (F := F__law_right)⟩
  have F__law_thing : Fun K "_law_thing" "_law_thing" s__law_thing f__law_thing _ := fun_mk l__law_thing c__law_thing k__law_thing
  have d__law_thing : Dfn P w K mg base CX0 "_law_thing" ["_law_part_here", "_law_number"] 2 fs_law_thing := ⟨f__law_thing, _, PySem.W.mg_of X G a__law_thing, k__law_thing, F__law_thing.binds (fun _ _ _ _ _ _ us hl => match us, hl with | [_, _], _ => rfl), ok_law_thing (B := B) (F := F__law_thing)⟩
  have F__law_looked_at : Fun K "_law_looked_at" "_law_looked_at" s__law_looked_at f__law_looked_at _ := fun_mk l__law_looked_at c__law_looked_at k__law_looked_at
  have d__law_looked_at : Dfn P w K mg base CX0 "_law_looked_at" ["_law_part_here", "_law_number"] 4 fs_law_looked_at := ⟨f__law_looked_at, _, PySem.W.mg_of X G a__law_looked_at, k__law_looked_at, F__law_looked_at.binds (fun _ _ _ _ _ _ us hl => match us, hl with | [_, _], _ => rfl), ok_law_looked_at (B := B) (d__law_thing := d__law_thing) (d_is_part := d_is_part) (F := F__law_looked_at)⟩
  have F_law : Fun K "law" "law" s_law f_law _ := fun_mk l_law c_law k_law
  exact ok_law (C := C_NoPart) (B := B) (d__law_row := d__law_row) (d__law_made := d__law_made) (d__law_part := d__law_part) (d__law_is := d__law_is) (d_part_of := d_part_of) (d_part_of_1 := d_part_of_1) (d__law_right := d__law_right) (d__law_refused := d__law_refused) (d__law_looked_at := d__law_looked_at) (F := F_law)
end K01
end
open PySem PySem.W PyProof.Rows
set_option maxHeartbeats 0 in
theorem PySem.Challenge.cw_widthwise_k01_parts_reckoned_holds : PySem.Challenge.rw_widthwise_k01_parts_reckoned.Holds := by
  w_on; o_law; k_head; (case hw => w_witness2)
  k_fill
  refine L2.walk_of (l := PySem.Challenge.rw_widthwise_k01_parts_reckoned) (n := 63) (k := 6) (x := "_law_script") (CX := fun _ => L2.CX0) (sp := fun w => Y.spD _ K01.fs_law) rfl (by decide) rfl ⟨rfl, by decide, by decide⟩ (fun w h Y => PySem.W.kIn_of Y) ?F (fun _ _ a ns hl _ hS => K01.law_sp hl hS) (fun _ _ _ _ _ h => h)
  case F =>
    intro w mg fa h KX G hmg
    refine' K01.all_mk KX G hmg ?z_len ?z_isinstance ?z_range ?z_int ?z_str ?z_list ?z_tuple ?z_bool ?z_abs ?z_max ?z_min ?z_all ?z_any ?z_enumerate ?z_zip ?z_repr ?z_sum ?z_sorted ?z_ValueError ?zgcd ?g_WideError ?g_NoPart ?g_NoSpan ?g_NoBox ?g_NoText ?g_NoItem ?g_NoName ?g_NoWish ?g_NoChange ?g_NoRow ?g_TooMany ?vV ?i___init__ ?l___init__ ?c___init__ ?k___init__ ?ti___init__ ?lt___init__ ?iv___init__ ?xo_NoPart ?xm_NoPart ?xs_NoPart ?xk_NoPart ?xr_NoPart ?xf_NoPart ?kk_NoPart ?tt_NoPart ?e1_NoPart ?e2_NoPart ?e3_NoPart ?e4_NoPart ?e5_NoPart ?e6_NoPart ?e7_NoPart ?e8_NoPart ?w1 ?w2 ?w3 ?w4_NoPart ?kve ?kn1_NoSpan ?kn2_NoSpan ?kn3_NoSpan ?kn4_NoSpan ?kn1_NoBox ?kn2_NoBox ?kn3_NoBox ?kn4_NoBox ?kn1_NoText ?kn2_NoText ?kn3_NoText ?kn4_NoText ?kn1_NoItem ?kn2_NoItem ?kn3_NoItem ?kn4_NoItem ?kn1_NoName ?kn2_NoName ?kn3_NoName ?kn4_NoName ?kn1_NoWish ?kn2_NoWish ?kn3_NoWish ?kn4_NoWish ?kn1_NoChange ?kn2_NoChange ?kn3_NoChange ?kn4_NoChange ?kn1_NoRow ?kn2_NoRow ?kn3_NoRow ?kn4_NoRow ?kn1_TooMany ?kn2_TooMany ?kn3_TooMany ?kn4_TooMany ?a_is_whole ?l_is_whole ?c_is_whole ?k_is_whole ?a_is_part ?l_is_part ?c_is_part ?k_is_part ?a_reduced ?l_reduced ?c_reduced ?k_reduced ?a_part_of ?l_part_of ?c_part_of ?k_part_of ?lt_part_of ?iv_part_of ?a_added ?l_added ?c_added ?k_added ?a_less ?l_less ?c_less ?k_less ?a_product ?l_product ?c_product ?k_product ?a_quotient ?l_quotient ?c_quotient ?k_quotient ?a_is_more ?l_is_more ?c_is_more ?k_is_more ?a_lesser ?l_lesser ?c_lesser ?k_lesser ?a_greater ?l_greater ?c_greater ?k_greater ?a__law_row ?l__law_row ?c__law_row ?k__law_row ?a__law_gcd ?l__law_gcd ?c__law_gcd ?k__law_gcd ?a__law_part ?l__law_part ?c__law_part ?k__law_part ?a__law_drawn ?l__law_drawn ?c__law_drawn ?k__law_drawn ?a__law_of_class ?l__law_of_class ?c__law_of_class ?k__law_of_class ?a__law_refused ?l__law_refused ?c__law_refused ?k__law_refused ?a__law_is ?l__law_is ?c__law_is ?k__law_is ?a__law_made ?l__law_made ?c__law_made ?k__law_made ?a__law_right ?l__law_right ?c__law_right ?k__law_right ?a__law_thing ?l__law_thing ?c__law_thing ?k__law_thing ?a__law_looked_at ?l__law_looked_at ?c__law_looked_at ?k__law_looked_at ?a_law ?l_law ?c_law ?k_law
    (case z_len => k_is)
    (case z_isinstance => k_is)
    (case z_range => k_is)
    (case z_int => k_is)
    (case z_str => k_is)
    (case z_list => k_is)
    (case z_tuple => k_is)
    (case z_bool => k_is)
    (case z_abs => k_is)
    (case z_max => k_is)
    (case z_min => k_is)
    (case z_all => k_is)
    (case z_any => k_is)
    (case z_enumerate => k_is)
    (case z_zip => k_is)
    (case z_repr => k_is)
    (case z_sum => k_is)
    (case z_sorted => k_is)
    (case z_ValueError => k_is)
    (case zgcd => k_is)
    (case g_WideError => k_is)
    (case g_NoPart => k_is)
    (case g_NoSpan => k_is)
    (case g_NoBox => k_is)
    (case g_NoText => k_is)
    (case g_NoItem => k_is)
    (case g_NoName => k_is)
    (case g_NoWish => k_is)
    (case g_NoChange => k_is)
    (case g_NoRow => k_is)
    (case g_TooMany => k_is)
    (case vV => k_is)
    (case i___init__ => k_is)
    (case l___init__ => k_is)
    (case c___init__ => k_is)
    (case k___init__ => k_is)
    (case ti___init__ => k_is)
    (case lt___init__ => k_is)
    (case iv___init__ => exact ⟨_, rfl, .cons ⟨_, rfl⟩ .nil⟩)
    (case xo_NoPart => k_is)
    (case xm_NoPart => rfl)
    (case xs_NoPart => k_is)
    (case xk_NoPart => k_is)
    (case xr_NoPart => k_is)
    (case xf_NoPart => k_is)
    (case kk_NoPart => k_is)
    (case tt_NoPart => k_is)
    (case e1_NoPart => k_is)
    (case e2_NoPart => k_is)
    (case e3_NoPart => k_is)
    (case e4_NoPart => k_is)
    (case e5_NoPart => k_is)
    (case e6_NoPart => k_is)
    (case e7_NoPart => k_is)
    (case e8_NoPart => k_is)
    (case w1 => k_is)
    (case w2 => k_is)
    (case w3 => k_is)
    (case w4_NoPart => k_is)
    (case kve => k_is)
    (case kn1_NoSpan => rfl)
    (case kn2_NoSpan => k_is)
    (case kn3_NoSpan => k_is)
    (case kn4_NoSpan => k_is)
    (case kn1_NoBox => rfl)
    (case kn2_NoBox => k_is)
    (case kn3_NoBox => k_is)
    (case kn4_NoBox => k_is)
    (case kn1_NoText => rfl)
    (case kn2_NoText => k_is)
    (case kn3_NoText => k_is)
    (case kn4_NoText => k_is)
    (case kn1_NoItem => rfl)
    (case kn2_NoItem => k_is)
    (case kn3_NoItem => k_is)
    (case kn4_NoItem => k_is)
    (case kn1_NoName => rfl)
    (case kn2_NoName => k_is)
    (case kn3_NoName => k_is)
    (case kn4_NoName => k_is)
    (case kn1_NoWish => rfl)
    (case kn2_NoWish => k_is)
    (case kn3_NoWish => k_is)
    (case kn4_NoWish => k_is)
    (case kn1_NoChange => rfl)
    (case kn2_NoChange => k_is)
    (case kn3_NoChange => k_is)
    (case kn4_NoChange => k_is)
    (case kn1_NoRow => rfl)
    (case kn2_NoRow => k_is)
    (case kn3_NoRow => k_is)
    (case kn4_NoRow => k_is)
    (case kn1_TooMany => rfl)
    (case kn2_TooMany => k_is)
    (case kn3_TooMany => k_is)
    (case kn4_TooMany => k_is)
    (case a_is_whole => k_is)
    (case l_is_whole => k_is)
    (case c_is_whole => k_is)
    (case k_is_whole => k_is)
    (case a_is_part => k_is)
    (case l_is_part => k_is)
    (case c_is_part => k_is)
    (case k_is_part => k_is)
    (case a_reduced => k_is)
    (case l_reduced => k_is)
    (case c_reduced => k_is)
    (case k_reduced => k_is)
    (case a_part_of => k_is)
    (case l_part_of => k_is)
    (case c_part_of => k_is)
    (case k_part_of => k_is)
    (case lt_part_of => k_is)
    (case iv_part_of => exact ⟨_, rfl, .cons ⟨_, rfl⟩ .nil⟩)
    (case a_added => k_is)
    (case l_added => k_is)
    (case c_added => k_is)
    (case k_added => k_is)
    (case a_less => k_is)
    (case l_less => k_is)
    (case c_less => k_is)
    (case k_less => k_is)
    (case a_product => k_is)
    (case l_product => k_is)
    (case c_product => k_is)
    (case k_product => k_is)
    (case a_quotient => k_is)
    (case l_quotient => k_is)
    (case c_quotient => k_is)
    (case k_quotient => k_is)
    (case a_is_more => k_is)
    (case l_is_more => k_is)
    (case c_is_more => k_is)
    (case k_is_more => k_is)
    (case a_lesser => k_is)
    (case l_lesser => k_is)
    (case c_lesser => k_is)
    (case k_lesser => k_is)
    (case a_greater => k_is)
    (case l_greater => k_is)
    (case c_greater => k_is)
    (case k_greater => k_is)
    (case a__law_row => k_is)
    (case l__law_row => k_is)
    (case c__law_row => k_is)
    (case k__law_row => k_is)
    (case a__law_gcd => k_is)
    (case l__law_gcd => k_is)
    (case c__law_gcd => k_is)
    (case k__law_gcd => k_is)
    (case a__law_part => k_is)
    (case l__law_part => k_is)
    (case c__law_part => k_is)
    (case k__law_part => k_is)
    (case a__law_drawn => k_is)
    (case l__law_drawn => k_is)
    (case c__law_drawn => k_is)
    (case k__law_drawn => k_is)
    (case a__law_of_class => k_is)
    (case l__law_of_class => k_is)
    (case c__law_of_class => k_is)
    (case k__law_of_class => k_is)
    (case a__law_refused => k_is)
    (case l__law_refused => k_is)
    (case c__law_refused => k_is)
    (case k__law_refused => k_is)
    (case a__law_is => k_is)
    (case l__law_is => k_is)
    (case c__law_is => k_is)
    (case k__law_is => k_is)
    (case a__law_made => k_is)
    (case l__law_made => k_is)
    (case c__law_made => k_is)
    (case k__law_made => k_is)
    (case a__law_right => k_is)
    (case l__law_right => k_is)
    (case c__law_right => k_is)
    (case k__law_right => k_is)
    (case a__law_thing => k_is)
    (case l__law_thing => k_is)
    (case c__law_thing => k_is)
    (case k__law_thing => k_is)
    (case a__law_looked_at => k_is)
    (case l__law_looked_at => k_is)
    (case c__law_looked_at => k_is)
    (case k__law_looked_at => k_is)
    (case a_law => k_is)
    (case l_law => k_is)
    (case c_law => k_is)
    (case k_law => k_is)

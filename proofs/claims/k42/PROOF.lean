import PyProof.Rows.All
import Wide.All
import OpenK.AllK
import Wide.FinOn
import HandS.ForMost
import HandS.Wide
import HandS.Walk
import HandS.Star
import HandS.Flow
import HandS.TupSets
import HandS.SetTxt0
import HandS.Set
import HandS.Strs
import PyProof.Rows.SortShellAny
import KE.GoesEnum
import HandS.Iter
import HandS.IsInst
import HandS.Codes
import HandS.RaiseMore
import HandS.TupLe
import HandS.Deep
import HandS.TupAny
import HandS.Style
import HandS.Exc
import HandS.ExcOwn
import HandS.ExcInit
import HandS.ExcField
import HandS.ExcIs
import HandS.CallSlots
import HandS.WordsExc
import KE.KExcIs
import PyProof.P3In
import HandS.OwnEq
import HandS.Text
import HandS.ClsMeth
import HandS.TryOnly
import KE.KUnpackStar
import HandS.SetBool
import HandS.WideBits
import KE.SortData
import KE.DataCmp
import HandS.Defaults
import HandS.MakeKw
import HandS.MakeKwOnly
import PyProof.ReprRoads
import HandS.Ends
import HandS.SetKeys
import HandS.DictComp
import KE.DataMinKey
import HandS.SortKw
import HandS.SortInts
import KE.DataMinMax
import PyProof.Rows.RowBridgeK
import PyProof.Rows.StrMul
import KE.KxIndex
import HandS.Zip
import KE.KDictPairs
import HandS.Sort
import HandS.More
import KE.KDictList
import HandS.Conv
import KE.KDictKeyed
import PyProof.FactsAll.set_1
import PyProof.FactsAll.set_2
import PyProof.FactsAll.subtypes_5
import HandS.TupLen
import HandS.StrMore
import KE.OsArith
import KE.BitLaws
import PySem.Challenge.RW_leavelots_k42_drawings_refused
set_option Elab.async false
set_option linter.all false
set_option maxRecDepth 100000
set_option maxHeartbeats 4000000
/-! L3: data without a heap over the hand layer. A value of the program stands for a datum D; a def's body is read over data alone. -/
namespace G
open PySem L2
inductive D where
  | non | bl (b : Bool) | int (i : Int) | str (s : Str)
  | lst (xs : List D) | tup (xs : List D) | obj (c : Nat) (ds : List D) | scr (ns : List Int) | exc (a dd : Addr) (f : Str) (x : D) | dic (ks : List Key) (ds : List D) | tupF (xs : List D) | ref (a : Addr) | tupT (xs : List D) | dicF (ks : List Key) (ds : List D) | dicT (ks : List (List Key)) (ds : List D)
structure Cl where
  C : Addr
  fs : List Str
structure Wd where
  K : PySem.W.Frag
  cl : Nat → Cl
  er : Nat → Addr × Str := fun _ => (0, "")
def Ex (H H' : Hp) : Prop := ∀ a o, H a = some o → H' a = some o
theorem Ex.rfl' {H : Hp} : Ex H H := fun _ _ h => h
theorem Ex.tr {H H1 H2 : Hp} (a : Ex H H1) (b : Ex H1 H2) : Ex H H2 := fun x o h => b x o (a x o h)
theorem Ex.new {H : Hp} {p : Addr} {o : HO} (h : H p = none) : Ex H (upd H p o) := fun a u e => by
  rw [upd_ne (ne_of_none e h)]; exact e
theorem Ex.free {H H' : Hp} {p : Addr} (e : Ex H H') (h : H' p = none) : H p = none := by
  cases q : H p with
  | none => rfl
  | some o => rw [e p o q] at h; cases h
theorem Ex.both {M H : Hp} {p : Addr} {o : HO} (e : Ex M H) (h : H p = none) : Ex (upd M p o) (upd H p o) := fun a u q => by
  by_cases ha : a = p
  · subst ha; rw [upd_same] at q ⊢; exact q
  · rw [upd_ne ha] at q ⊢; exact e a u q
theorem rd_mono {M M' : Hp} (e : Ex M M') {a : Addr} {u : HO} (h : Rd M a u) : Rd M' a u := by
  rcases h with h | ⟨o, h⟩
  · exact .inl (e _ _ h)
  · exact .inr ⟨o, e _ _ h⟩
theorem sqT_mono {K : PySem.W.Frag} {M M' : Hp} (e : Ex M M') {a : Addr} {xs : List V} (h : SqT K M a xs) : SqT K M' a xs := h.imp (rd_mono e) id
theorem sqL_mono {K : PySem.W.Frag} {M M' : Hp} (e : Ex M M') {a : Addr} {xs : List V} (h : SqL K M a xs) : SqL K M' a xs := h.imp (rd_mono e) id
/-- the value v stands for the datum d by what M tells -/
inductive At (Z : Wd) (M : Hp) : V → D → Prop
  | non : At Z M .non .non
  | bl {b} : At Z M (.bl b) (.bl b)
  | int {i} : At Z M (.int i) (.int i)
  | str {s} : At Z M (.str s) (.str s)
  | lst {a vs ds} : M a = some (.lst vs) → vs.length = ds.length → (∀ (i : Nat) v d, vs[i]? = some v → ds[i]? = some d → At Z M v d) → At Z M (.ref a) (.lst ds)
  | tup {a vs ds} : SqT Z.K M a vs → vs.length = ds.length → (∀ (i : Nat) v d, vs[i]? = some v → ds[i]? = some d → At Z M v d) → At Z M (.ref a) (.tup ds)
  | obj {a dx c vs ds} : M a = some (.ins (Z.cl c).C dx ((Z.cl c).fs.zip vs)) → vs.length = (Z.cl c).fs.length → vs.length = ds.length → (∀ (i : Nat) v d, vs[i]? = some v → ds[i]? = some d → At Z M v d) → At Z M (.ref a) (.obj c ds)
  | scr {a ns} : SqL Z.K M a (ns.map V.int) → At Z M (.ref a) (.scr ns)
  | exc {a dd f v x} : M dd = some (.xd [(f, v)]) → At Z M v x → At Z M (.ref a) (.exc a dd f x)
  | dic {a kvs ks ds} : M a = some (.dK kvs) → kvs.map (·.1) = ks → (kvs.map (·.2)).length = ds.length → (∀ (i : Nat) v d, (kvs.map (·.2))[i]? = some v → ds[i]? = some d → At Z M v d) → At Z M (.ref a) (.dic ks ds)
  | tupF {a o vs ds} : M a = some (.frz o (.tup vs)) → o.cls = .type "tuple" → (o.dict = none ∧ o.slots = #[]) → vs.length = ds.length → (∀ (i : Nat) v d, vs[i]? = some v → ds[i]? = some d → At Z M v d) → At Z M (.ref a) (.tupF ds)
  | ref {a} : At Z M (.ref a) (.ref a)
  | tupT {a vs ds} : M a = some (.tup vs) → vs.length = ds.length → (∀ (i : Nat) v d, vs[i]? = some v → ds[i]? = some d → At Z M v d) → At Z M (.ref a) (.tupT ds)
  | dicF {a o kvs ks ds} : M a = some (.frz o (.dK kvs)) → kvs.map (·.1) = ks → (kvs.map (·.2)).length = ds.length → (∀ (i : Nat) v d, (kvs.map (·.2))[i]? = some v → ds[i]? = some d → At Z M v d) → At Z M (.ref a) (.dicF ks ds)
  | dicT {a o kvs ks ds} : M a = some (.frz o (.dT kvs)) → kvs.map (·.1) = ks → (kvs.map (·.2)).length = ds.length → (∀ (i : Nat) v d, (kvs.map (·.2))[i]? = some v → ds[i]? = some d → At Z M v d) → At Z M (.ref a) (.dicT ks ds)
section
variable {Z : Wd} {M M' H H' : Hp}
theorem At.mono {v : V} {d : D} (e : Ex M M') (h : At Z M v d) : At Z M' v d := by
  induction h with
  | non => exact .non
  | bl => exact .bl
  | int => exact .int
  | str => exact .str
  | lst h l _ ih => exact .lst (e _ _ h) l ih
  | tup h l _ ih => exact .tup (sqT_mono e h) l ih
  | obj h l l2 _ ih => exact .obj (e _ _ h) l l2 ih
  | scr h => exact .scr (sqL_mono e h)
  | exc h _ ih => exact .exc (e _ _ h) ih
  | dic h k l _ ih => exact .dic (e _ _ h) k l ih
  | tupF h c k l _ ih => exact .tupF (e _ _ h) c k l ih
  | ref => exact .ref
  | tupT h l _ ih => exact .tupT (e _ _ h) l ih
  | dicF h k l _ ih => exact .dicF (e _ _ h) k l ih
  | dicT h k l _ ih => exact .dicT (e _ _ h) k l ih
structure AtL (Z : Wd) (M : Hp) (vs : List V) (ds : List D) : Prop where
  len : vs.length = ds.length
  at' : ∀ (i : Nat) v d, vs[i]? = some v → ds[i]? = some d → At Z M v d
variable {vs ws : List V} {ds es : List D} {v : V} {d : D}
theorem AtL.mono (e : Ex M M') (h : AtL Z M vs ds) : AtL Z M' vs ds := ⟨h.len, fun i v d a b => (h.at' i v d a b).mono e⟩
theorem AtL.nil : AtL Z M [] [] := ⟨rfl, fun i v d a => by simp at a⟩
theorem AtL.cons (h : At Z M v d) (t : AtL Z M vs ds) : AtL Z M (v :: vs) (d :: ds) := ⟨by simp [t.len], fun i x y a b => by
  cases i with
  | zero => simp at a b; subst a; subst b; exact h
  | succ i => exact t.at' i x y (by simpa using a) (by simpa using b)⟩
theorem AtL.one (h : At Z M v d) : AtL Z M [v] [d] := .cons h .nil
theorem AtL.inv (h : AtL Z M vs (d :: ds)) : ∃ v ws, vs = v :: ws ∧ At Z M v d ∧ AtL Z M ws ds := by
  cases vs with
  | nil => have := h.len; simp at this
  | cons v ws => exact ⟨v, ws, rfl, h.at' 0 v d rfl rfl, ⟨by simpa using h.len, fun i x y a b => h.at' (i + 1) x y (by simpa using a) (by simpa using b)⟩⟩
theorem AtL.inv0 (h : AtL Z M vs []) : vs = [] := by
  have := h.len; simpa using this
theorem AtL.app (h : AtL Z M vs ds) (t : AtL Z M ws es) : AtL Z M (vs ++ ws) (ds ++ es) := ⟨by simp [h.len, t.len], fun i x y a b => by
  by_cases hi : i < vs.length
  · rw [List.getElem?_append_left hi] at a
    rw [List.getElem?_append_left (h.len ▸ hi)] at b
    exact h.at' i x y a b
  · rw [List.getElem?_append_right (by omega)] at a
    rw [List.getElem?_append_right (by have := h.len; omega)] at b
    exact t.at' (i - vs.length) x y a (by rw [h.len]; exact b)⟩
theorem AtL.take (n : Nat) (h : AtL Z M vs ds) : AtL Z M (vs.take n) (ds.take n) := ⟨by simp [h.len], fun i x y a b => by
  rw [List.getElem?_take] at a b
  split at a
  · rename_i hi; rw [if_pos hi] at b; exact h.at' i x y a b
  · cases a⟩
theorem AtL.drop (n : Nat) (h : AtL Z M vs ds) : AtL Z M (vs.drop n) (ds.drop n) := ⟨by simp [h.len], fun i x y a b => by
  rw [List.getElem?_drop] at a b
  exact h.at' (n + i) x y a b⟩
theorem AtL.set (i : Nat) (h : AtL Z M vs ds) (k : At Z M v d) : AtL Z M (vs.set i v) (ds.set i d) := ⟨by simp [h.len], fun j x y a b => by
  rw [List.getElem?_set] at a b
  split at a
  · rename_i e
    rw [if_pos e] at b
    split at a
    · rename_i q; rw [if_pos (h.len ▸ q)] at b; cases a; cases b; exact k
    · cases a
  · rename_i e; rw [if_neg e] at b; exact h.at' j x y a b⟩
theorem AtL.erase (n : Nat) (h : AtL Z M vs ds) : AtL Z M (vs.eraseIdx n) (ds.eraseIdx n) := ⟨by
    rw [List.length_eraseIdx, List.length_eraseIdx, h.len], fun i x y a b => by
  rw [List.getElem?_eraseIdx] at a b
  split at a
  · rename_i q; rw [if_pos q] at b; exact h.at' i x y a b
  · rename_i q; rw [if_neg q] at b; exact h.at' (i + 1) x y a b⟩
theorem AtL.get {i : Nat} (h : AtL Z M vs ds) (e : ds[i]? = some d) : ∃ v, vs[i]? = some v ∧ At Z M v d := by
  have hi : i < ds.length := (List.getElem?_eq_some_iff.mp e).1
  exact ⟨vs[i]'(h.len ▸ hi), by simp [h.len ▸ hi], h.at' i _ d (by simp [h.len ▸ hi]) e⟩
theorem AtL.getV {i : Nat} (h : AtL Z M vs ds) (e : vs[i]? = some v) : ∃ d, ds[i]? = some d ∧ At Z M v d := by
  have hi : i < vs.length := (List.getElem?_eq_some_iff.mp e).1
  exact ⟨ds[i]'(h.len ▸ hi), by simp [h.len ▸ hi], h.at' i v _ e (by simp [h.len ▸ hi])⟩
theorem AtL.dropLast (h : AtL Z M vs ds) : AtL Z M vs.dropLast ds.dropLast := by
  rw [List.dropLast_eq_take, List.dropLast_eq_take, h.len]; exact h.take _
theorem AtL.ints : ∀ {vs : List V} {ns : List Int}, AtL Z M vs (ns.map D.int) → vs = ns.map V.int
  | vs, [], h => h.inv0
  | vs, n :: ns, h => by
    obtain ⟨v, ws, rfl, a, t⟩ := h.inv
    cases a
    rw [AtL.ints t]; rfl
theorem AtL.strs : ∀ {vs : List V} {ns : List Str}, AtL Z M vs (ns.map D.str) → vs = ns.map V.str
  | vs, [], h => h.inv0
  | vs, n :: ns, h => by
    obtain ⟨v, ws, rfl, a, t⟩ := h.inv
    cases a
    rw [AtL.strs t]; rfl
theorem AtL.bools : ∀ {vs : List V} {ns : List Bool}, AtL Z M vs (ns.map D.bl) → vs = ns.map V.bl
  | vs, [], h => h.inv0
  | vs, n :: ns, h => by
    obtain ⟨v, ws, rfl, a, t⟩ := h.inv
    cases a
    rw [AtL.bools t]; rfl
theorem AtL.ofInts : ∀ (ns : List Int), AtL Z M (ns.map V.int) (ns.map D.int)
  | [] => .nil
  | n :: ns => .cons .int (AtL.ofInts ns)
theorem AtL.ofStrs : ∀ (ns : List Str), AtL Z M (ns.map V.str) (ns.map D.str)
  | [] => .nil
  | n :: ns => .cons .str (AtL.ofStrs ns)
end
/-! ### objects that one def alone holds -/
inductive OD where
  | lst (xs : List D) | dic (kvs : List (Key × D)) | ins (c : Nat) (fs : List (Str × D)) | dT (kvs : List (List Key × D))
def ODAt (Z : Wd) (M : Hp) : HO → OD → Prop
  | .lst vs, .lst xs => AtL Z M vs xs
  | .dK kvs, .dic ds => kvs.map (·.1) = ds.map (·.1) ∧ AtL Z M (kvs.map (·.2)) (ds.map (·.2))
  | .dT kvs, .dT ds => kvs.map (·.1) = ds.map (·.1) ∧ AtL Z M (kvs.map (·.2)) (ds.map (·.2))
  | .ins C _ fs, .ins c gs => C = (Z.cl c).C ∧ fs.map (·.1) = gs.map (·.1) ∧ AtL Z M (fs.map (·.2)) (gs.map (·.2))
  | _, _ => False
inductive S where
  | no | d (x : D) | own (y : OD) | deal (q : Addr) (cs : List Int) (n : Int)
section
variable {Z : Wd} {M M' H H' : Hp}
theorem ODAt.mono (e : Ex M M') {ho : HO} {y : OD} (h : ODAt Z M ho y) : ODAt Z M' ho y := by
  cases ho with
  | lst vs => cases y with
    | lst xs => exact AtL.mono e h
    | dic _ => exact h
    | ins _ _ => exact h
    | dT _ => exact h
  | dK vs => cases y with
    | dic xs => exact ⟨h.1, h.2.mono e⟩
    | lst _ => exact h
    | ins _ _ => exact h
    | dT _ => exact h
  | dT vs => cases y with
    | dT xs => exact ⟨h.1, h.2.mono e⟩
    | lst _ => exact h
    | ins _ _ => exact h
    | dic _ => exact h
  | ins C dx fs => cases y with
    | ins c gs => exact ⟨h.1, h.2.1, h.2.2.mono e⟩
    | lst _ => exact h
    | dic _ => exact h
    | dT _ => exact h
  | _ => exact False.elim h
theorem ODAt.lstI {ho : HO} {xs : List D} (h : ODAt Z M ho (.lst xs)) : ∃ vs, ho = .lst vs ∧ AtL Z M vs xs := by
  cases ho with
  | lst vs => exact ⟨vs, rfl, h⟩
  | _ => exact False.elim h
theorem ODAt.dicI {ho : HO} {ds : List (Key × D)} (h : ODAt Z M ho (.dic ds)) : ∃ kvs, ho = .dK kvs ∧ kvs.map (·.1) = ds.map (·.1) ∧ AtL Z M (kvs.map (·.2)) (ds.map (·.2)) := by
  cases ho with
  | dK vs => exact ⟨vs, rfl, h⟩
  | _ => exact False.elim h
theorem ODAt.insI {ho : HO} {c : Nat} {gs : List (Str × D)} (h : ODAt Z M ho (.ins c gs)) : ∃ dx fs, ho = .ins (Z.cl c).C dx fs ∧ fs.map (·.1) = gs.map (·.1) ∧ AtL Z M (fs.map (·.2)) (gs.map (·.2)) := by
  cases ho with
  | ins C dx fs => obtain ⟨rfl, a, b⟩ := h; exact ⟨dx, fs, rfl, a, b⟩
  | _ => exact False.elim h
def SlotOk (Z : Wd) (M H : Hp) : Option V → S → Prop
  | _, .no => True
  | o, .d x => ∃ v, o = some v ∧ At Z M v x
  | o, .own y => ∃ p ho, o = some (.ref p) ∧ H p = some ho ∧ ODAt Z M ho y ∧ M p = none
  | o, .deal q cs n => ∃ p, o = some (.ref p) ∧ H p = some (.lst [.ref q, .int n]) ∧ H q = some (.lst (cs.map V.int)) ∧ M p = none ∧ M q = none ∧ p ≠ q
/-- what a slot with the address p holds alone -/
def Hol (p : Addr) : S → Addr → Prop
  | .own _, a => a = p
  | .deal q _ _, a => a = p ∨ a = q
  | _, _ => False
def Own (σ : St) (δ : List S) (i : Nat) (a : Addr) : Prop := ∃ p s, σ[i]? = some (some (.ref p)) ∧ δ[i]? = some s ∧ Hol p s a
theorem Own.mk {σ : St} {δ : List S} {i : Nat} {p : Addr} {y : OD} (h : σ[i]? = some (some (.ref p))) (k : δ[i]? = some (.own y)) : Own σ δ i p := ⟨p, _, h, k, rfl⟩
theorem Own.inv {σ : St} {δ : List S} {i : Nat} {p : Addr} {y : OD} (h : Own σ δ i p) (k : δ[i]? = some (.own y)) : σ[i]? = some (some (.ref p)) := by
  obtain ⟨q, s, a, b, c⟩ := h
  rw [k] at b; cases b; cases c; exact a
theorem Own.not {σ : St} {δ : List S} {i : Nat} {p : Addr} {s : S} (k : δ[i]? = some s) (n : ∀ p a, ¬ Hol p s a) : ¬ Own σ δ i p := fun ⟨q, s', _, b, c⟩ => by
  rw [k] at b; cases b; exact n _ _ c
theorem Own.same {σ σ' : St} {δ δ' : List S} {i : Nat} {p : Addr} (h : Own σ δ i p) (e : σ'[i]? = σ[i]?) (f : δ'[i]? = δ[i]?) : Own σ' δ' i p := by
  obtain ⟨q, s, a, b, c⟩ := h
  exact ⟨q, s, e.trans a, f.trans b, c⟩
theorem hol_no (p a : Addr) : ¬ Hol p .no a := id
theorem hol_d (x : D) (p a : Addr) : ¬ Hol p (.d x) a := id
/-- no tuple: it may change -/
def NT (o : HO) : Prop := ∀ vs, o ≠ .tup vs
theorem NT.own {Z : Wd} {M : Hp} {ho : HO} {y : OD} (h : ODAt Z M ho y) : NT ho := fun vs e => by subst e; cases y <;> exact h.elim
/-- the heap at a def's entry, and what of it never changes -/
structure Bas where
  h : Hp
  m : Hp
/-- the state: B the heap at the def's entry, W what it has borrowed (slot, address), M what will never change, H the heap, σ the slots' values, δ their data -/
structure I3 (Z : Wd) (B : Bas) (W : List (Nat × Addr)) (M H : Hp) (σ : St) (δ : List S) : Prop where
  ex : Ex M H
  mg : ∀ a o, B.h a = some o → B.m a = none → NT o → M a = none
  keep : ∀ a o, B.h a = some o → (∀ i, (i, a) ∉ W) → H a = some o
  len : σ.length = δ.length
  sl : ∀ (i : Nat) s, δ[i]? = some s → ∃ o, σ[i]? = some o ∧ SlotOk Z M H o s
  bor : ∀ i p, (i, p) ∈ W → Own σ δ i p
  own : ∀ i p, Own σ δ i p → (i, p) ∈ W ∨ B.h p = none
  dis : ∀ i j p, Own σ δ i p → Own σ δ j p → i = j
variable {B : Bas} {W : List (Nat × Addr)} {σ : St} {δ : List S}
theorem I3.ownAt (I : I3 Z B W M H σ δ) {i : Nat} {p : Addr} (h : Own σ δ i p) : ∃ ho, H p = some ho ∧ M p = none := by
  obtain ⟨p0, s, h1, h2, h3⟩ := h
  obtain ⟨o, e, k⟩ := I.sl i _ h2
  rw [h1] at e; cases e
  cases s with
  | no => exact h3.elim
  | d x => exact h3.elim
  | own y =>
    obtain ⟨q, ho, e2, e3, e4, e5⟩ := k
    cases e2; cases h3
    exact ⟨ho, e3, e5⟩
  | deal q cs n =>
    obtain ⟨p1, e2, e3, e4, e5, e6, _⟩ := k
    cases e2
    rcases h3 with rfl | rfl
    · exact ⟨_, e3, e5⟩
    · exact ⟨_, e4, e6⟩
theorem I3.ownO (I : I3 Z B W M H σ δ) {i : Nat} {p : Addr} {y : OD} (h : Own σ δ i p) (k : δ[i]? = some (.own y)) : ∃ ho, H p = some ho ∧ ODAt Z M ho y ∧ M p = none := by
  obtain ⟨o, e, q, ho, rfl, e3, e4, e5⟩ := I.sl i _ k
  have h1 := h.inv k
  rw [e] at h1; cases h1
  exact ⟨ho, e3, e4, e5⟩
theorem plain_no {ds : List D} {n i : Nat} {s : S} (h : (ds.map S.d ++ List.replicate n S.no)[i]? = some s) : ∀ p a, ¬ Hol p s a := by
  have : s ∈ ds.map S.d ++ List.replicate n S.no := List.mem_of_getElem? h
  rcases List.mem_append.mp this with m | m
  · obtain ⟨d, _, rfl⟩ := List.mem_map.mp m; exact hol_d d
  · rw [(List.mem_replicate.mp m).2]; exact hol_no
theorem Own.plain {ds : List D} {n i : Nat} {p : Addr} : ¬ Own σ (ds.map S.d ++ List.replicate n S.no) i p := fun ⟨q, _, _, b, c⟩ => plain_no b q p c
theorem I3.fresh (I : I3 Z B W M H σ δ) {p : Addr} (h : H p = none) : B.h p = none := by
  cases q : B.h p with
  | none => rfl
  | some o =>
    by_cases hw : ∃ i, (i, p) ∈ W
    · obtain ⟨i, hi⟩ := hw
      obtain ⟨ho, e, _⟩ := I.ownAt (I.bor i p hi)
      rw [h] at e; cases e
    · have := I.keep p o q (fun i hi => hw ⟨i, hi⟩)
      rw [h] at this; cases this
theorem I3.ownNT (I : I3 Z B W M H σ δ) {i : Nat} {p : Addr} (h : Own σ δ i p) : ∃ ho, H p = some ho ∧ NT ho := by
  obtain ⟨p0, s, h1, h2, h3⟩ := h
  obtain ⟨o, e, k⟩ := I.sl i _ h2
  rw [h1] at e; cases e
  cases s with
  | no => exact h3.elim
  | d x => exact h3.elim
  | own y =>
    obtain ⟨q, ho, e2, e3, e4, e5⟩ := k
    cases e2; cases h3
    exact ⟨ho, e3, .own e4⟩
  | deal q cs n =>
    obtain ⟨p1, e2, e3, e4, e5, e6, _⟩ := k
    cases e2
    rcases h3 with rfl | rfl
    · exact ⟨_, e3, fun _ e => nomatch e⟩
    · exact ⟨_, e4, fun _ e => nomatch e⟩
theorem I3.nt (I : I3 Z B W M H σ δ) {a : Addr} {o u : HO} (e : B.h a = some o) (t : NT o) (q : H a = some u) : NT u := by
  by_cases hw : ∃ i, (i, a) ∈ W
  · obtain ⟨i, hi⟩ := hw
    obtain ⟨ho, e2, t2⟩ := I.ownNT (I.bor i a hi)
    rw [q] at e2; cases e2; exact t2
  · have := I.keep a o e fun i hi => hw ⟨i, hi⟩
    rw [q] at this; cases this; exact t
theorem SlotOk.mono {o : Option V} {s : S} (e : Ex M M') (hn : ∀ p, M p = none → M' p ≠ none → H p = none) (h : SlotOk Z M H o s) : SlotOk Z M' H o s := by
  cases s with
  | no => trivial
  | d x => obtain ⟨v, a, b⟩ := h; exact ⟨v, a, b.mono e⟩
  | own y =>
    obtain ⟨p, ho, a, b, c, d⟩ := h
    refine ⟨p, ho, a, b, c.mono e, ?_⟩
    cases q : M' p with
    | none => rfl
    | some u =>
      have := hn p d (by rw [q]; exact fun z => nomatch z)
      rw [b] at this; cases this
  | deal q cs n =>
    obtain ⟨p, a, b, c, d, f, g⟩ := h
    have no : ∀ {x : Addr} {u : HO}, H x = some u → M x = none → M' x = none := fun {x u} hx hm => by
      cases z : M' x with
      | none => rfl
      | some u =>
        have := hn x hm (by rw [z]; exact fun z => nomatch z)
        rw [hx] at this; cases this
    exact ⟨p, a, b, c, no b d, no c f, g⟩
/-- a new object that will never change -/
theorem I3.grow (I : I3 Z B W M H σ δ) {p : Addr} {o : HO} (h : H p = none) : I3 Z B W (upd M p o) (upd H p o) σ δ := by
  have hm : M p = none := I.ex.free h
  refine ⟨I.ex.both h, fun a u e n => ?_, fun a u e n => ?_, I.len, fun i s e => ?_, I.bor, I.own, I.dis⟩
  · rw [upd_ne (ne_of_none e (I.fresh h))]; exact I.mg a u e n
  · have := I.keep a u e n
    rw [upd_ne (ne_of_none this h)]; exact this
  · obtain ⟨v, e1, e2⟩ := I.sl i s e
    refine ⟨v, e1, ?_⟩
    cases s with
    | no => trivial
    | d x => obtain ⟨u, a, b⟩ := e2; exact ⟨u, a, b.mono (Ex.new hm)⟩
    | own y =>
      obtain ⟨q, ho, a, b, c, d⟩ := e2
      have hq : q ≠ p := ne_of_none b h
      exact ⟨q, ho, a, by rw [upd_ne hq]; exact b, c.mono (Ex.new hm), by rw [upd_ne hq]; exact d⟩
    | deal q cs n =>
      obtain ⟨r, a, b, c, d, f, g⟩ := e2
      have hr : r ≠ p := ne_of_none b h
      have hq : q ≠ p := ne_of_none c h
      exact ⟨r, a, by rw [upd_ne hr]; exact b, by rw [upd_ne hq]; exact c, by rw [upd_ne hr]; exact d, by rw [upd_ne hq]; exact f, g⟩
/-- another object, that nobody knows, comes or changes -/
theorem I3.other (I : I3 Z B W M H σ δ) {p : Addr} {o : HO} (hB : B.h p = none) (hm : M p = none) (ho : ∀ i, ¬ Own σ δ i p) : I3 Z B W M (upd H p o) σ δ := by
  refine ⟨fun a u e => ?_, I.mg, fun a u e n => ?_, I.len, fun i s e => ?_, I.bor, I.own, I.dis⟩
  · rw [upd_ne (ne_of_none e hm)]; exact I.ex a u e
  · rw [upd_ne (ne_of_none e hB)]; exact I.keep a u e n
  · obtain ⟨v, e1, e2⟩ := I.sl i s e
    refine ⟨v, e1, ?_⟩
    cases s with
    | no => trivial
    | d x => exact e2
    | own y =>
      obtain ⟨q, hq, a, b, c, d⟩ := e2
      subst a
      have hq' : q ≠ p := fun z => ho i (z ▸ Own.mk e1 e)
      exact ⟨q, hq, rfl, by rw [upd_ne hq']; exact b, c, d⟩
    | deal q cs n =>
      obtain ⟨r, a, b, c, d, f, g⟩ := e2
      subst a
      have hr : r ≠ p := fun z => ho i (z ▸ ⟨r, _, e1, e, .inl rfl⟩)
      have hq : q ≠ p := fun z => ho i (z ▸ ⟨r, _, e1, e, .inr rfl⟩)
      exact ⟨r, rfl, by rw [upd_ne hr]; exact b, by rw [upd_ne hq]; exact c, d, f, g⟩
theorem Own.setS {i j : Nat} {p : Addr} {s s' : S} (hi : δ[i]? = some s) (hs : ∀ p a, Hol p s a ↔ Hol p s' a) : Own σ (δ.set i s') j p ↔ Own σ δ j p := by
  have hl : i < δ.length := (List.getElem?_eq_some_iff.mp hi).1
  unfold Own
  by_cases e : i = j
  · subst e
    rw [List.getElem?_set_self hl, hi]
    constructor
    · rintro ⟨q, u, a, b, c⟩; cases b; exact ⟨q, _, a, rfl, (hs _ _).mpr c⟩
    · rintro ⟨q, u, a, b, c⟩; cases b; exact ⟨q, _, a, rfl, (hs _ _).mp c⟩
  · rw [List.getElem?_set_ne e]
/-- what slot i holds alone changes -/
theorem I3.writeS (I : I3 Z B W M H σ δ) {i : Nat} {o : Option V} {s s' : S} (h : σ[i]? = some o) (hi : δ[i]? = some s) (hs : ∀ p a, Hol p s a ↔ Hol p s' a) (hH : ∀ a, ¬ Own σ δ i a → H' a = H a) (hy : SlotOk Z M H' o s') : I3 Z B W M H' σ (δ.set i s') := by
  have hl : i < δ.length := (List.getElem?_eq_some_iff.mp hi).1
  refine ⟨fun a u e => ?_, I.mg, fun a u e n => ?_, by rw [List.length_set]; exact I.len, fun j t e => ?_, fun j q w => (Own.setS hi hs).mpr (I.bor j q w), fun j q o => I.own j q ((Own.setS hi hs).mp o), fun j k q a b => I.dis j k q ((Own.setS hi hs).mp a) ((Own.setS hi hs).mp b)⟩
  · rw [hH a fun o => by obtain ⟨_, _, q⟩ := I.ownAt o; rw [q] at e; cases e]; exact I.ex a u e
  · rw [hH a fun o => by
      rcases I.own i a o with q | q
      · exact n i q
      · rw [e] at q; cases q]
    exact I.keep a u e n
  · by_cases e1 : i = j
    · subst e1
      rw [List.getElem?_set_self hl] at e; cases e
      exact ⟨_, h, hy⟩
    · rw [List.getElem?_set_ne e1] at e
      obtain ⟨v, a, b⟩ := I.sl j t e
      refine ⟨v, a, ?_⟩
      cases t with
      | no => trivial
      | d x => exact b
      | own z =>
        obtain ⟨q, hq, c, d, f, g⟩ := b
        subst c
        exact ⟨q, hq, rfl, by rw [hH q fun o => e1 (I.dis i j q o (Own.mk a e))]; exact d, f, g⟩
      | deal q cs n =>
        obtain ⟨r, c, d, f, g, k, l⟩ := b
        subst c
        exact ⟨r, rfl, by rw [hH r fun o => e1 (I.dis i j r o ⟨r, _, a, e, .inl rfl⟩)]; exact d, by rw [hH q fun o => e1 (I.dis i j q o ⟨r, _, a, e, .inr rfl⟩)]; exact f, g, k, l⟩
theorem I3.write (I : I3 Z B W M H σ δ) {i : Nat} {p : Addr} {ho : HO} {y y' : OD} (h : σ[i]? = some (some (.ref p))) (hi : δ[i]? = some (.own y)) (hy : ODAt Z M ho y') : I3 Z B W M (upd H p ho) σ (δ.set i (.own y')) :=
  I.writeS h hi (fun _ _ => Iff.rfl) (fun a n => upd_ne fun z => n (z ▸ Own.mk h hi)) ⟨p, ho, rfl, upd_same, hy, by obtain ⟨_, _, m⟩ := I.ownAt (Own.mk h hi); exact m⟩
theorem Own.setN {i j : Nat} {p : Addr} {v : Option V} {s : S} (hs : ∀ p a, ¬ Hol p s a) (h : Own (σ.set i v) (δ.set i s) j p) : i ≠ j ∧ Own σ δ j p := by
  obtain ⟨q, u, a, b, c⟩ := h
  have e : i ≠ j := fun e => by
    subst e
    rw [List.getElem?_set] at b
    split at b
    · split at b
      · cases b; exact hs _ _ c
      · cases b
    · rename_i q; exact q rfl
  rw [List.getElem?_set_ne e] at a b
  exact ⟨e, q, u, a, b, c⟩
/-- slot i gets a datum, or is forgotten -/
theorem I3.put (I : I3 Z B W M H σ δ) {i : Nat} {o : Option V} {s : S} (hi : ∀ p, (i, p) ∉ W) (hs : ∀ p a, ¬ Hol p s a) (hv : SlotOk Z M H o s) : I3 Z B W M H (σ.set i o) (δ.set i s) := by
  refine ⟨I.ex, I.mg, I.keep, by rw [List.length_set, List.length_set]; exact I.len, fun j t e => ?_, fun j q w => ?_, fun j q o => I.own j q (Own.setN hs o).2, fun j k q a b => I.dis j k q (Own.setN hs a).2 (Own.setN hs b).2⟩
  · by_cases e1 : i = j
    · subst e1
      have hl : i < δ.length := by
        have := (List.getElem?_eq_some_iff.mp e).1; rwa [List.length_set] at this
      rw [List.getElem?_set_self hl] at e; cases e
      exact ⟨o, by rw [List.getElem?_set_self (by rw [I.len]; exact hl)], hv⟩
    · rw [List.getElem?_set_ne e1] at e ⊢
      exact I.sl j t e
  · have e1 : i ≠ j := fun e => hi q (e ▸ w)
    exact (I.bor j q w).same (List.getElem?_set_ne e1) (List.getElem?_set_ne e1)
/-- slot i gets an object that nobody else holds -/
theorem I3.putS (I : I3 Z B W M H σ δ) {i : Nat} {p : Addr} {s : S} (hi : ∀ p, (i, p) ∉ W) (hl : i < δ.length) (hv : SlotOk Z M H (some (.ref p)) s) (hB : ∀ a, Hol p s a → B.h a = none) (hn : ∀ a, Hol p s a → ∀ j, ¬ Own σ δ j a) :
    I3 Z B W M H (σ.set i (some (.ref p))) (δ.set i s) := by
  have own' : ∀ j q, Own (σ.set i (some (.ref p))) (δ.set i s) j q → (j = i ∧ Hol p s q) ∨ (i ≠ j ∧ Own σ δ j q) := fun j q h => by
    obtain ⟨r, u, a, b, c⟩ := h
    by_cases e : i = j
    · subst e
      rw [List.getElem?_set_self (by rw [I.len]; exact hl)] at a
      rw [List.getElem?_set_self hl] at b
      cases a; cases b; exact .inl ⟨rfl, c⟩
    · rw [List.getElem?_set_ne e] at a b
      exact .inr ⟨e, r, u, a, b, c⟩
  refine ⟨I.ex, I.mg, I.keep, by rw [List.length_set, List.length_set]; exact I.len, fun j t e => ?_, fun j q w => ?_, fun j q o => ?_, fun j k q a b => ?_⟩
  · by_cases e1 : i = j
    · subst e1
      rw [List.getElem?_set_self hl] at e; cases e
      exact ⟨_, by rw [List.getElem?_set_self (by rw [I.len]; exact hl)], hv⟩
    · rw [List.getElem?_set_ne e1] at e ⊢
      exact I.sl j t e
  · have e1 : i ≠ j := fun e => hi q (e ▸ w)
    exact (I.bor j q w).same (List.getElem?_set_ne e1) (List.getElem?_set_ne e1)
  · rcases own' j q o with ⟨rfl, h⟩ | ⟨_, o⟩
    · exact .inr (hB q h)
    · exact I.own j q o
  · rcases own' j q a with ⟨e1, e2⟩ | ⟨_, a1⟩
    · rcases own' k q b with ⟨e3, _⟩ | ⟨_, b1⟩
      · rw [e1, e3]
      · exact absurd b1 (hn q e2 k)
    · rcases own' k q b with ⟨e3, e4⟩ | ⟨_, b1⟩
      · exact absurd a1 (hn q e4 j)
      · exact I.dis j k q a1 b1
theorem I3.putO (I : I3 Z B W M H σ δ) {i : Nat} {p : Addr} {ho : HO} {y : OD} (hi : ∀ p, (i, p) ∉ W) (hl : i < δ.length) (hp : H p = some ho) (hy : ODAt Z M ho y) (hm : M p = none) (hB : B.h p = none) (hn : ∀ j, ¬ Own σ δ j p) :
    I3 Z B W M H (σ.set i (some (.ref p))) (δ.set i (.own y)) :=
  I.putS hi hl ⟨p, ho, rfl, hp, hy, hm⟩ (fun _ h => h ▸ hB) fun _ h => h ▸ hn
/-- what slot i holds alone is a datum from now on -/
theorem I3.freeze (I : I3 Z B W M H σ δ) {i : Nat} {xs : List D} (hi : ∀ p, (i, p) ∉ W) (h : δ[i]? = some (.own (.lst xs))) : ∃ M', Ex M M' ∧ I3 Z B W M' H σ (δ.set i (.d (.lst xs))) := by
  obtain ⟨o, e1, p, ho, rfl, e3, e4, e5⟩ := I.sl i _ h
  obtain ⟨vs, rfl, a⟩ := e4.lstI
  have hO : Own σ δ i p := Own.mk e1 h
  have hl : i < δ.length := (List.getElem?_eq_some_iff.mp h).1
  have ex : Ex M (upd M p (.lst vs)) := Ex.new e5
  have es : σ.set i (some (.ref p)) = σ := by
    apply List.ext_getElem?
    intro j
    by_cases e : i = j
    · subst e; rw [List.getElem?_set_self (by rw [I.len]; exact hl), e1]
    · rw [List.getElem?_set_ne e]
  have bad : ∀ j q, Own σ (δ.set i (.d (.lst xs))) j q → i ≠ j ∧ Own σ δ j q := fun j q o => by
    rw [← es] at o
    exact Own.setN (hol_d _) o
  refine ⟨_, ex, fun b u q => ?_, fun a u e n => ?_, I.keep, by rw [List.length_set]; exact I.len, fun j t e => ?_, fun j q w => ?_, fun j q o => I.own j q (bad j q o).2, fun j k q a b => I.dis j k q (bad j q a).2 (bad k q b).2⟩
  · by_cases z : b = p
    · subst z; rw [upd_same] at q; cases q; exact e3
    · rw [upd_ne z] at q; exact I.ex b u q
  · rcases I.own i p hO with z | z
    · exact absurd z (hi p)
    · rw [upd_ne (ne_of_none e z)]; exact I.mg a u e n
  · by_cases e' : i = j
    · subst e'
      rw [List.getElem?_set_self hl] at e; cases e
      exact ⟨_, e1, _, rfl, .lst upd_same a.len (a.mono ex).at'⟩
    · rw [List.getElem?_set_ne e'] at e
      obtain ⟨v, c, d⟩ := I.sl j t e
      refine ⟨v, c, ?_⟩
      cases t with
      | no => trivial
      | d x => obtain ⟨u, f, g⟩ := d; exact ⟨u, f, g.mono ex⟩
      | own z =>
        obtain ⟨q, hq, f, g, k, l⟩ := d
        subst f
        have hq' : q ≠ p := fun zz => e' (I.dis i j p hO (zz ▸ Own.mk c e))
        exact ⟨q, hq, rfl, g, k.mono ex, by rw [upd_ne hq']; exact l⟩
      | deal q cs n =>
        obtain ⟨r, f, g, k, l, m, o⟩ := d
        subst f
        have hr : r ≠ p := fun zz => e' (I.dis i j p hO (zz ▸ ⟨r, _, c, e, .inl rfl⟩))
        have hq : q ≠ p := fun zz => e' (I.dis i j p hO (zz ▸ ⟨r, _, c, e, .inr rfl⟩))
        exact ⟨r, rfl, g, k, by rw [upd_ne hr]; exact l, by rw [upd_ne hq]; exact m, o⟩
  · have e' : i ≠ j := fun e => hi q (e ▸ w)
    exact (I.bor j q w).same rfl (List.getElem?_set_ne e')
/-- all that the slots hold alone -/
def holds : Option V → S → List Addr
  | some (.ref p), .own _ => [p]
  | some (.ref p), .deal q _ _ => [p, q]
  | _, _ => []
theorem mem_holds {o : Option V} {s : S} {a : Addr} : a ∈ holds o s ↔ ∃ p, o = some (.ref p) ∧ Hol p s a := by
  cases o with
  | none => simp [holds]
  | some v =>
    cases v with
    | ref p => cases s <;> simp [holds, Hol]
    | _ => simp [holds]
def owns : Nat → St → List S → List (Nat × Addr)
  | i, o :: σ, s :: δ => (holds o s).map (fun a => (i, a)) ++ owns (i + 1) σ δ
  | _, _, _ => []
theorem owns_of : ∀ (σ : St) (δ : List S) (n i : Nat) (p : Addr), (i, p) ∈ owns n σ δ ↔ ∃ j, i = n + j ∧ Own σ δ j p
  | [], δ, n, i, p => by
    constructor
    · intro h; cases δ <;> simp [owns] at h
    · rintro ⟨j, _, q, s, h, _⟩; simp at h
  | o :: σ, [], n, i, p => by
    constructor
    · intro h; simp [owns] at h
    · rintro ⟨j, _, q, s, _, h, _⟩; simp at h
  | o :: σ, s :: δ, n, i, p => by
    have ih := owns_of σ δ (n + 1) i p
    have tail : (∃ j, i = n + 1 + j ∧ Own σ δ j p) ↔ ∃ j, i = n + (j + 1) ∧ Own (o :: σ) (s :: δ) (j + 1) p := by
      constructor
      · rintro ⟨j, e, h⟩; exact ⟨j, by omega, by unfold Own at h ⊢; simpa using h⟩
      · rintro ⟨j, e, h⟩; exact ⟨j, by omega, by unfold Own at h ⊢; simpa using h⟩
    have zero : Own (o :: σ) (s :: δ) 0 p ↔ p ∈ holds o s := by
      rw [mem_holds]
      unfold Own
      constructor
      · rintro ⟨q, u, a, b, c⟩; simp at a b; subst b; exact ⟨q, a, c⟩
      · rintro ⟨q, a, c⟩; exact ⟨q, s, by simp [a], by simp, c⟩
    rw [show owns n (o :: σ) (s :: δ) = (holds o s).map (fun a => (n, a)) ++ owns (n + 1) σ δ from rfl, List.mem_append, ih, tail, List.mem_map]
    constructor
    · rintro (⟨a, h, e⟩ | ⟨j, e, h⟩)
      · cases e; exact ⟨0, rfl, zero.mpr h⟩
      · exact ⟨j + 1, e, h⟩
    · rintro ⟨j, e, h⟩
      cases j with
      | zero => exact .inl ⟨p, zero.mp h, by rw [e]; rfl⟩
      | succ j => exact .inr ⟨j, e, h⟩
theorem mem_owns {i : Nat} {p : Addr} : (i, p) ∈ owns 0 σ δ ↔ Own σ δ i p := by
  rw [owns_of]
  constructor
  · rintro ⟨j, e, h⟩; rw [show i = j by omega]; exact h
  · intro h; exact ⟨i, by omega, h⟩
/-- the same state as from here on -/
theorem I3.rebase (I : I3 Z B W M H σ δ) : I3 Z ⟨H, M⟩ (owns 0 σ δ) M H σ δ :=
  ⟨I.ex, fun _ _ _ e _ => e, fun _ _ e _ => e, I.len, I.sl, fun _ _ w => mem_owns.mp w, fun _ _ o => .inl (mem_owns.mpr o), I.dis⟩
theorem I3.back {W2 : List (Nat × Addr)} {σ' : St} {δ' : List S} (I : I3 Z B W M H σ δ) (hW : ∀ i p, (i, p) ∈ W2 ↔ Own σ δ i p) (J : I3 Z ⟨H, M⟩ W2 M' H' σ' δ') : I3 Z B W M' H' σ' δ' := by
  refine ⟨J.ex, fun a o e n => ?_, fun a o e n => J.keep a o (I.keep a o e n) fun i hi => ?_, J.len, J.sl, fun i p w => J.bor i p ((hW i p).mpr (I.bor i p w)), fun i p o => ?_, J.dis⟩
  · cases q : H a with
    | none => rw [I.fresh q] at e; cases e
    | some u => exact fun t => J.mg a u q (I.mg a o e n t) (I.nt e t q)
  · rcases I.own i a ((hW i a).mp hi) with q | q
    · exact n i q
    · rw [e] at q; cases q
  · rcases J.own i p o with q | q
    · exact I.own i p ((hW i p).mp q)
    · exact .inr (I.fresh q)
/-- what nobody here holds stays -/
theorem I3.stays {a : Addr} {o : HO} (J : I3 Z B W M H σ δ) (h : B.h a = some o) (hm : B.m a = none) (hn : ∀ i, (i, a) ∉ W) (t : NT o) : H a = some o ∧ (∀ i, ¬ Own σ δ i a) ∧ M a = none := by
  refine ⟨J.keep a o h hn, fun i q => ?_, J.mg a o h hm t⟩
  rcases J.own i a q with z | z
  · exact hn i z
  · rw [h] at z; cases z
end
end G
set_option Elab.async false
set_option linter.all false
set_option maxRecDepth 100000
set_option maxHeartbeats 4000000
namespace G
open PySem L2
section
variable {Z : Wd} {M H M' H' : Hp} {B : Bas} {W : List (Nat × Addr)} {σ : St} {δ : List S}
/-- a new object that nobody holds becomes a datum -/
theorem I3.hold (I : I3 Z B W M H σ δ) {p : Addr} {o : HO} (hp : H p = some o) (hm : M p = none) (hB : B.h p = none) (hn : ∀ i, ¬ Own σ δ i p) : I3 Z B W (upd M p o) H σ δ := by
  have ex : Ex M (upd M p o) := Ex.new hm
  refine ⟨fun b u q => ?_, fun a u e n => by rw [upd_ne (ne_of_none e hB)]; exact I.mg a u e n, I.keep, I.len, fun j t e => ?_, I.bor, I.own, I.dis⟩
  · by_cases z : b = p
    · subst z; rw [upd_same] at q; cases q; exact hp
    · rw [upd_ne z] at q; exact I.ex b u q
  · obtain ⟨v, c, d⟩ := I.sl j t e
    refine ⟨v, c, ?_⟩
    cases t with
    | no => trivial
    | d x => obtain ⟨u, f, g⟩ := d; exact ⟨u, f, g.mono ex⟩
    | own z =>
      obtain ⟨q, hq, f, g, k, l⟩ := d
      subst f
      have hq' : q ≠ p := fun zz => hn j (zz ▸ Own.mk c e)
      exact ⟨q, hq, rfl, g, k.mono ex, by rw [upd_ne hq']; exact l⟩
    | deal q cs n =>
      obtain ⟨r, f, g, k, l, m, o⟩ := d
      subst f
      have hr : r ≠ p := fun zz => hn j (zz ▸ ⟨r, _, c, e, .inl rfl⟩)
      have hq : q ≠ p := fun zz => hn j (zz ▸ ⟨r, _, c, e, .inr rfl⟩)
      exact ⟨r, rfl, g, k, by rw [upd_ne hr]; exact l, by rw [upd_ne hq]; exact m, o⟩
/-! ### judgements -/
def ResOk (Z : Wd) (B : Bas) (M H : Hp) (σ : St) (δ : List S) (v : V) : S → Prop
  | .no => False
  | .d x => At Z M v x
  | .own y => ∃ p ho, v = .ref p ∧ H p = some ho ∧ ODAt Z M ho y ∧ M p = none ∧ B.h p = none ∧ ∀ i, ¬ Own σ δ i p
  | .deal q cs n => ∃ p, v = .ref p ∧ SlotOk Z M H (some v) (.deal q cs n) ∧ ∀ a, Hol p (.deal q cs n) a → B.h a = none ∧ ∀ i, ¬ Own σ δ i a
/-- an expression: its answer is a datum, or a new object that nobody holds -/
def XR (Z : Wd) (te : TE) (δ : List S) (Φ : S → List S → Prop) : Prop :=
  ∀ B W M H σ (Q : VK), I3 Z B W M H σ δ → (∀ M' H' δ' v s, Φ s δ' → Ex M M' → I3 Z B W M' H' σ δ' → ResOk Z B M' H' σ δ' v s → Q v H') → te σ H Q
def onD (Φ : D → List S → Prop) : S → List S → Prop
  | .d x, δ => Φ x δ
  | _, _ => False
def onO (Φ : OD → List S → Prop) : S → List S → Prop
  | .own y, δ => Φ y δ
  | _, _ => False
abbrev XE (Z : Wd) (te : TE) (δ : List S) (Φ : D → List S → Prop) : Prop := XR Z te δ (onD Φ)
abbrev XO (Z : Wd) (te : TE) (δ : List S) (Φ : OD → List S → Prop) : Prop := XR Z te δ (onO Φ)
def XT (Z : Wd) (tt : TT) (δ : List S) (Φ : Bool → List S → Prop) : Prop :=
  ∀ B W M H σ (Q : Bool → Hp → Prop), I3 Z B W M H σ δ → (∀ M' H' δ' b, Φ b δ' → Ex M M' → I3 Z B W M' H' σ δ' → Q b H') → tt σ H Q
def XA (Z : Wd) (ta : TA) (δ : List S) (Φ : List D → List S → Prop) : Prop :=
  ∀ B W M H σ (Q : List V → Hp → Prop), I3 Z B W M H σ δ → (∀ M' H' δ' vs ds, Φ ds δ' → Ex M M' → I3 Z B W M' H' σ δ' → AtL Z M' vs ds → Q vs H') → ta σ H Q
/-- a target; vs: the slots that it may change -/
def XG (Z : Wd) (vs bs : List Nat) (g : TG) (x : D) (δ : List S) (Φ : List S → Prop) : Prop :=
  ∀ B W M H σ v (Q : St → Hp → Prop), W.map (·.1) = bs → I3 Z B W M H σ δ → At Z M v x →
    (∀ M' H' σ' δ', Φ δ' → Ex M M' → I3 Z B W M' H' σ' δ' → (∀ j, j ∉ vs → σ'[j]? = σ[j]?) → σ'.length = σ.length → Q σ' H') → g v σ H Q
structure Po where
  N : List S → Prop
  R : S → List S → Prop
  B : List S → Prop := fun _ => False
  C : List S → Prop := fun _ => False
  X : Bas → List (Nat × Addr) → Hp → Prop := fun _ _ _ => True
def RetOk (Z : Wd) (B : Bas) (M H : Hp) (v : V) : S → Prop
  | .no => False
  | .d x => At Z M v x
  | .own y => ∃ p ho, v = .ref p ∧ H p = some ho ∧ ODAt Z M ho y ∧ M p = none ∧ B.h p = none
  | .deal q cs n => ∃ p, v = .ref p ∧ SlotOk Z M H (some v) (.deal q cs n) ∧ ∀ a, Hol p (.deal q cs n) a → B.h a = none
structure EndsOk (Z : Wd) (B : Bas) (W : List (Nat × Addr)) (M : Hp) (P : Po) (E : Ends) : Prop where
  nx : ∀ M' H' σ' δ', P.N δ' → Ex M M' → I3 Z B W M' H' σ' δ' → E.nx σ' H'
  rt : ∀ M' H' σ' δ' v s, P.R s δ' → Ex M M' → I3 Z B W M' H' σ' δ' → RetOk Z B M' H' v s → E.rt v H'
  bk : ∀ M' H' σ' δ', P.B δ' → Ex M M' → I3 Z B W M' H' σ' δ' → E.bk σ' H'
  ct : ∀ M' H' σ' δ', P.C δ' → Ex M M' → I3 Z B W M' H' σ' δ' → E.ct σ' H'
  xc : ∀ M', Ex M M' → P.X B W M'
def XS (Z : Wd) (bs : List Nat) (ts : TS) (δ : List S) (P : Po) : Prop :=
  ∀ B W M H σ E, W.map (·.1) = bs → I3 Z B W M H σ δ → EndsOk Z B W M P E → ts E σ H
theorem EndsOk.mono {P : Po} {E : Ends} (e : Ex M M') (h : EndsOk Z B W M P E) : EndsOk Z B W M' P E :=
  ⟨fun _ _ _ _ p x => h.nx _ _ _ _ p (e.tr x), fun _ _ _ _ _ _ p x => h.rt _ _ _ _ _ _ p (e.tr x), fun _ _ _ _ p x => h.bk _ _ _ _ p (e.tr x), fun _ _ _ _ p x => h.ct _ _ _ _ p (e.tr x), fun _ x => h.xc _ (e.tr x)⟩
variable {te ta tb tv : TE} {tt t u : TT} {Φ : D → List S → Prop} {Ψ : S → List S → Prop}
theorem XE.run {Q : VK} (h : XE Z te δ Φ) (I : I3 Z B W M H σ δ) (k : ∀ M' H' δ' v d, Φ d δ' → Ex M M' → I3 Z B W M' H' σ δ' → At Z M' v d → Q v H') : te σ H Q :=
  h B W M H σ Q I fun M' H' δ' v s p e I' r => by
    cases s with
    | d x => exact k M' H' δ' v x p e I' r
    | _ => exact False.elim p
theorem XE.mk (h : ∀ B W M H σ (Q : VK), I3 Z B W M H σ δ → (∀ M' H' δ' v d, Φ d δ' → Ex M M' → I3 Z B W M' H' σ δ' → At Z M' v d → Q v H') → te σ H Q) : XE Z te δ Φ :=
  fun B W M H σ Q I k => h B W M H σ Q I fun M' H' δ' v d p e I' a => k M' H' δ' v (.d d) p e I' a
theorem XO.mk {Φ : OD → List S → Prop} (h : ∀ B W M H σ (Q : VK), I3 Z B W M H σ δ → (∀ M' H' δ' p ho y, Φ y δ' → Ex M M' → I3 Z B W M' H' σ δ' → H' p = some ho → ODAt Z M' ho y → M' p = none → B.h p = none → (∀ i, ¬ Own σ δ' i p) → Q (.ref p) H') → te σ H Q) : XO Z te δ Φ :=
  fun B W M H σ Q I k => h B W M H σ Q I fun M' H' δ' p ho y f e I' a b c d g => k M' H' δ' _ (.own y) f e I' ⟨p, ho, rfl, a, b, c, d, g⟩
theorem XO.run {Q : VK} {Φ : OD → List S → Prop} (h : XO Z te δ Φ) (I : I3 Z B W M H σ δ) (k : ∀ M' H' δ' p ho y, Φ y δ' → Ex M M' → I3 Z B W M' H' σ δ' → H' p = some ho → ODAt Z M' ho y → M' p = none → B.h p = none → (∀ i, ¬ Own σ δ' i p) → Q (.ref p) H') : te σ H Q :=
  h B W M H σ Q I fun M' H' δ' v s f e I' r => by
    cases s with
    | own y => obtain ⟨p, ho, rfl, a, b, c, d, g⟩ := r; exact k M' H' δ' p ho y f e I' a b c d g
    | _ => exact False.elim f
theorem XR.imp {Ψ' : S → List S → Prop} (h : XR Z te δ Ψ) (k : ∀ s δ', Ψ s δ' → Ψ' s δ') : XR Z te δ Ψ' :=
  fun B W M H σ Q I q => h B W M H σ Q I fun M' H' δ' v s p => q M' H' δ' v s (k s δ' p)
/-- a new list that is used as a datum -/
theorem xe_ofO (h : XO Z te δ fun y δ' => ∃ xs, y = .lst xs ∧ Φ (.lst xs) δ') : XE Z te δ Φ := XE.mk fun B W M H σ Q I k =>
  h.run I fun M' H' δ' p ho y f e I' a b c d g => by
    obtain ⟨xs, rfl, f⟩ := f
    obtain ⟨vs, rfl, l⟩ := b.lstI
    have ex : Ex M' (upd M' p (.lst vs)) := Ex.new c
    exact k _ _ δ' _ _ f (e.tr ex) (I'.hold a c d g) (.lst upd_same l.len (l.mono ex).at')
/-! ### names, constants -/
theorem xe_var {i : Nat} {d : D} (h : δ[i]? = some (.d d)) (k : Φ d δ) : XE Z (tVar i) δ Φ := XE.mk fun B W M H σ Q I q => by
  obtain ⟨o, e, v, rfl, a⟩ := I.sl i _ h
  exact ⟨v, e, q M H δ v d k Ex.rfl' I a⟩
theorem xe_non (k : Φ .non δ) : XE Z (tC .non) δ Φ := XE.mk fun B W M H σ Q I q => q M H δ _ _ k Ex.rfl' I .non
theorem xe_bl {b : Bool} (k : Φ (.bl b) δ) : XE Z (tC (.bl b)) δ Φ := XE.mk fun B W M H σ Q I q => q M H δ _ _ k Ex.rfl' I .bl
theorem xe_int {b : Int} (k : Φ (.int b) δ) : XE Z (tC (.int b)) δ Φ := XE.mk fun B W M H σ Q I q => q M H δ _ _ k Ex.rfl' I .int
theorem xe_str {b : Str} (k : Φ (.str b) δ) : XE Z (tC (.str b)) δ Φ := XE.mk fun B W M H σ Q I q => q M H δ _ _ k Ex.rfl' I .str
/-! ### ints -/
theorem xe_I0 {g : Int → Int → Int} (h : XE Z ta δ fun a δ1 => XE Z tb δ1 fun b δ2 => ∃ i j, a = .int i ∧ b = .int j ∧ Φ (.int (g i j)) δ2) : XE Z (tOp (rI0 fun i j => .int (g i j)) ta tb) δ Φ := XE.mk fun B W M H σ Q I q =>
  h.run I fun M1 H1 δ1 x a h1 e1 I1 at1 => XE.run h1 I1 fun M2 H2 δ2 y b h2 e2 I2 at2 => by
    obtain ⟨i, j, rfl, rfl, f⟩ := h2
    cases at1; cases at2
    exact ⟨i, j, rfl, rfl, q M2 H2 δ2 _ _ f (e1.tr e2) I2 .int⟩
theorem xe_I {C : Int → Int → Prop} {g : Int → Int → Int} (h : XE Z ta δ fun a δ1 => XE Z tb δ1 fun b δ2 => ∃ i j, a = .int i ∧ b = .int j ∧ C i j ∧ Φ (.int (g i j)) δ2) : XE Z (tOp (rI C fun i j => .int (g i j)) ta tb) δ Φ := XE.mk fun B W M H σ Q I q =>
  h.run I fun M1 H1 δ1 x a h1 e1 I1 at1 => XE.run h1 I1 fun M2 H2 δ2 y b h2 e2 I2 at2 => by
    obtain ⟨i, j, rfl, rfl, c, f⟩ := h2
    cases at1; cases at2
    exact ⟨i, j, rfl, rfl, c, q M2 H2 δ2 _ _ f (e1.tr e2) I2 .int⟩
theorem xe_B0 {g : Int → Int → Bool} (h : XE Z ta δ fun a δ1 => XE Z tb δ1 fun b δ2 => ∃ i j, a = .int i ∧ b = .int j ∧ Φ (.bl (g i j)) δ2) : XE Z (tOp (rI0 fun i j => .bl (g i j)) ta tb) δ Φ := XE.mk fun B W M H σ Q I q =>
  h.run I fun M1 H1 δ1 x a h1 e1 I1 at1 => XE.run h1 I1 fun M2 H2 δ2 y b h2 e2 I2 at2 => by
    obtain ⟨i, j, rfl, rfl, f⟩ := h2
    cases at1; cases at2
    exact ⟨i, j, rfl, rfl, q M2 H2 δ2 _ _ f (e1.tr e2) I2 .bl⟩
/-! ### scalars -/
def sc : D → Option V
  | .non => some .non | .bl b => some (.bl b) | .int i => some (.int i) | .str s => some (.str s)
  | _ => none
theorem At.scal {v w : V} {d : D} (a : At Z M v d) (h : sc d = some w) : v = w := by
  cases a <;> simp [sc] at h <;> exact h
theorem xe_eq (h : XE Z ta δ fun a δ1 => XE Z tb δ1 fun b δ2 => ∃ v w, sc a = some v ∧ sc b = some w ∧ scal v w = true ∧ Φ (.bl (decide (v = w))) δ2) : XE Z (tOp rEq ta tb) δ Φ := XE.mk fun B W M H σ Q I q =>
  h.run I fun M1 H1 δ1 x a h1 e1 I1 at1 => XE.run h1 I1 fun M2 H2 δ2 y b h2 e2 I2 at2 => by
    obtain ⟨v, w, s1, s2, c, f⟩ := h2
    cases at1.scal s1; cases at2.scal s2
    exact ⟨c, q M2 H2 δ2 _ _ f (e1.tr e2) I2 .bl⟩
theorem xe_ne (h : XE Z ta δ fun a δ1 => XE Z tb δ1 fun b δ2 => ∃ v w, sc a = some v ∧ sc b = some w ∧ scal v w = true ∧ Φ (.bl (!decide (v = w))) δ2) : XE Z (tOp rNe ta tb) δ Φ := XE.mk fun B W M H σ Q I q =>
  h.run I fun M1 H1 δ1 x a h1 e1 I1 at1 => XE.run h1 I1 fun M2 H2 δ2 y b h2 e2 I2 at2 => by
    obtain ⟨v, w, s1, s2, c, f⟩ := h2
    cases at1.scal s1; cases at2.scal s2
    exact ⟨c, q M2 H2 δ2 _ _ f (e1.tr e2) I2 .bl⟩
/-! ### any data: == and != -/
mutual
def py : D → PyData
  | .non => .none | .bl b => .bool b | .int i => .int i | .str s => .str s
  | .lst xs => .list (pyL xs) | .tup xs => .tuple (pyL xs)
  | .obj _ _ => .none | .scr ns => .list (ns.map .int) | .exc _ _ _ _ => .none | .dic _ _ => .none | .tupF _ => .none | .ref _ => .none | .tupT xs => .tuple (pyL xs) | .dicF _ _ => .none | .dicT _ _ => .none
def pyL : List D → List PyData
  | [] => []
  | x :: xs => py x :: pyL xs
end
mutual
def pla : D → Bool
  | .non => true | .bl b => true | .int i => true | .str s => true
  | .lst xs => plaL xs | .tup xs => plaL xs
  | .obj _ _ => false | .scr _ => false | .exc _ _ _ _ => false | .dic _ _ => false | .tupF _ => false | .ref _ => false | .tupT xs => plaL xs | .dicF _ _ => false | .dicT _ _ => false
def plaL : List D → Bool
  | [] => true
  | x :: xs => pla x && plaL xs
end
mutual
theorem At.dp : ∀ (d : D) (v : V), At Z M v d → Ex M H → pla d = true → Dp Z.K H v (py d)
  | .non, _, .non, _, _ => .non
  | .bl _, _, .bl, _, _ => .bl _
  | .int _, _, .int, _, _ => .int _
  | .str _, _, .str, _, _ => .str _
  | .lst ds, _, .lst h l k, e, p => .lst (SqL.of (e _ _ h)) (AtL.dp ds _ ⟨l, k⟩ e p)
  | .tup ds, _, .tup h l k, e, p => .tup (sqT_mono e h) (AtL.dp ds _ ⟨l, k⟩ e p)
  | .tupT ds, _, .tupT h l k, e, p => .tup (.inl (.inl (e _ _ h))) (AtL.dp ds _ ⟨l, k⟩ e p)
theorem AtL.dp : ∀ (ds : List D) (vs : List V), AtL Z M vs ds → Ex M H → plaL ds = true → DpAll Z.K H vs (pyL ds)
  | [], vs, a, _, _ => by rw [a.inv0]; exact .nil
  | d :: ds, vs, a, e, p => by
    obtain ⟨v, ws, rfl, a1, a2⟩ := a.inv
    have p' : (pla d && plaL ds) = true := p
    rw [Bool.and_eq_true] at p'
    exact .cons (At.dp d v a1 e p'.1) (AtL.dp ds ws a2 e p'.2)
end
theorem xe_eqD (h : XE Z ta δ fun a δ1 => XE Z tb δ1 fun b δ2 => pla a = true ∧ pla b = true ∧ SeqAt.shaped (py a) = true ∧ SeqAt.shaped (py b) = true ∧ Φ (.bl (PyData.eqv (py a) (py b))) δ2) : XE Z (tOp (rEqD Z.K) ta tb) δ Φ := XE.mk fun B W M H σ Q I q =>
  h.run I fun M1 H1 δ1 x a h1 e1 I1 at1 => XE.run h1 I1 fun M2 H2 δ2 y b h2 e2 I2 at2 => by
    obtain ⟨pa, pb, sa, sb, f⟩ := h2
    exact ⟨_, _, At.dp a x (at1.mono e2) I2.ex pa, At.dp b y at2 I2.ex pb, sa, sb, q M2 H2 δ2 _ _ f (e1.tr e2) I2 .bl⟩
theorem xe_neD (h : XE Z ta δ fun a δ1 => XE Z tb δ1 fun b δ2 => pla a = true ∧ pla b = true ∧ SeqAt.shaped (py a) = true ∧ SeqAt.shaped (py b) = true ∧ Φ (.bl (!PyData.eqv (py a) (py b))) δ2) : XE Z (tOp (rNeD Z.K) ta tb) δ Φ := XE.mk fun B W M H σ Q I q =>
  h.run I fun M1 H1 δ1 x a h1 e1 I1 at1 => XE.run h1 I1 fun M2 H2 δ2 y b h2 e2 I2 at2 => by
    obtain ⟨pa, pb, sa, sb, f⟩ := h2
    exact ⟨_, _, At.dp a x (at1.mono e2) I2.ex pa, At.dp b y at2 I2.ex pb, sa, sb, q M2 H2 δ2 _ _ f (e1.tr e2) I2 .bl⟩
/-! ### tests -/
variable {Θ : Bool → List S → Prop}
theorem xt_test (h : XE Z te δ fun d δ' => ∃ b, d = .bl b ∧ Θ b δ') : XT Z (tTest te) δ Θ := fun B W M H σ Q I q =>
  h.run I fun M1 H1 δ1 x a h1 e1 I1 at1 => by
    obtain ⟨b, rfl, f⟩ := h1
    cases at1
    exact ⟨b, rfl, q M1 H1 δ1 b f e1 I1⟩
theorem xt_B (h : XE Z te δ fun d δ' => ∃ b, d = .bl b ∧ Θ b δ') : XT Z (tB te) δ Θ := fun B W M H σ Q I q =>
  h.run I fun M1 H1 δ1 x a h1 e1 I1 at1 => by
    obtain ⟨b, rfl, f⟩ := h1
    cases at1
    exact ⟨b, rfl, q M1 H1 δ1 b f e1 I1⟩
theorem xt_and (h : XT Z t δ fun b δ' => if b = true then XT Z u δ' Θ else Θ false δ') : XT Z (tAnd t u) δ Θ := fun B W M H σ Q I q =>
  h B W M H σ _ I fun M1 H1 δ1 b h1 e1 I1 => by
    cases b with
    | true => rw [if_pos rfl] at h1 ⊢; exact h1 B W M1 H1 σ Q I1 fun M2 H2 δ2 c h2 e2 I2 => q M2 H2 δ2 c h2 (e1.tr e2) I2
    | false => rw [if_neg Bool.false_ne_true] at h1 ⊢; exact q M1 H1 δ1 _ h1 e1 I1
theorem xt_or (h : XT Z t δ fun b δ' => if b = true then Θ true δ' else XT Z u δ' Θ) : XT Z (tOr t u) δ Θ := fun B W M H σ Q I q =>
  h B W M H σ _ I fun M1 H1 δ1 b h1 e1 I1 => by
    cases b with
    | false => rw [if_neg Bool.false_ne_true] at h1 ⊢; exact h1 B W M1 H1 σ Q I1 fun M2 H2 δ2 c h2 e2 I2 => q M2 H2 δ2 c h2 (e1.tr e2) I2
    | true => rw [if_pos rfl] at h1 ⊢; exact q M1 H1 δ1 _ h1 e1 I1
theorem xt_not (h : XT Z t δ fun b δ' => Θ (!b) δ') : XT Z (tNot t) δ Θ := fun B W M H σ Q I q =>
  h B W M H σ _ I fun M1 H1 δ1 b h1 e1 I1 => q M1 H1 δ1 _ h1 e1 I1
theorem xt_yes (k : Θ true δ) : XT Z tYes δ Θ := fun B W M H σ Q I q => q M H δ true k Ex.rfl' I
/-- truth -/
def tru : D → Option Bool
  | .non => some false | .bl b => some b | .int i => some (i != 0) | .str s => some (decide (s.length ≤ sizeLine) && ((s.length : Int) != 0)) | .lst xs => some (!xs.isEmpty) | .tup xs => some (!xs.isEmpty)
  | _ => none
theorem empty_of {vs : List V} {ds : List D} (a : AtL Z M vs ds) : (!ds.isEmpty) = !vs.isEmpty := by
  have := a.len
  cases vs <;> cases ds <;> simp at this ⊢
theorem tru_of {v : V} {d : D} {b : Bool} (a : At Z M v d) (e : Ex M H) (hs : ∀ s, d = .str s → s.length ≤ sizeLine) (h : tru d = some b) : TruV Z.K v H b := by
  cases a with
  | non => cases h; rfl
  | bl => cases h; rfl
  | int => cases h; rfl
  | str =>
    have hs := hs _ rfl
    refine ⟨hs, ?_⟩
    simp only [tru, hs, decide_true, Bool.true_and, Option.some.injEq] at h
    exact h.symm
  | lst h1 l k => cases h; exact .inl ⟨_, SqL.of (e _ _ h1), empty_of ⟨l, k⟩⟩
  | tup h1 l k => cases h; exact .inr (.inl ⟨_, sqT_mono e h1, empty_of ⟨l, k⟩⟩)
  | _ => cases h
theorem xt_truth (h : XE Z ta δ fun d δ' => (∀ s, d = .str s → s.length ≤ sizeLine) ∧ ∃ b, tru d = some b ∧ Θ b δ') : XT Z (fun σ H Q => ta σ H fun x H' => ∃ k, TruV Z.K x H' k ∧ Q k H') δ Θ := fun B W M H σ Q I q =>
  h.run I fun M1 H1 δ1 x a h1 e1 I1 at1 => by
    obtain ⟨hs, b, e, f⟩ := h1
    exact ⟨b, tru_of at1 I1.ex hs e, q M1 H1 δ1 b f e1 I1⟩
/-- and, or, not as values -/
theorem xe_andV (h : XE Z ta δ fun a δ1 => ∃ c, a = .bl c ∧ if c = true then XE Z tb δ1 Φ else Φ (.bl false) δ1) : XE Z (tAndV ta tb) δ Φ := XE.mk fun B W M H σ Q I q =>
  h.run I fun M1 H1 δ1 x a h1 e1 I1 at1 => by
    obtain ⟨c, rfl, f⟩ := h1
    cases at1
    refine ⟨c, rfl, ?_⟩
    cases c with
    | true => rw [if_pos rfl] at f ⊢; exact XE.run f I1 fun M2 H2 δ2 y b h2 e2 I2 at2 => q M2 H2 δ2 y b h2 (e1.tr e2) I2 at2
    | false => rw [if_neg Bool.false_ne_true] at f ⊢; exact q M1 H1 δ1 _ _ f e1 I1 .bl
theorem xe_orV (h : XE Z ta δ fun a δ1 => ∃ c, a = .bl c ∧ if c = true then Φ (.bl true) δ1 else XE Z tb δ1 Φ) : XE Z (tOrV ta tb) δ Φ := XE.mk fun B W M H σ Q I q =>
  h.run I fun M1 H1 δ1 x a h1 e1 I1 at1 => by
    obtain ⟨c, rfl, f⟩ := h1
    cases at1
    refine ⟨c, rfl, ?_⟩
    cases c with
    | false => rw [if_neg Bool.false_ne_true] at f ⊢; exact XE.run f I1 fun M2 H2 δ2 y b h2 e2 I2 at2 => q M2 H2 δ2 y b h2 (e1.tr e2) I2 at2
    | true => rw [if_pos rfl] at f ⊢; exact q M1 H1 δ1 _ _ f e1 I1 .bl
theorem xe_notV (h : XE Z ta δ fun a δ1 => ∃ c, a = .bl c ∧ Φ (.bl (!c)) δ1) : XE Z (tNotV ta) δ Φ := XE.mk fun B W M H σ Q I q =>
  h.run I fun M1 H1 δ1 x a h1 e1 I1 at1 => by
    obtain ⟨c, rfl, f⟩ := h1
    cases at1
    exact ⟨c, rfl, q M1 H1 δ1 _ _ f e1 I1 .bl⟩
theorem xr_if (h : XT Z t δ fun b δ' => if b = true then XR Z ta δ' Ψ else XR Z tb δ' Ψ) : XR Z (tIf t ta tb) δ Ψ := fun B W M H σ Q I q =>
  h B W M H σ _ I fun M1 H1 δ1 b h1 e1 I1 => by
    cases b with
    | true => rw [if_pos rfl] at h1 ⊢; exact h1 B W M1 H1 σ Q I1 fun M2 H2 δ2 v s h2 e2 I2 => q M2 H2 δ2 v s h2 (e1.tr e2) I2
    | false => rw [if_neg Bool.false_ne_true] at h1 ⊢; exact h1 B W M1 H1 σ Q I1 fun M2 H2 δ2 v s h2 e2 I2 => q M2 H2 δ2 v s h2 (e1.tr e2) I2
/-! ### argument lists, displays -/
variable {Λ : List D → List S → Prop} {ts : TA}
theorem xa_nil (k : Λ [] δ) : XA Z tNil δ Λ := fun B W M H σ Q I q => q M H δ [] [] k Ex.rfl' I .nil
theorem xa_cons (h : XE Z te δ fun d δ1 => XA Z ts δ1 fun ds δ2 => Λ (d :: ds) δ2) : XA Z (tCons te ts) δ Λ := fun B W M H σ Q I q =>
  h.run I fun M1 H1 δ1 x a h1 e1 I1 at1 => h1 B W M1 H1 σ _ I1 fun M2 H2 δ2 vs ds h2 e2 I2 at2 => q M2 H2 δ2 _ _ h2 (e1.tr e2) I2 (.cons (at1.mono e2) at2)
theorem xa_star (h : XE Z te δ fun d δ1 => ∃ xs, (d = .lst xs ∨ d = .tup xs) ∧ XA Z ts δ1 fun ds δ2 => Λ (xs ++ ds) δ2) : XA Z (StX.tStar Z.K te ts) δ Λ := fun B W M H σ Q I q =>
  h.run I fun M1 H1 δ1 x a h1 e1 I1 at1 => by
    obtain ⟨xs, hx, h1⟩ := h1
    have : ∃ p vs, x = .ref p ∧ (SqT Z.K H1 p vs ∨ SqL Z.K H1 p vs) ∧ AtL Z M1 vs xs := by
      rcases hx with rfl | rfl
      · cases at1 with | lst h l k => exact ⟨_, _, rfl, .inr (SqL.of (I1.ex _ _ h)), l, k⟩
      · cases at1 with | tup h l k => exact ⟨_, _, rfl, .inl (sqT_mono I1.ex h), l, k⟩
    obtain ⟨p, vs, rfl, sq, al⟩ := this
    exact ⟨p, vs, rfl, sq, h1 B W M1 H1 σ _ I1 fun M2 H2 δ2 ws ds h2 e2 I2 at2 => q M2 H2 δ2 _ _ h2 (e1.tr e2) I2 (AtL.app (al.mono e2) at2)⟩
theorem xe_tup (h : XA Z ts δ fun ds δ1 => ds.length ≤ 1000000 ∧ Φ (.tup ds) δ1) : XE Z (tTup ts) δ Φ := XE.mk fun B W M H σ Q I q =>
  h B W M H σ _ I fun M1 H1 δ1 vs ds h1 e1 I1 al => by
    refine ⟨Nat.le_trans (by rw [al.len]; exact h1.1) (by decide), fun p hp => ?_⟩
    have hm := I1.ex.free hp
    exact q _ _ δ1 _ _ h1.2 (e1.tr (Ex.new hm)) (I1.grow hp) (.tup (SqT.of upd_same) al.len (al.mono (Ex.new hm)).at')
theorem I3.newOwn (I : I3 Z B W M H σ δ) {p : Addr} (h : H p = none) : ∀ i, ¬ Own σ δ i p := fun i o => by
  obtain ⟨_, e, _⟩ := I.ownAt o
  rw [h] at e; cases e
theorem xo_lst {Φ : OD → List S → Prop} (h : XA Z ts δ fun ds δ1 => ds.length ≤ 1000000 ∧ Φ (.lst ds) δ1) : XO Z (tLst ts) δ Φ := XO.mk fun B W M H σ Q I q =>
  h B W M H σ _ I fun M1 H1 δ1 vs ds h1 e1 I1 al => by
    refine ⟨Nat.le_trans (by rw [al.len]; exact h1.1) (by decide), fun p hp => ?_⟩
    have hm := I1.ex.free hp
    exact q M1 _ δ1 p _ _ h1.2 e1 (I1.other (I1.fresh hp) hm (I1.newOwn hp)) upd_same al hm (I1.fresh hp) (I1.newOwn hp)
theorem xe_lst (h : XA Z ts δ fun ds δ1 => ds.length ≤ 1000000 ∧ Φ (.lst ds) δ1) : XE Z (tLst ts) δ Φ := xe_ofO (xo_lst fun B W M H σ Q I q => h B W M H σ Q I fun M' H' δ' vs ds k => q M' H' δ' vs ds ⟨k.1, ds, rfl, k.2⟩)
/-! ### statements -/
variable {bs : List Nat} {P : Po} {s1 s2 : TS}
theorem xs_seq (h : XS Z bs s1 δ { P with N := fun δ' => XS Z bs s2 δ' P }) : XS Z bs (tSeq s1 s2) δ P := fun B W M H σ E hb I e =>
  h B W M H σ _ hb I ⟨fun M' H' σ' δ' p x I' => p B W M' H' σ' E hb I' (e.mono x), e.rt, e.bk, e.ct, e.xc⟩
theorem xs_next (k : P.N δ) : XS Z bs tNext δ P := fun B W M H σ E hb I e => e.nx M H σ δ k Ex.rfl' I
theorem xs_if (h : XT Z t δ fun b δ' => if b = true then XS Z bs s1 δ' P else XS Z bs s2 δ' P) : XS Z bs (tIfS t s1 s2) δ P := fun B W M H σ E hb I e =>
  h B W M H σ _ I fun M1 H1 δ1 b h1 e1 I1 => by
    cases b with
    | true => rw [if_pos rfl] at h1 ⊢; exact h1 B W M1 H1 σ E hb I1 (e.mono e1)
    | false => rw [if_neg Bool.false_ne_true] at h1 ⊢; exact h1 B W M1 H1 σ E hb I1 (e.mono e1)
theorem slotD {v : V} {x : D} (a : At Z M v x) : SlotOk Z M H (some v) (.d x) := ⟨v, rfl, a⟩
theorem not_bor {i : Nat} (hb : W.map (·.1) = bs) (hi : i ∉ bs) (p : Addr) : (i, p) ∉ W := fun h => hi (hb ▸ List.mem_map_of_mem h)
theorem xs_set {i : Nat} (hi : i ∉ bs) (h : XE Z te δ fun d δ' => P.N (δ'.set i (.d d))) : XS Z bs (tAsg te (gName i)) δ P := fun B W M H σ E hb I e =>
  h.run I fun M1 H1 δ1 x a h1 e1 I1 at1 => e.nx _ _ _ _ h1 e1 (I1.put (not_bor hb hi) (hol_d _) (slotD at1))
theorem xs_setO {i : Nat} (hi : i ∉ bs) (h : XO Z te δ fun y δ' => i < δ'.length ∧ P.N (δ'.set i (.own y))) : XS Z bs (tAsg te (gName i)) δ P := fun B W M H σ E hb I e =>
  XO.run h I fun M1 H1 δ1 p ho y h1 e1 I1 a b c d g => e.nx _ _ _ _ h1.2 e1 (I1.putO (not_bor hb hi) h1.1 a b c d g)
/-- x, y = a, b -/
theorem xs_par {i j : Nat} (hi : i ∉ bs) (hj : j ∉ bs) (h : XE Z ta δ fun a δ1 => XE Z tb δ1 fun b δ2 => P.N ((δ2.set i (.d a)).set j (.d b))) : XS Z bs (tPar i j (tCons ta (tCons tb tNil))) δ P := fun B W M H σ E hb I e =>
  h.run I fun M1 H1 δ1 x a h1 e1 I1 at1 => XE.run h1 I1 fun M2 H2 δ2 y b h2 e2 I2 at2 =>
    ⟨x, y, rfl, e.nx _ _ _ _ h2 (e1.tr e2) ((I2.put (not_bor hb hi) (hol_d _) (slotD (at1.mono e2))).put (not_bor hb hj) (hol_d _) (slotD at2))⟩
theorem Own.setX {i j : Nat} {p q : Addr} {y : OD} (h : Own (σ.set i (some (.ref q))) (δ.set i (.own y)) j p) : (j = i ∧ p = q) ∨ Own σ δ j p := by
  obtain ⟨r, z, a, b, c⟩ := h
  by_cases e : i = j
  · subst e
    rw [List.getElem?_set] at a b
    split at a
    · split at a
      · cases a
        rename_i h1 h2
        rw [if_pos rfl] at b
        split at b
        · cases b; cases c; exact .inl ⟨rfl, rfl⟩
        · cases b
      · cases a
    · rename_i q; exact absurd rfl q
  · rw [List.getElem?_set_ne e] at a b
    exact .inr ⟨r, z, a, b, c⟩
theorem xs_parOO {i j : Nat} (hi : i ∉ bs) (hj : j ∉ bs) (hij : i ≠ j) (h : XO Z ta δ fun a δ1 => XO Z tb δ1 fun b δ2 => i < δ2.length ∧ j < δ2.length ∧ P.N ((δ2.set i (.own a)).set j (.own b))) : XS Z bs (tPar i j (tCons ta (tCons tb tNil))) δ P := fun B W M H σ E hb I e =>
  XO.run h I fun M1 H1 δ1 p ho a h1 e1 I1 a1 a2 a3 a4 a5 => XO.run h1 I1.rebase fun M2 H2 δ2 q hq b h2 e2 J c1 c2 c3 c4 c5 => by
    obtain ⟨k1, k2, k3⟩ := J.stays a1 a3 (fun i hi => a5 i (mem_owns.mp hi)) (.own a2)
    have I2 := I1.back (fun _ _ => mem_owns) J
    have c4 : H1 q = none := c4
    have hpq : q ≠ p := fun z => by rw [z, a1] at c4; cases c4
    have I3' := (I2.putO (i := i) (not_bor hb hi) h2.1 k1 (a2.mono e2) k3 a4 k2).putO (i := j) (not_bor hb hj) (by rw [List.length_set]; exact h2.2.1) c1 c2 c3 (I1.fresh c4) fun k o => by
      rcases Own.setX o with ⟨_, z⟩ | z
      · exact hpq z
      · exact c5 k z
    exact ⟨_, _, rfl, e.nx _ _ _ _ h2.2.2 (e1.tr e2) I3'⟩
end
end G
set_option Elab.async false
set_option linter.all false
set_option maxRecDepth 100000
set_option maxHeartbeats 4000000
namespace G
open PySem L2
section
variable {Z : Wd} {M H M' H' : Hp} {B : Bas} {W : List (Nat × Addr)} {σ : St} {δ : List S}
variable {te ta tb tv : TE} {tt t u : TT} {Φ : D → List S → Prop} {Ψ : S → List S → Prop} {Ω : OD → List S → Prop} {Λ : List D → List S → Prop} {ts : TA}
/-! ### places -/
theorem atI_at {vs : List V} {xs : List D} {k : Int} {d : D} (a : AtL Z M vs xs) (h : atI xs k = some d) : ∃ v, atI vs k = some v ∧ At Z M v d := by
  unfold atI at h ⊢
  rw [a.len]
  cases e : ixN xs.length k with
  | none => rw [e] at h; cases h
  | some j =>
    rw [e] at h
    exact a.get h
def ixD : D → Int → Option D
  | .lst xs, k => atI xs k
  | .tup xs, k => atI xs k
  | .str s, k => if s.length ≤ sizeLine then (atI s.cps.toList k).map fun c => .str ⟨#[c]⟩ else none
  | .scr ns, k => (atI ns k).map .int
  | _, _ => none
theorem atI_map {α β : Type} {f : α → β} {xs : List α} {k : Int} : atI (xs.map f) k = (atI xs k).map f := by
  unfold atI
  rw [List.length_map]
  cases ixN xs.length k with
  | none => rfl
  | some j => simp
theorem xe_ix (h : XE Z ta δ fun a δ1 => XE Z tb δ1 fun b δ2 => ∃ k d, b = .int k ∧ ixD a k = some d ∧ Φ d δ2) : XE Z (tOp (rIx Z.K) ta tb) δ Φ := XE.mk fun B W M H σ Q I q =>
  h.run I fun M1 H1 δ1 x a h1 e1 I1 at1 => XE.run h1 I1 fun M2 H2 δ2 y b h2 e2 I2 at2 => by
    obtain ⟨k, d, rfl, e, f⟩ := h2
    cases at2
    have q' := fun v a => q M2 H2 δ2 v d f (e1.tr e2) I2 a
    cases at1.mono e2 with
    | lst h l c =>
      obtain ⟨v, e', a⟩ := atI_at ⟨l, c⟩ e
      exact .inl ⟨_, _, _, _, rfl, rfl, SqL.of (I2.ex _ _ h), e', q' v a⟩
    | tup h l c =>
      obtain ⟨v, e', a⟩ := atI_at ⟨l, c⟩ e
      exact .inr (.inl ⟨_, _, _, _, rfl, rfl, sqT_mono I2.ex h, e', q' v a⟩)
    | str =>
      simp only [ixD] at e
      split at e
      · rename_i hs
        cases e1 : atI _ k with
        | none => rw [e1] at e; cases e
        | some c => rw [e1] at e; cases e; exact .inr (.inr ⟨_, _, _, rfl, rfl, hs, e1, q' _ .str⟩)
      · cases e
    | scr h =>
      simp only [ixD] at e
      cases e1 : atI _ k with
      | none => rw [e1] at e; cases e
      | some c => rw [e1] at e; cases e; exact .inl ⟨_, _, _, _, rfl, rfl, sqL_mono I2.ex h, by rw [atI_map, e1]; rfl, q' _ .int⟩
    | _ => cases e
theorem xe_ixO {i : Nat} (h : XE Z tb δ fun b δ2 => ∃ xs k d, δ2[i]? = some (.own (.lst xs)) ∧ b = .int k ∧ atI xs k = some d ∧ Φ d δ2) (hv : ∃ y, δ[i]? = some (.own y)) : XE Z (tOp (rIx Z.K) (tVar i) tb) δ Φ := XE.mk fun B W M H σ Q I q => by
  obtain ⟨y, hy⟩ := hv
  obtain ⟨o, e, p, ho, rfl, _⟩ := I.sl i _ hy
  refine ⟨_, e, h.run I fun M2 H2 δ2 y b h2 e2 I2 at2 => ?_⟩
  obtain ⟨xs, k, d, hx, rfl, e3, f⟩ := h2
  cases at2
  obtain ⟨o', e', p', ho', rfl, hp', hy', _⟩ := I2.sl i _ hx
  rw [e] at e'; cases e'
  obtain ⟨vs, rfl, a⟩ := hy'.lstI
  obtain ⟨v, e4, a'⟩ := atI_at a e3
  exact .inl ⟨_, _, _, _, rfl, rfl, SqL.of hp', e4, q M2 H2 δ2 v d f e2 I2 a'⟩
/-! ### scalars in lists -/
def scs : List D → Option (List V)
  | [] => some []
  | x :: xs => match sc x, scs xs with
    | some v, some vs => some (v :: vs)
    | _, _ => none
theorem scs_of : ∀ {xs : List D} {vs ws : List V}, AtL Z M vs xs → scs xs = some ws → vs = ws ∧ ws.all flatV = true
  | [], vs, ws, a, h => by cases h; exact ⟨a.inv0, rfl⟩
  | x :: xs, vs, ws, a, h => by
    obtain ⟨v, us, rfl, a1, a2⟩ := a.inv
    unfold scs at h
    cases e1 : sc x with
    | none => rw [e1] at h; cases h
    | some w =>
      cases e2 : scs xs with
      | none => rw [e1, e2] at h; cases h
      | some ww =>
        rw [e1, e2] at h; cases h
        obtain ⟨r1, r2⟩ := scs_of a2 e2
        have r3 := a1.scal e1
        subst r1; subst r3
        refine ⟨rfl, ?_⟩
        rw [List.all_cons, r2, Bool.and_true]
        cases a1 <;> first | rfl | cases e1
theorem sc_flat {d : D} {v : V} (h : sc d = some v) : flatV v = true := by
  cases d <;> simp [sc] at h <;> subst h <;> rfl
theorem inV_strs (s : Str) (ss : List Str) : inV (.str s) (ss.map V.str) = decide (s ∈ ss) := by
  unfold inV
  rw [List.any_map]
  induction ss with
  | nil => rfl
  | cons t ss ih =>
    rw [List.any_cons, ih, Bool.eq_iff_iff]
    show ((t == s) || decide (s ∈ ss)) = true ↔ decide (s ∈ t :: ss) = true
    rw [Bool.or_eq_true, decide_eq_true_iff, decide_eq_true_iff, List.mem_cons, beq_iff_eq]
    constructor
    · rintro (h | h)
      · exact .inl h.symm
      · exact .inr h
    · rintro (h | h)
      · exact .inl h.symm
      · exact .inr h
/-- x in ys -/
theorem xe_in {neg : Bool} (h : XE Z ta δ fun a δ1 => XE Z tb δ1 fun b δ2 => ∃ v xs ws, sc a = some v ∧ (b = .lst xs ∨ b = .tup xs) ∧ scs xs = some ws ∧ Φ (.bl (if neg then !inV v ws else inV v ws)) δ2) : XE Z (tOp (rIn Z.K neg) ta tb) δ Φ := XE.mk fun B W M H σ Q I q =>
  h.run I fun M1 H1 δ1 x a h1 e1 I1 at1 => XE.run h1 I1 fun M2 H2 δ2 y b h2 e2 I2 at2 => by
    obtain ⟨v, xs, ws, s1, hb, s2, f⟩ := h2
    cases at1.scal s1
    rcases hb with rfl | rfl
    · cases at2 with
      | lst h l c =>
        obtain ⟨rfl, fl⟩ := scs_of ⟨l, c⟩ s2
        exact ⟨_, _, rfl, .inl (SqL.of (I2.ex _ _ h)), sc_flat s1, fl, q M2 H2 δ2 _ _ f (e1.tr e2) I2 .bl⟩
    · cases at2 with
      | tup h l c =>
        obtain ⟨rfl, fl⟩ := scs_of ⟨l, c⟩ s2
        exact ⟨_, _, rfl, .inr (sqT_mono I2.ex h), sc_flat s1, fl, q M2 H2 δ2 _ _ f (e1.tr e2) I2 .bl⟩
/-- one sign in a text -/
theorem xe_inS (h : XE Z ta δ fun a δ1 => XE Z tb δ1 fun b δ2 => ∃ c z, a = .str ⟨#[c]⟩ ∧ b = .str z ∧ Φ (.bl (decide (c ∈ z.cps.toList))) δ2) : XE Z (tOp (fun x y H Q => ∃ (c : Nat) (z : Str), x = .str ⟨#[c]⟩ ∧ y = .str z ∧ Q (.bl (decide (c ∈ z.cps.toList))) H) ta tb) δ Φ := XE.mk fun B W M H σ Q I q =>
  h.run I fun M1 H1 δ1 x a h1 e1 I1 at1 => XE.run h1 I1 fun M2 H2 δ2 y b h2 e2 I2 at2 => by
    obtain ⟨c, z, rfl, rfl, f⟩ := h2
    cases at1; cases at2
    exact ⟨c, z, rfl, rfl, q M2 H2 δ2 _ _ f (e1.tr e2) I2 .bl⟩
/-! ### built-in functions -/
abbrev rLen (K : PySem.W.Frag) : List V → Hp → VK → Prop := fun xs H Q => ∃ x n, xs = [x] ∧ LenV K x H n ∧ Q (.int (n : Nat)) H
def lenD : D → Option Nat
  | .lst xs => some xs.length | .tup xs => some xs.length | .scr ns => some ns.length
  | .str s => if s.length ≤ sizeLine then some s.length else none
  | _ => none
theorem xe_len (h : XE Z te δ fun d δ1 => ∃ n, lenD d = some n ∧ Φ (.int n) δ1) : XE Z (tCB (rLen Z.K) (tCons te tNil)) δ Φ := XE.mk fun B W M H σ Q I q =>
  h.run I fun M1 H1 δ1 x a h1 e1 I1 at1 => by
    obtain ⟨n, e, f⟩ := h1
    refine ⟨x, n, rfl, ?_, q M1 H1 δ1 _ _ f e1 I1 .int⟩
    cases at1 with
    | lst h l c => cases e; exact .inl ⟨_, SqL.of (I1.ex _ _ h), l.symm⟩
    | tup h l c => cases e; exact .inr ⟨_, sqT_mono I1.ex h, l.symm⟩
    | scr h => cases e; exact .inl ⟨_, sqL_mono I1.ex h, by simp⟩
    | str =>
      simp only [lenD] at e
      split at e
      · rename_i hs; cases e; exact ⟨hs, rfl⟩
      · cases e
    | _ => cases e
theorem xe_lenO {i : Nat} {xs : List D} (h : δ[i]? = some (.own (.lst xs))) (k : Φ (.int xs.length) δ) : XE Z (tCB (rLen Z.K) (tCons (tVar i) tNil)) δ Φ := XE.mk fun B W M H σ Q I q => by
  obtain ⟨o', e', p', ho', rfl, hp', hy', _⟩ := I.sl i _ h
  obtain ⟨vs, rfl, a⟩ := hy'.lstI
  exact ⟨_, e', _, _, rfl, .inl ⟨vs, SqL.of hp', rfl⟩, q M H δ _ _ (a.len ▸ k) Ex.rfl' I .int⟩
abbrev rList (K : PySem.W.Frag) : List V → Hp → VK → Prop := fun xs H Q => ∃ p ys, xs = [.ref p] ∧ (SqL K H p ys ∨ SqT K H p ys) ∧ ∀ l, H l = none → Q (.ref l) (upd H l (.lst ys))
theorem newO {p : Addr} {o : HO} {y : OD} {δ1 : List S} {Q : VK} {M1 H1 : Hp} (I1 : I3 Z B W M1 H1 σ δ1) (hp : H1 p = none) (hy : ODAt Z M1 o y) (f : Ω y δ1) (e : Ex M M1)
    (q : ∀ M' H' δ' p ho y, Ω y δ' → Ex M M' → I3 Z B W M' H' σ δ' → H' p = some ho → ODAt Z M' ho y → M' p = none → B.h p = none → (∀ i, ¬ Own σ δ' i p) → Q (.ref p) H') : Q (.ref p) (upd H1 p o) :=
  have hm := I1.ex.free hp
  q M1 _ δ1 p _ _ f e (I1.other (I1.fresh hp) hm (I1.newOwn hp)) upd_same hy hm (I1.fresh hp) (I1.newOwn hp)
theorem seq_of {v : V} {d : D} {xs : List D} (a : At Z M v d) (h : d = .lst xs ∨ d = .tup xs) (e : Ex M H) : ∃ p vs, v = .ref p ∧ (SqL Z.K H p vs ∨ SqT Z.K H p vs) ∧ AtL Z M vs xs := by
  rcases h with rfl | rfl
  · cases a with | lst h l c => exact ⟨_, _, rfl, .inl (SqL.of (e _ _ h)), l, c⟩
  · cases a with | tup h l c => exact ⟨_, _, rfl, .inr (sqT_mono e h), l, c⟩
theorem xo_list (h : XE Z te δ fun d δ1 => ∃ xs, (d = .lst xs ∨ d = .tup xs) ∧ Ω (.lst xs) δ1) : XO Z (tCB (rList Z.K) (tCons te tNil)) δ Ω := XO.mk fun B W M H σ Q I q =>
  h.run I fun M1 H1 δ1 x a h1 e1 I1 at1 => by
    obtain ⟨xs, hx, f⟩ := h1
    obtain ⟨p, vs, rfl, s, al⟩ := seq_of at1 hx I1.ex
    exact ⟨p, vs, rfl, s, fun l hl => newO (o := .lst vs) (y := .lst xs) I1 hl al f e1 q⟩
abbrev rTuple (K : PySem.W.Frag) : List V → Hp → VK → Prop := fun xs H Q => ∃ p ys, xs = [.ref p] ∧ ((SqL K H p ys ∧ ∀ l, H l = none → Q (.ref l) (upd H l (.tup ys))) ∨ (SqT K H p ys ∧ Q (.ref p) H))
theorem newT {p : Addr} {vs : List V} {xs : List D} {δ1 : List S} {Q : VK} {M1 H1 : Hp} (I1 : I3 Z B W M1 H1 σ δ1) (hp : H1 p = none) (al : AtL Z M1 vs xs) (f : Φ (.tup xs) δ1) (e : Ex M M1)
    (q : ∀ M' H' δ' v d, Φ d δ' → Ex M M' → I3 Z B W M' H' σ δ' → At Z M' v d → Q v H') : Q (.ref p) (upd H1 p (.tup vs)) :=
  have hm := I1.ex.free hp
  q _ _ δ1 _ _ f (e.tr (Ex.new hm)) (I1.grow hp) (.tup (SqT.of upd_same) al.len (al.mono (Ex.new hm)).at')
theorem xe_tuple (h : XE Z te δ fun d δ1 => ∃ xs, (d = .lst xs ∨ d = .tup xs) ∧ Φ (.tup xs) δ1) : XE Z (tCB (rTuple Z.K) (tCons te tNil)) δ Φ := XE.mk fun B W M H σ Q I q =>
  h.run I fun M1 H1 δ1 x a h1 e1 I1 at1 => by
    obtain ⟨xs, hx, f⟩ := h1
    obtain ⟨p, vs, rfl, s, al⟩ := seq_of at1 hx I1.ex
    rcases hx with rfl | rfl
    · cases at1 with | lst h l c => exact ⟨_, _, rfl, .inl ⟨SqL.of (I1.ex _ _ h), fun l' hl => newT I1 hl ⟨l, c⟩ f e1 q⟩⟩
    · cases at1 with | tup h l c => exact ⟨_, _, rfl, .inr ⟨sqT_mono I1.ex h, q M1 H1 δ1 _ _ f e1 I1 (.tup h l c)⟩⟩
theorem xe_all (h : XE Z te δ fun d δ1 => ∃ xs : List Bool, d = .lst (xs.map .bl) ∧ Φ (.bl (xs.all id)) δ1) : XE Z (tCB (rAll Z.K) (tCons te tNil)) δ Φ := XE.mk fun B W M H σ Q I q =>
  h.run I fun M1 H1 δ1 x a h1 e1 I1 at1 => by
    obtain ⟨xs, rfl, f⟩ := h1
    cases at1 with
    | lst h l c =>
      have := AtL.bools (Z := Z) (M := M1) ⟨l, c⟩
      subst this
      exact ⟨_, xs, rfl, SqL.of (I1.ex _ _ h), q M1 H1 δ1 _ _ f e1 I1 .bl⟩
theorem xe_any (h : XE Z te δ fun d δ1 => ∃ xs : List Bool, d = .lst (xs.map .bl) ∧ Φ (.bl (xs.any id)) δ1) : XE Z (tCB (rAny Z.K) (tCons te tNil)) δ Φ := XE.mk fun B W M H σ Q I q =>
  h.run I fun M1 H1 δ1 x a h1 e1 I1 at1 => by
    obtain ⟨xs, rfl, f⟩ := h1
    cases at1 with
    | lst h l c =>
      have := AtL.bools (Z := Z) (M := M1) ⟨l, c⟩
      subst this
      exact ⟨_, xs, rfl, SqL.of (I1.ex _ _ h), q M1 H1 δ1 _ _ f e1 I1 .bl⟩
theorem xe_sum (h : XE Z te δ fun d δ1 => ∃ xs : List Int, d = .lst (xs.map .int) ∧ Φ (.int xs.sum) δ1) : XE Z (tCB (rSum Z.K) (tCons te tNil)) δ Φ := XE.mk fun B W M H σ Q I q =>
  h.run I fun M1 H1 δ1 x a h1 e1 I1 at1 => by
    obtain ⟨xs, rfl, f⟩ := h1
    cases at1 with
    | lst h l c =>
      have := AtL.ints (Z := Z) (M := M1) ⟨l, c⟩
      subst this
      exact ⟨_, xs, rfl, SqL.of (I1.ex _ _ h), q M1 H1 δ1 _ _ f e1 I1 .int⟩
/-! ### slices, + -/
def cut {α : Type} (xs : List α) (lo hi : Option Int) : List α := (xs.drop (HT.sIx xs.length 0 lo)).take (HT.sIx xs.length xs.length hi - HT.sIx xs.length 0 lo)
theorem AtL.cut {vs : List V} {xs : List D} (lo hi : Option Int) (a : AtL Z M vs xs) : AtL Z M (cutV vs lo hi) (G.cut xs lo hi) := by
  unfold cutV G.cut
  rw [a.len]
  exact (a.drop _).take _
def XP (Z : Wd) (to : TO) (δ : List S) (Θ : Option Int → List S → Prop) : Prop :=
  ∀ B W M H σ (Q : Option Int → Hp → Prop), I3 Z B W M H σ δ → (∀ M' H' δ' o, Θ o δ' → Ex M M' → I3 Z B W M' H' σ δ' → Q o H') → to σ H Q
variable {Θ : Option Int → List S → Prop} {tl th : TO}
theorem xp_no (k : Θ none δ) : XP Z tNoPart δ Θ := fun B W M H σ Q I q => q M H δ none k Ex.rfl' I
theorem xp_part (h : XE Z te δ fun d δ1 => ∃ i, d = .int i ∧ Θ (some i) δ1) : XP Z (tPart te) δ Θ := fun B W M H σ Q I q =>
  h.run I fun M1 H1 δ1 x a h1 e1 I1 at1 => by
    obtain ⟨i, rfl, f⟩ := h1
    cases at1
    exact ⟨i, rfl, q M1 H1 δ1 _ f e1 I1⟩
theorem xo_sl (h : XE Z te δ fun a δ1 => XP Z tl δ1 fun lo δ2 => XP Z th δ2 fun hi δ3 => ∃ xs, a = .lst xs ∧ Ω (.lst (cut xs lo hi)) δ3) : XO Z (tSl (rSlL Z.K) te tl th) δ Ω := XO.mk fun B W M H σ Q I q =>
  h.run I fun M1 H1 δ1 x a h1 e1 I1 at1 => h1 B W M1 H1 σ _ I1 fun M2 H2 δ2 lo h2 e2 I2 => h2 B W M2 H2 σ _ I2 fun M3 H3 δ3 hi h3 e3 I3 => by
    obtain ⟨xs, rfl, f⟩ := h3
    cases (at1.mono (e2.tr e3)) with
    | lst h l c => exact ⟨_, _, rfl, SqL.of (I3.ex _ _ h), fun p hp => newO (o := .lst _) (y := .lst _) I3 hp (AtL.cut lo hi ⟨l, c⟩) f (e1.tr (e2.tr e3)) q⟩
theorem xo_cat (h : XE Z ta δ fun a δ1 => XE Z tb δ1 fun b δ2 => ∃ xs ys, a = .lst xs ∧ b = .lst ys ∧ xs.length + ys.length ≤ 1000000 ∧ Ω (.lst (xs ++ ys)) δ2) : XO Z (tOp rCat ta tb) δ Ω := XO.mk fun B W M H σ Q I q =>
  h.run I fun M1 H1 δ1 x a h1 e1 I1 at1 => XE.run h1 I1 fun M2 H2 δ2 y b h2 e2 I2 at2 => by
    obtain ⟨xs, ys, rfl, rfl, hl, f⟩ := h2
    cases at1.mono e2 with
    | lst k1 l1 c1 => cases at2 with
      | lst k2 l2 c2 => exact ⟨_, _, _, _, rfl, rfl, I2.ex _ _ k1, I2.ex _ _ k2, Nat.le_trans (by rw [l1, l2]; exact hl) (by decide), fun p hp => newO (o := .lst _) (y := .lst _) I2 hp (AtL.app ⟨l1, c1⟩ ⟨l2, c2⟩) f (e1.tr e2) q⟩
/-! ### methods of an own list -/
theorem xe_app {i : Nat} (hv : ∃ xs, δ[i]? = some (.own (.lst xs))) (h : XE Z te δ fun d δ1 => ∃ xs, δ1[i]? = some (.own (.lst xs)) ∧ xs.length < 1000000 ∧ Φ .non (δ1.set i (.own (.lst (xs ++ [d]))))) : XE Z (tBM Z.K "list" rAppend (tVar i) (tCons te tNil)) δ Φ := XE.mk fun B W M H σ Q I q => by
  obtain ⟨x0, hy⟩ := hv
  obtain ⟨o, e, p, ho, rfl, h0, h0', _⟩ := I.sl i _ hy
  obtain ⟨vs0, rfl, _⟩ := h0'.lstI
  refine ⟨_, e, .inl ⟨rfl, vs0, SqL.of h0⟩, h.run I fun M2 H2 δ2 y b h2 e2 I2 at2 => ?_⟩
  obtain ⟨xs, hx, hl, f⟩ := h2
  obtain ⟨o', e', p', ho', rfl, hp', hy', _⟩ := I2.sl i _ hx
  rw [e] at e'; cases e'
  obtain ⟨vs, rfl, a⟩ := hy'.lstI
  exact ⟨_, vs, y, rfl, rfl, hp', Nat.lt_of_lt_of_le (by rw [a.len]; exact hl) (by decide), q M2 _ _ _ _ f e2 (I2.write e hx (ho := .lst _) (y' := .lst _) (AtL.app a (.one at2))) .non⟩
theorem xe_ext {i : Nat} (hv : ∃ xs, δ[i]? = some (.own (.lst xs))) (h : XE Z te δ fun d δ1 => ∃ xs ys, δ1[i]? = some (.own (.lst xs)) ∧ d = .lst ys ∧ xs.length + ys.length ≤ 1000000 ∧ Φ .non (δ1.set i (.own (.lst (xs ++ ys))))) : XE Z (tBM Z.K "list" rExtend (tVar i) (tCons te tNil)) δ Φ := XE.mk fun B W M H σ Q I q => by
  obtain ⟨x0, hy⟩ := hv
  obtain ⟨o, e, p, ho, rfl, h0, h0', _⟩ := I.sl i _ hy
  obtain ⟨vs0, rfl, _⟩ := h0'.lstI
  refine ⟨_, e, .inl ⟨rfl, vs0, SqL.of h0⟩, h.run I fun M2 H2 δ2 y b h2 e2 I2 at2 => ?_⟩
  obtain ⟨xs, ys, hx, rfl, hl, f⟩ := h2
  obtain ⟨o', e', p', ho', rfl, hp', hy', _⟩ := I2.sl i _ hx
  rw [e] at e'; cases e'
  obtain ⟨vs, rfl, a⟩ := hy'.lstI
  cases at2 with
  | lst k2 l2 c2 => exact ⟨_, _, vs, _, rfl, rfl, hp', I2.ex _ _ k2, Nat.le_trans (by rw [a.len, l2]; exact hl) (by decide), q M2 _ _ _ _ f e2 (I2.write e hx (ho := .lst _) (y' := .lst _) (AtL.app a ⟨l2, c2⟩)) .non⟩
theorem xe_pop {i : Nat} (hv : ∃ xs, δ[i]? = some (.own (.lst xs))) (h : XE Z te δ fun d δ1 => ∃ xs k x, δ1[i]? = some (.own (.lst xs)) ∧ d = .int (k : Nat) ∧ k < 1000000 ∧ xs[k]? = some x ∧ Φ x (δ1.set i (.own (.lst (xs.eraseIdx k))))) : XE Z (tBM Z.K "list" rPopAt (tVar i) (tCons te tNil)) δ Φ := XE.mk fun B W M H σ Q I q => by
  obtain ⟨x0, hy⟩ := hv
  obtain ⟨o, e, p, ho, rfl, h0, h0', _⟩ := I.sl i _ hy
  obtain ⟨vs0, rfl, _⟩ := h0'.lstI
  refine ⟨_, e, .inl ⟨rfl, vs0, SqL.of h0⟩, h.run I fun M2 H2 δ2 y b h2 e2 I2 at2 => ?_⟩
  obtain ⟨xs, k, x, hx, rfl, hk, hg, f⟩ := h2
  cases at2
  obtain ⟨o', e', p', ho', rfl, hp', hy', _⟩ := I2.sl i _ hx
  rw [e] at e'; cases e'
  obtain ⟨vs, rfl, a⟩ := hy'.lstI
  obtain ⟨v, hv', av⟩ := a.get hg
  have hlt : k < vs.length := (List.getElem?_eq_some_iff.mp hv').1
  refine ⟨_, vs, (k : Int), k, v, rfl, rfl, hp', by omega, by omega, ?_, hv', q M2 _ _ _ _ f e2 (I2.write e hx (ho := .lst _) (y' := .lst _) (a.erase k)) av⟩
  unfold seqIndex?
  have h1 : ¬ ((k : Int) < 0) := by omega
  simp only [h1, if_false]
  rw [if_pos]
  · simp
  · simp; omega
variable {bs : List Nat} {P : Po} {s1 s2 : TS}
theorem xs_drop (h : XE Z te δ fun _ δ' => P.N δ') : XS Z bs (tDrop te) δ P := fun B W M H σ E hb I e =>
  h.run I fun M1 H1 δ1 x a h1 e1 I1 at1 => e.nx _ _ _ _ h1 e1 I1
/-! ### returns -/
theorem xs_ret (h : XE Z te δ fun d δ' => P.R (.d d) δ') : XS Z bs (tRet te) δ P := fun B W M H σ E hb I e =>
  h.run I fun M1 H1 δ1 x a h1 e1 I1 at1 => e.rt _ _ _ _ _ (.d a) h1 e1 I1 at1
theorem xs_retO (h : XO Z te δ fun y δ' => P.R (.own y) δ') : XS Z bs (tRet te) δ P := fun B W M H σ E hb I e =>
  XO.run h I fun M1 H1 δ1 p ho y h1 e1 I1 a b c d g => e.rt _ _ _ _ _ (.own y) h1 e1 I1 ⟨p, ho, rfl, a, b, c, d⟩
/-- an own list that is returned as new -/
theorem xs_retV {i : Nat} {y : OD} (hi : i ∉ bs) (h : δ[i]? = some (.own y)) (k : P.R (.own y) δ) : XS Z bs (tRet (tVar i)) δ P := fun B W M H σ E hb I e => by
  obtain ⟨o, e0, p, ho, rfl, hp, hy, hm⟩ := I.sl i _ h
  refine ⟨_, e0, e.rt M H _ _ _ (.own y) k Ex.rfl' I ⟨p, ho, rfl, hp, hy, hm, ?_⟩⟩
  rcases I.own i p (Own.mk e0 h) with q | q
  · exact absurd q (not_bor hb hi p)
  · exact q
/-- from here on slot i's list is a datum -/
theorem xs_freeze {i : Nat} {xs : List D} (hi : i ∉ bs) (h : δ[i]? = some (.own (.lst xs))) (k : XS Z bs s1 (δ.set i (.d (.lst xs))) P) : XS Z bs s1 δ P := fun B W M H σ E hb I e => by
  obtain ⟨M', ex, J⟩ := I.freeze (not_bor hb hi) h
  exact k B W M' H σ E hb J (e.mono ex)
/-- slot i is forgotten -/
theorem I3.forget {i : Nat} (I : I3 Z B W M H σ δ) (hi : ∀ p, (i, p) ∉ W) : I3 Z B W M H σ (δ.set i .no) := by
  have bad : ∀ j q, Own σ (δ.set i .no) j q → i ≠ j ∧ Own σ δ j q := fun j q o => by
    obtain ⟨r, y, a, b, c⟩ := o
    have e : i ≠ j := fun e => by
      subst e
      rw [List.getElem?_set] at b
      split at b
      · split at b
        · cases b; exact c
        · cases b
      · rename_i z; exact z rfl
    rw [List.getElem?_set_ne e] at b
    exact ⟨e, r, y, a, b, c⟩
  refine ⟨I.ex, I.mg, I.keep, by rw [List.length_set]; exact I.len, fun j s e => ?_, fun j q w => ?_, fun j q o => I.own j q (bad j q o).2, fun j k q a b => I.dis j k q (bad j q a).2 (bad k q b).2⟩
  · by_cases z : i = j
    · subst z
      have hl : i < δ.length := by
        have := (List.getElem?_eq_some_iff.mp e).1; rwa [List.length_set] at this
      rw [List.getElem?_set_self hl] at e; cases e
      exact ⟨σ[i]'(by rw [I.len]; exact hl), by simp [I.len, hl], trivial⟩
    · rw [List.getElem?_set_ne z] at e; exact I.sl j s e
  · have e' : i ≠ j := fun e => hi q (e ▸ w)
    exact (I.bor j q w).same rfl (List.getElem?_set_ne e')
theorem xs_forget {i : Nat} (hi : i ∉ bs) (k : XS Z bs s1 (δ.set i .no) P) : XS Z bs s1 δ P := fun B W M H σ E hb I e => k B W M H σ E hb (I.forget (not_bor hb hi)) e
end
end G
set_option Elab.async false
set_option linter.all false
set_option maxRecDepth 100000
set_option maxHeartbeats 4000000
namespace G
open PySem L2
section
variable {Z : Wd} {M H M' H' : Hp} {B : Bas} {W : List (Nat × Addr)} {σ : St} {δ : List S}
variable {te ta tb tv : TE} {tt t u : TT} {Φ : D → List S → Prop} {Ψ : S → List S → Prop} {Ω : OD → List S → Prop} {Λ : List D → List S → Prop} {ts : TA}
variable {bs : List Nat} {P : Po} {s1 s2 : TS}
/-! ### contracts of defs: over data -/
abbrev FR := List D → (S → Prop) → Prop
abbrev FB := OD → List D → (S → OD → Prop) → Prop
/-- nothing is borrowed -/
def spR (Z : Wd) (F : FR) : Sp := fun vs H Q _ => ∃ M ds Φ, Ex M H ∧ AtL Z M vs ds ∧ F ds Φ ∧
  ∀ M' H' v s, Φ s → Ex M M' → Ex M' H' → Ex H H' → (∀ p o, H p = some o → M p = none → NT o → M' p = none) → RetOk Z ⟨H, M⟩ M' H' v s → Q v H'
/-- the first argument is borrowed: an object that the caller alone holds -/
def spB (Z : Wd) (F : FB) : Sp := fun vs H Q _ => ∃ M p ws ho y ds Φ, vs = .ref p :: ws ∧ H p = some ho ∧ M p = none ∧ ODAt Z M ho y ∧ Ex M H ∧ AtL Z M ws ds ∧ F y ds Φ ∧
  ∀ M' H' v s ho' y', Φ s y' → Ex M M' → Ex M' H' → (∀ a o, a ≠ p → H a = some o → H' a = some o) → (∀ p o, H p = some o → M p = none → NT o → M' p = none) → H' p = some ho' → ODAt Z M' ho' y' → RetOk Z ⟨H, M⟩ M' H' v s → Q v H'
theorem I3.after (I : I3 Z B W M H σ δ) (e1 : Ex M M') (e2 : Ex M' H') (e3 : Ex H H') (e4 : ∀ p o, H p = some o → M p = none → NT o → M' p = none) : I3 Z B W M' H' σ δ := by
  refine ⟨e2, fun a o e n => ?_, fun a o e n => e3 _ _ (I.keep a o e n), I.len, fun i s e => ?_, I.bor, I.own, I.dis⟩
  · cases q : H a with
    | none => rw [I.fresh q] at e; cases e
    | some u => exact fun t => e4 a u q (I.mg a o e n t) (I.nt e t q)
  · obtain ⟨v, c, d⟩ := I.sl i s e
    refine ⟨v, c, ?_⟩
    cases s with
    | no => trivial
    | d x => obtain ⟨u, f, g⟩ := d; exact ⟨u, f, g.mono e1⟩
    | own z =>
      obtain ⟨q, hq, f, g, k, l⟩ := d
      exact ⟨q, hq, f, e3 _ _ g, k.mono e1, e4 _ _ g l (.own k)⟩
    | deal q cs n =>
      obtain ⟨r, f, g, k, l, m, o⟩ := d
      exact ⟨r, f, e3 _ _ g, e3 _ _ k, e4 _ _ g l (fun _ e => nomatch e), e4 _ _ k m (fun _ e => nomatch e), o⟩
/-- behind a call that has changed what slot i holds alone -/
theorem I3.afterS (I : I3 Z B W M H σ δ) {i : Nat} {o : Option V} {s s' : S} (h : σ[i]? = some o) (hi : δ[i]? = some s) (hs : ∀ p a, Hol p s a ↔ Hol p s' a) (e1 : Ex M M') (e2 : Ex M' H') (e3 : ∀ a o, ¬ Own σ δ i a → H a = some o → H' a = some o)
    (e4 : ∀ p o, H p = some o → M p = none → NT o → M' p = none) (hy : SlotOk Z M' H' o s') : I3 Z B W M' H' σ (δ.set i s') := by
  have hl : i < δ.length := (List.getElem?_eq_some_iff.mp hi).1
  refine ⟨e2, fun a o e n => ?_, fun a o e n => ?_, by rw [List.length_set]; exact I.len, fun j t e => ?_, fun j q w => (Own.setS hi hs).mpr (I.bor j q w), fun j q o => I.own j q ((Own.setS hi hs).mp o), fun j k q a b => I.dis j k q ((Own.setS hi hs).mp a) ((Own.setS hi hs).mp b)⟩
  · cases q : H a with
    | none => rw [I.fresh q] at e; cases e
    | some u => exact fun t => e4 a u q (I.mg a o e n t) (I.nt e t q)
  · refine e3 a o (fun z => ?_) (I.keep a o e n)
    rcases I.own i a z with q | q
    · exact n i q
    · rw [e] at q; cases q
  · by_cases z : i = j
    · subst z
      rw [List.getElem?_set_self hl] at e; cases e
      exact ⟨_, h, hy⟩
    · rw [List.getElem?_set_ne z] at e
      obtain ⟨v, c, d⟩ := I.sl j t e
      refine ⟨v, c, ?_⟩
      cases t with
      | no => trivial
      | d x => obtain ⟨u, f, g⟩ := d; exact ⟨u, f, g.mono e1⟩
      | own w =>
        obtain ⟨q, hq, f, g, k, l⟩ := d
        subst f
        exact ⟨q, hq, rfl, e3 _ _ (fun o => z (I.dis i j q o (Own.mk c e))) g, k.mono e1, e4 _ _ g l (.own k)⟩
      | deal q cs n =>
        obtain ⟨r, f, g, k, l, m, o⟩ := d
        subst f
        exact ⟨r, rfl, e3 _ _ (fun o => z (I.dis i j r o ⟨r, _, c, e, .inl rfl⟩)) g, e3 _ _ (fun o => z (I.dis i j q o ⟨r, _, c, e, .inr rfl⟩)) k, e4 _ _ g l (fun _ e => nomatch e), e4 _ _ k m (fun _ e => nomatch e), o⟩
theorem ret_res {v : V} {s : S} {M0 H0 : Hp} {δ0 : List S} (I : I3 Z B W M0 H0 σ δ0) (hs : ∀ i p, Own σ δ i p → Own σ δ0 i p) (r : RetOk Z ⟨H0, M0⟩ M' H' v s) : ResOk Z B M' H' σ δ v s := by
  cases s with
  | no => exact r
  | d x => exact r
  | own y =>
    obtain ⟨p, ho, e, a, b, c, d⟩ := r
    have d' : H0 p = none := d
    exact ⟨p, ho, e, a, b, c, I.fresh d', fun i o => I.newOwn d' i (hs i p o)⟩
  | deal q cs n =>
    obtain ⟨p, e, a, b⟩ := r
    exact ⟨p, e, a, fun x h => ⟨I.fresh (b x h), fun i o => I.newOwn (b x h) i (hs i x o)⟩⟩
/-- a call: nothing borrowed -/
theorem xr_call {F : FR} {dvs : List V} {dds : List D} {E : XK} (hd : ∀ M : Hp, AtL Z M dvs dds) (h : XA Z ts δ fun ds δ1 => F (ds ++ dds) fun s => Ψ s δ1) : XR Z (tCall (spR Z F) dvs E ts) δ Ψ := fun B W M H σ Q I q =>
  h B W M H σ _ I fun M1 H1 δ1 vs ds h1 e1 I1 al => by
    refine ⟨M1, ds ++ dds, _, I1.ex, al.app (hd M1), h1, fun M' H' v s f a1 a2 a3 a4 r => ?_⟩
    exact q M' H' δ1 v s f (e1.tr a1) (I1.after a1 a2 a3 a4) (ret_res I1 (fun _ _ o => o) r)
/-- a new instance: its __init__ borrows it -/
theorem xe_make {F : FB} {dvs : List V} {dds : List D} {E : XK} {C : Addr} {c : Nat} (hC : (Z.cl c).C = C) (hd : ∀ M : Hp, AtL Z M dvs dds)
    (h : XA Z ts δ fun ds δ1 => F (.ins c []) (ds ++ dds) fun s y => s = .d .non ∧ ∃ gs, y = .ins c gs ∧ gs.map (·.1) = (Z.cl c).fs ∧ Φ (.obj c (gs.map (·.2))) δ1) : XE Z (tMake C (spB Z F) dvs E ts) δ Φ := XE.mk fun B W M H σ Q I q =>
  h B W M H σ _ I fun M1 H1 δ1 vs ds h1 e1 I1 al x dx hx hdx hne => by
    subst hC
    have hm := I1.ex.free hx
    have hmd := I1.ex.free hdx
    have ex2 : Ex H1 (upd (upd H1 dx (.own x)) x (.ins (Z.cl c).C dx [])) := fun b o e => by
      rw [upd_ne (ne_of_none e hx), upd_ne (ne_of_none e hdx)]; exact e
    refine ⟨M1, x, vs ++ dvs, _, .ins c [], ds ++ dds, _, rfl, upd_same, hm, ⟨rfl, rfl, .nil⟩, I1.ex.tr ex2, al.app (hd M1), h1, fun M' H' v s ho2 y2 g a1 a2 a3 a4 a5 a6 r => ?_⟩
    obtain ⟨rfl, gs, rfl, hf, f⟩ := g
    have rv : At Z M' v .non := r
    cases rv
    refine ⟨rfl, ?_⟩
    obtain ⟨dx2, fs2, rfl, k1, k2⟩ := a6.insI
    have hm2 : M' x = none := a4 x _ upd_same hm (fun _ e => nomatch e)
    have keep : Ex H1 H' := fun b o e => a3 b o (ne_of_none e hx) (ex2 b o e)
    have I2 : I3 Z B W M' H' σ δ1 := I1.after a1 a2 keep fun p o e n => a4 p o (ex2 p o e) n
    have I3' := I2.hold a5 hm2 (I1.fresh hx) (I1.newOwn hx)
    refine q _ H' δ1 _ _ f (e1.tr (a1.tr (Ex.new hm2))) I3' ?_
    have hz : fs2 = (Z.cl c).fs.zip (fs2.map (·.2)) := by
      rw [← hf, ← k1]
      clear a5 a6 k1 k2 I3' f
      induction fs2 with
      | nil => rfl
      | cons a l ih => simp only [List.map_cons, List.zip_cons_cons]; rw [← ih]
    have hlen : (fs2.map (·.2)).length = (Z.cl c).fs.length := by rw [← hf, ← k1]; simp
    refine .obj (dx := dx2) (vs := fs2.map (·.2)) (by rw [upd_same, ← hz]) hlen k2.len (k2.mono (Ex.new hm2)).at'
/-! ### a def's body over data -/
theorem entR {ts : TS} {N : List Str} {vs : List V} {Q : VK} {n : Nat} {ds : List D} {Φ : S → Prop} (ex : Ex M H) (al : AtL Z M vs ds) (hn : N.length = ds.length + n)
    (q : ∀ M' H' v s, Φ s → Ex M M' → Ex M' H' → Ex H H' → (∀ p o, H p = some o → M p = none → NT o → M' p = none) → RetOk Z ⟨H, M⟩ M' H' v s → Q v H')
    (hx : XS Z [] ts (ds.map .d ++ List.replicate n .no) { N := fun _ => Φ (.d .non), R := fun s _ => Φ s }) : ts { nx := fun _ H' => Q .non H', rt := Q } (L2.start N vs) H := by
  have hlen := al.len
  have noOwn : ∀ i p, ¬ Own (L2.start N vs) (ds.map S.d ++ List.replicate n S.no) i p := fun i p => Own.plain
  have I : I3 Z ⟨H, M⟩ [] M H (L2.start N vs) (ds.map S.d ++ List.replicate n S.no) := by
    refine ⟨ex, fun _ _ _ e _ => e, fun _ _ e _ => e, ?_, fun i s e => ?_, fun i p w => by simp at w, fun i p o => absurd o (noOwn i p), fun i j p o => absurd o (noOwn i p)⟩
    · unfold L2.start; simp; omega
    · by_cases hi : i < ds.length
      · rw [List.getElem?_append_left (by simp [hi]), List.getElem?_map] at e
        cases e1 : ds[i]? with
        | none => rw [e1] at e; cases e
        | some d =>
          rw [e1] at e; cases e
          obtain ⟨v, e2, a⟩ := al.get e1
          refine ⟨some v, ?_, v, rfl, a⟩
          unfold L2.start
          rw [List.getElem?_append_left (by simp; omega), List.getElem?_map, e2]; rfl
      · rw [List.getElem?_append_right (by simp; omega), List.getElem?_replicate] at e
        split at e
        · rename_i h1
          cases e
          refine ⟨none, ?_, trivial⟩
          unfold L2.start
          rw [List.getElem?_append_right (by simp; omega), List.getElem?_replicate, if_pos (by simp at h1 ⊢; omega)]
        · cases e
  have fin : ∀ M' H' σ' δ', I3 Z ⟨H, M⟩ [] M' H' σ' δ' → Ex H H' := fun M' H' σ' δ' J a o e => J.keep a o e fun i hi => by simp at hi
  refine hx ⟨H, M⟩ [] M H _ _ rfl I ⟨fun M' H' σ' δ' p e J => q M' H' .non (.d .non) p e J.ex (fin _ _ _ _ J) J.mg .non, fun M' H' σ' δ' v s p e J r => q M' H' v s p e J.ex (fin _ _ _ _ J) J.mg r, fun _ _ _ _ f => f.elim, fun _ _ _ _ f => f.elim, fun _ _ => trivial⟩
theorem entB {ts : TS} {N : List Str} {ws : List V} {p : Addr} {ho : HO} {y : OD} {Q : VK} {n : Nat} {ds : List D} {Φ : S → OD → Prop} (hp : H p = some ho) (hm : M p = none) (hy : ODAt Z M ho y) (ex : Ex M H) (al : AtL Z M ws ds) (hn : N.length = ds.length + 1 + n)
    (q : ∀ M' H' v s ho' y', Φ s y' → Ex M M' → Ex M' H' → (∀ a o, a ≠ p → H a = some o → H' a = some o) → (∀ p o, H p = some o → M p = none → NT o → M' p = none) → H' p = some ho' → ODAt Z M' ho' y' → RetOk Z ⟨H, M⟩ M' H' v s → Q v H')
    (hx : XS Z [0] ts (.own y :: (ds.map .d ++ List.replicate n .no)) { N := fun δ' => ∃ y', δ'[0]? = some (.own y') ∧ Φ (.d .non) y', R := fun s δ' => ∃ y', δ'[0]? = some (.own y') ∧ Φ s y' }) : ts { nx := fun _ H' => Q .non H', rt := Q } (L2.start N (.ref p :: ws)) H := by
  have hlen := al.len
  have only : ∀ i q, Own (L2.start N (V.ref p :: ws)) (S.own y :: (ds.map S.d ++ List.replicate n S.no)) i q → i = 0 ∧ q = p := fun i q o => by
    obtain ⟨r, y', e0, e, c⟩ := o
    cases i with
    | zero =>
      have : some (some (V.ref p)) = some (some (V.ref r)) := e0
      cases this
      cases e; exact ⟨rfl, c⟩
    | succ i =>
      rw [List.getElem?_cons_succ] at e
      exact (plain_no e _ _ c).elim
  have I : I3 Z ⟨H, M⟩ [(0, p)] M H (L2.start N (V.ref p :: ws)) (S.own y :: (ds.map S.d ++ List.replicate n S.no)) := by
    refine ⟨ex, fun _ _ _ e _ => e, fun _ _ e _ => e, ?_, fun i s e => ?_, fun i q w => ?_, fun i q o => ?_, fun i j q o o' => ?_⟩
    · unfold L2.start; simp; omega
    · cases i with
      | zero => cases e; exact ⟨some (.ref p), rfl, p, ho, rfl, hp, hy, hm⟩
      | succ i =>
        rw [List.getElem?_cons_succ] at e
        have es : (L2.start N (V.ref p :: ws))[i + 1]? = (ws.map some ++ List.replicate n (none : Option V))[i]? := by
          unfold L2.start
          have : N.length - (V.ref p :: ws).length = n := by simp; omega
          rw [this]; rfl
        rw [es]
        by_cases hi : i < ds.length
        · rw [List.getElem?_append_left (by simp [hi]), List.getElem?_map] at e
          cases e1 : ds[i]? with
          | none => rw [e1] at e; cases e
          | some d =>
            rw [e1] at e; cases e
            obtain ⟨v, e2, a⟩ := al.get e1
            refine ⟨some v, ?_, v, rfl, a⟩
            rw [List.getElem?_append_left (by simp; omega), List.getElem?_map, e2]; rfl
        · rw [List.getElem?_append_right (by simp; omega), List.getElem?_replicate] at e
          split at e
          · rename_i h1
            cases e
            refine ⟨none, ?_, trivial⟩
            rw [List.getElem?_append_right (by simp; omega), List.getElem?_replicate, if_pos (by simp at h1 ⊢; omega)]
          · cases e
    · have := List.mem_singleton.mp w
      cases this
      exact Own.mk rfl rfl
    · obtain ⟨rfl, rfl⟩ := only i q o
      exact .inl List.mem_cons_self
    · rw [(only i q o).1, (only j q o').1]
  have fin : ∀ M' H' σ' δ' y', I3 Z ⟨H, M⟩ [(0, p)] M' H' σ' δ' → δ'[0]? = some (.own y') → (∀ a o, a ≠ p → H a = some o → H' a = some o) ∧ ∃ ho', H' p = some ho' ∧ ODAt Z M' ho' y' := fun M' H' σ' δ' y' J e => by
    refine ⟨fun a o hne e => J.keep a o e fun i hi => ?_, ?_⟩
    · have := List.mem_singleton.mp hi
      cases this; exact hne rfl
    · have hO := J.bor 0 p List.mem_cons_self
      obtain ⟨ho', h2, h3, _⟩ := J.ownO hO e
      exact ⟨ho', h2, h3⟩
  refine hx ⟨H, M⟩ [(0, p)] M H _ _ rfl I ⟨fun M' H' σ' δ' f e J => ?_, fun M' H' σ' δ' v s f e J r => ?_, fun _ _ _ _ f => f.elim, fun _ _ _ _ f => f.elim, fun _ _ => trivial⟩
  · obtain ⟨y', hy', f⟩ := f
    obtain ⟨k1, ho', k2, k3⟩ := fin _ _ _ _ _ J hy'
    exact q M' H' .non (.d .non) ho' y' f e J.ex k1 J.mg k2 k3 .non
  · obtain ⟨y', hy', f⟩ := f
    obtain ⟨k1, ho', k2, k3⟩ := fin _ _ _ _ _ J hy'
    exact q M' H' v s ho' y' f e J.ex k1 J.mg k2 k3 r
/-! ### fields -/
structure ClOk (Z : Wd) (c : Nat) : Prop where
  cls : Cls Z.K (Z.cl c).C
  no : ∀ f ∈ (Z.cl c).fs, NoAttr Z.K (Z.cl c).C f
theorem lookup_zip : ∀ {fs : List Str} {vs : List V} {k : Nat} {f : Str} {v : V}, fs.Nodup → fs[k]? = some f → vs[k]? = some v → (fs.zip vs).lookup f = some v
  | [], _, _, _, _, _, h, _ => by simp at h
  | g :: fs, [], _, _, _, _, _, h => by simp at h
  | g :: fs, w :: vs, 0, f, v, _, h, h' => by
    simp at h h'; subst h; subst h'
    rw [List.zip_cons_cons, List.lookup_cons, beq_self_eq_true]
  | g :: fs, w :: vs, k + 1, f, v, n, h, h' => by
    obtain ⟨n1, n2⟩ := List.nodup_cons.mp n
    have hf : f ∈ fs := List.mem_of_getElem? (by simpa using h)
    have hne : (f == g) = false := by
      rw [beq_eq_false_iff_ne]; intro e; exact n1 (e ▸ hf)
    rw [List.zip_cons_cons, List.lookup_cons, hne]
    exact lookup_zip n2 (by simpa using h) (by simpa using h')
/-- o.f of a datum -/
theorem xe_fld {f : Str} (h : XE Z ta δ fun a δ1 => ∃ (c : Nat) (ds : List D) (k : Nat) (d : D), a = .obj c ds ∧ ClOk Z c ∧ (Z.cl c).fs.Nodup ∧ (Z.cl c).fs[k]? = some f ∧ ds[k]? = some d ∧ Φ d δ1) : XE Z (tFld Z.K ta f) δ Φ := XE.mk fun B W M H σ Q I q =>
  h.run I fun M1 H1 δ1 x a h1 e1 I1 at1 => by
    obtain ⟨c, ds, k, d, rfl, ok, nd, hf, hd, g⟩ := h1
    cases at1 with
    | obj k1 l1 l2 k2 =>
      have hk : k < _ := (List.getElem?_eq_some_iff.mp hd).1
      rename_i a dx vs
      have hv : vs[k]? = some (vs[k]'(by rw [l2]; exact hk)) := by simp [l2, hk]
      exact ⟨a, _, dx, _, _, rfl, I1.ex _ _ k1, ok.cls, ok.no f (List.mem_of_getElem? hf), lookup_zip nd hf hv, q M1 H1 δ1 _ d g e1 I1 (k2 k _ d hv hd)⟩
def putD (f : Str) (v : D) : List (Str × D) → List (Str × D)
  | [] => [(f, v)]
  | (g, x) :: r => if g = f then (g, v) :: r else (g, x) :: putD f v r
theorem putD_at {f : Str} {v : V} {d : D} (av : At Z M v d) : ∀ {fs : List (Str × V)} {gs : List (Str × D)}, AtL Z M (fs.map (·.2)) (gs.map (·.2)) → fs.map (·.1) = gs.map (·.1) → (putF f v fs).map (·.1) = (putD f d gs).map (·.1) ∧ AtL Z M ((putF f v fs).map (·.2)) ((putD f d gs).map (·.2))
  | [], [], _, _ => ⟨rfl, .one av⟩
  | [], g :: gs, _, e => by simp at e
  | x :: fs, [], _, e => by simp at e
  | (x1, x2) :: fs, (g1, g2) :: gs, a, e => by
    simp only [List.map_cons, List.cons.injEq] at e
    obtain ⟨rfl, e⟩ := e
    obtain ⟨v', ws, q, a1, a2⟩ := a.inv
    simp only [List.map_cons, List.cons.injEq] at q
    obtain ⟨rfl, rfl⟩ := q
    show ((if x1 = f then (x1, v) :: fs else (x1, x2) :: putF f v fs).map (·.1) = (if x1 = f then (x1, d) :: gs else (x1, g2) :: putD f d gs).map (·.1)) ∧ AtL Z M ((if x1 = f then (x1, v) :: fs else (x1, x2) :: putF f v fs).map (·.2)) ((if x1 = f then (x1, d) :: gs else (x1, g2) :: putD f d gs).map (·.2))
    by_cases c : x1 = f
    · rw [if_pos c, if_pos c]
      exact ⟨by simp [e], .cons av a2⟩
    · rw [if_neg c, if_neg c]
      obtain ⟨i1, i2⟩ := putD_at av a2 e
      exact ⟨by simp [i1], .cons a1 i2⟩
/-- self.f = e of an own instance -/
theorem xs_fldO {i : Nat} {f : Str} {c : Nat} (ok : Cls Z.K (Z.cl c).C) (n : NoAttr Z.K (Z.cl c).C f) (h : XE Z tv δ fun d δ1 => ∃ gs, δ1[i]? = some (.own (.ins c gs)) ∧ gs.length < 1000 ∧ P.N (δ1.set i (.own (.ins c (putD f d gs))))) : XS Z bs (sFld Z.K (tVar i) tv f) δ P := fun B W M H σ E hb I e =>
  h.run I fun M1 H1 δ1 x a h1 e1 I1 at1 => by
    obtain ⟨gs, hi, hl, g⟩ := h1
    obtain ⟨o, e0, p, ho, rfl, h0, h0', _⟩ := I1.sl i _ hi
    obtain ⟨dx, fs, rfl, e2, a⟩ := h0'.insI
    have hlen : fs.length < 1000 := by
      have := congrArg List.length e2; simp at this; omega
    exact ⟨_, e0, p, _, dx, fs, rfl, h0, ok, n, hlen, e.nx _ _ _ _ g e1 (I1.write e0 hi (ho := .ins _ dx _) (y' := .ins c _) ⟨rfl, (putD_at at1 a e2).1, (putD_at at1 a e2).2⟩)⟩
end
end G
set_option Elab.async false
set_option linter.all false
set_option maxRecDepth 100000
set_option maxHeartbeats 4000000
namespace G
open PySem L2
section
variable {Z : Wd} {M H M' H' : Hp} {B : Bas} {W : List (Nat × Addr)} {σ σ' : St} {δ : List S}
variable {te ta tb tv : TE} {tt t u : TT} {Φ : D → List S → Prop} {Ψ : S → List S → Prop} {Ω : OD → List S → Prop} {Λ : List D → List S → Prop} {ts : TA}
variable {bs vs : List Nat} {P : Po} {s1 s2 : TS} {Ξ : List S → Prop}
/-! ### targets -/
theorem xg_name {i : Nat} {x : D} (hv : i ∈ vs) (hi : i ∉ bs) (k : Ξ (δ.set i (.d x))) : XG Z vs bs (gName i) x δ Ξ := fun B W M H σ v Q hb I a q =>
  q M H _ _ k Ex.rfl' (I.put (not_bor hb hi) (hol_d _) (slotD a)) (fun j hj => List.getElem?_set_ne (fun z : i = j => hj (z ▸ hv))) (List.length_set ..)
def XGs (Z : Wd) (vs bs : List Nat) (g : TGs) (xs : List D) (δ : List S) (Φ : List S → Prop) : Prop :=
  ∀ B W M H σ us (Q : St → Hp → Prop), W.map (·.1) = bs → I3 Z B W M H σ δ → AtL Z M us xs →
    (∀ M' H' σ' δ', Φ δ' → Ex M M' → I3 Z B W M' H' σ' δ' → (∀ j, j ∉ vs → σ'[j]? = σ[j]?) → σ'.length = σ.length → Q σ' H') → g us σ H Q
theorem xgs_nil (k : Ξ δ) : XGs Z vs bs gNil [] δ Ξ := fun B W M H σ us Q hb I a q => ⟨a.inv0, q M H σ δ k Ex.rfl' I (fun _ _ => rfl) rfl⟩
theorem xgs_cons {g : TG} {gs : TGs} {x : D} {xs : List D} (h : XG Z vs bs g x δ fun δ1 => XGs Z vs bs gs xs δ1 Ξ) : XGs Z vs bs (gCons g gs) (x :: xs) δ Ξ := fun B W M H σ us Q hb I a q => by
  obtain ⟨v, ws, rfl, a1, a2⟩ := a.inv
  exact ⟨v, ws, rfl, h B W M H σ v _ hb I a1 fun M1 H1 σ1 δ1 h1 e1 I1 k1 l1 => h1 B W M1 H1 σ1 ws _ hb I1 (a2.mono e1) fun M2 H2 σ2 δ2 h2 e2 I2 k2 l2 => q M2 H2 σ2 δ2 h2 (e1.tr e2) I2 (fun j hj => (k2 j hj).trans (k1 j hj)) (l2.trans l1)⟩
theorem xg_tup {gs : TGs} {xs : List D} {n : Nat} (hn : xs.length = n) (h : XGs Z vs bs gs xs δ Ξ) : XG Z vs bs (gTup Z.K n gs) (.tup xs) δ Ξ := fun B W M H σ v Q hb I a q => by
  cases a with
  | tup k l c => exact ⟨_, _, rfl, sqT_mono I.ex k, by rw [l, hn], h B W M H σ _ Q hb I ⟨l, c⟩ q⟩
/-- target = e -/
theorem xs_asg {g : TG} (h : XE Z te δ fun d δ' => XG Z vs bs g d δ' P.N) : XS Z bs (tAsg te g) δ P := fun B W M H σ E hb I e =>
  h.run I fun M1 H1 δ1 x a h1 e1 I1 at1 => h1 B W M1 H1 σ x _ hb I1 at1 fun M2 H2 σ2 δ2 h2 e2 I2 _ _ => e.nx M2 H2 σ2 δ2 h2 (e1.tr e2) I2
/-! ### what a loop walks -/
structure WD (Z : Wd) (M : Hp) (J : It) (xs : List D) : Prop where
  go : ∀ i H, i < xs.length → Ex M H → J.go i H
  stop : ∀ H, Ex M H → J.stop xs.length H
  yld : ∀ i H x H' M2, i < xs.length → Ex M M2 → Ex M2 H → J.yld i H x H' → ∃ d, xs[i]? = some d ∧ ((H' = H ∧ At Z M2 x d) ∨ ∃ T us ds, H T = none ∧ H' = upd H T (.tup us) ∧ x = .ref T ∧ AtL Z M2 us ds ∧ d = .tup ds)
def XI (Z : Wd) (wi : TI) (δ : List S) (Φ : List D → List S → Prop) : Prop :=
  ∀ B W M H σ (R : It → Hp → Prop), I3 Z B W M H σ δ → (∀ M' H' δ' J xs, Φ xs δ' → Ex M M' → I3 Z B W M' H' σ δ' → WD Z M' J xs → R J H') → wi σ H R
def YD (Z : Wd) (M : Hp) (xs : List D) (i : Nat) (H : Hp) (x : V) (H' : Hp) : Prop := ∀ M2, Ex M M2 → Ex M2 H → ∃ d, xs[i]? = some d ∧ ((H' = H ∧ At Z M2 x d) ∨ ∃ T us ds, H T = none ∧ H' = upd H T (.tup us) ∧ x = .ref T ∧ AtL Z M2 us ds ∧ d = .tup ds)
theorem WD.walk {J : It} {xs : List D} (w : WD Z M J xs) : Walk J xs.length (Ex M) (YD Z M xs) :=
  ⟨w.go, w.stop, fun i H x H' hi _ y M2 e1 e2 => w.yld i H x H' M2 hi e1 e2 y⟩
/-- what it gives, as a datum over a state -/
theorem YD.use {xs : List D} {i : Nat} {x : V} {M0 : Hp} (y : YD Z M0 xs i H x H') (e : Ex M0 M) (I : I3 Z B W M H σ δ) : ∃ d M2, xs[i]? = some d ∧ Ex M M2 ∧ I3 Z B W M2 H' σ δ ∧ At Z M2 x d ∧ (∀ p o, H p = some o → H' p = some o) ∧ ∀ p o, H p = some o → M p = none → M2 p = none := by
  obtain ⟨d, hd, c⟩ := y M e I.ex
  rcases c with ⟨rfl, a⟩ | ⟨T, us, ds, hT, rfl, rfl, al, rfl⟩
  · exact ⟨d, M, hd, Ex.rfl', I, a, fun _ _ h => h, fun _ _ _ h => h⟩
  · have hm := I.ex.free hT
    exact ⟨_, upd M T (.tup us), hd, Ex.new hm, I.grow hT, .tup (SqT.of upd_same) al.len (al.mono (Ex.new hm)).at', fun p o h => by rw [upd_ne (ne_of_none h hT)]; exact h, fun p o h n => by rw [upd_ne (ne_of_none h hT)]; exact n⟩
theorem xs_for {g : TG} {tb : TS} {wi : TI} (h : XI Z wi δ fun xs δ0 => ∃ J : Nat → List S → Prop, J 0 δ0 ∧
      (∀ i d δ1, xs[i]? = some d → J i δ1 → XG Z vs bs g d δ1 fun δ2 => XS Z bs tb δ2 { N := J (i + 1), R := P.R, B := P.N, C := J (i + 1), X := P.X }) ∧ ∀ δ1, J xs.length δ1 → P.N δ1) : XS Z bs (tFor wi g tb) δ P := fun B W M H σ E hb I e =>
  h B W M H σ _ I fun M' H' δ' J xs f e1 I1 wd => by
    obtain ⟨Jv, j0, js, jn⟩ := f
    refine for_it wd.walk (fun i σ H => ∃ M'' δ'', Ex M' M'' ∧ I3 Z B W M'' H σ δ'' ∧ Jv i δ'') ⟨M', δ', Ex.rfl', I1, j0⟩ (fun i σ H _ ⟨M'', _, a, b, _⟩ => a.tr b.ex) (fun i x σ1 H1 H2 hi ⟨M'', δ'', a, b, c⟩ y => ?_) (fun σ1 H1 ⟨M'', δ'', a, b, c⟩ => e.nx _ _ _ _ (jn _ c) (e1.tr a) b)
    obtain ⟨d, M2, hd, e2, I2, at2, _⟩ := y.use a b
    refine js i d δ'' hd c B W M2 H2 σ1 x _ hb I2 at2 fun M3 H3 σ3 δ3 h3 e3 I3' _ _ => ?_
    have e4 : Ex M M3 := e1.tr (a.tr (e2.tr e3))
    refine h3 B W M3 H3 σ3 _ hb I3' ⟨fun M4 H4 σ4 δ4 p q I4 => ⟨M4, δ4, a.tr (e2.tr (e3.tr q)), I4, p⟩, fun _ _ _ _ _ _ p q => e.rt _ _ _ _ _ _ p (e4.tr q), fun _ _ _ _ p q => e.nx _ _ _ _ p (e4.tr q), fun M4 H4 σ4 δ4 p q I4 => ⟨M4, δ4, a.tr (e2.tr (e3.tr q)), I4, p⟩, fun _ q => e.xc _ (e4.tr q)⟩
/-! ### comprehensions -/
def wipeS (δ : List S) : List Nat → List S
  | [] => δ
  | v :: vs => (wipeS δ vs).set v .no
theorem wipeS_len : ∀ (vs : List Nat), (wipeS δ vs).length = δ.length
  | [] => rfl
  | v :: vs => by rw [show wipeS δ (v :: vs) = (wipeS δ vs).set v .no from rfl, List.length_set, wipeS_len vs]
theorem wipeS_out {j : Nat} : ∀ {vs : List Nat}, j ∉ vs → (wipeS δ vs)[j]? = δ[j]?
  | [], _ => rfl
  | v :: vs, h => by
    rw [List.mem_cons, not_or] at h
    rw [show wipeS δ (v :: vs) = (wipeS δ vs).set v .no from rfl, List.getElem?_set_ne (fun z => h.1 z.symm), wipeS_out h.2]
theorem wipeS_in {j : Nat} (hj : j < δ.length) : ∀ {vs : List Nat}, j ∈ vs → (wipeS δ vs)[j]? = some .no
  | v :: vs, h => by
    rw [show wipeS δ (v :: vs) = (wipeS δ vs).set v .no from rfl]
    by_cases e : v = j
    · subst e; rw [List.getElem?_set_self (by rw [wipeS_len]; exact hj)]
    · rw [List.getElem?_set_ne e]
      rcases List.mem_cons.mp h with z | z
      · exact absurd z.symm e
      · exact wipeS_in hj z
theorem wipe_out {j : Nat} : ∀ {vs : List Nat}, j ∉ vs → (wipe σ vs)[j]? = σ[j]?
  | [], _ => rfl
  | v :: vs, h => by
    rw [List.mem_cons, not_or] at h
    rw [show wipe σ (v :: vs) = (wipe σ vs).set v none from rfl, List.getElem?_set_ne (fun z => h.1 z.symm), wipe_out h.2]
theorem wipe_in {j : Nat} (hj : j < σ.length) : ∀ {vs : List Nat}, j ∈ vs → (wipe σ vs)[j]? = some none
  | v :: vs, h => by
    rw [show wipe σ (v :: vs) = (wipe σ vs).set v none from rfl]
    by_cases e : v = j
    · subst e; rw [List.getElem?_set_self (by rw [wipe_length]; exact hj)]
    · rw [List.getElem?_set_ne e]
      rcases List.mem_cons.mp h with z | z
      · exact absurd z.symm e
      · exact wipe_in hj z
theorem wipe_eq (h : ∀ j, j ∉ vs → σ'[j]? = σ[j]?) (hl : σ'.length = σ.length) : wipe σ' vs = wipe σ vs := by
  apply List.ext_getElem?
  intro j
  by_cases hj : j ∈ vs
  · by_cases hlt : j < σ.length
    · rw [wipe_in (hl ▸ hlt) hj, wipe_in hlt hj]
    · rw [List.getElem?_eq_none (by rw [wipe_length, hl]; omega), List.getElem?_eq_none (by rw [wipe_length]; omega)]
  · rw [wipe_out hj, wipe_out hj, h j hj]
/-- other values in slots of which nothing is known -/
theorem I3.swap {δ' : List S} (I : I3 Z B W M H σ δ) (h : ∀ j, j ∉ vs → σ'[j]? = σ[j]?) (hl : σ'.length = σ.length) (hd : ∀ j, j ∉ vs → δ'[j]? = δ[j]?) (hn : ∀ j, j ∈ vs → j < δ'.length → δ'[j]? = some .no) (hl' : δ'.length = δ.length) (hw : ∀ i p, i ∈ vs → (i, p) ∉ W) : I3 Z B W M H σ' δ' := by
  have fw : ∀ j p, Own σ' δ' j p → j ∉ vs ∧ Own σ δ j p := fun j p o => by
    have hj : j ∉ vs := fun z => by
      obtain ⟨r, y, a, b, c⟩ := o
      rw [hn j z (List.getElem?_eq_some_iff.mp b).1] at b; cases b; exact c
    exact ⟨hj, o.same (h j hj).symm (hd j hj).symm⟩
  refine ⟨I.ex, I.mg, I.keep, by rw [hl, hl']; exact I.len, fun j s e => ?_, fun j q w => ?_, fun j q o => I.own j q (fw j q o).2, fun j k q a b => I.dis j k q (fw j q a).2 (fw k q b).2⟩
  · by_cases hj : j ∈ vs
    · have hlt := (List.getElem?_eq_some_iff.mp e).1
      rw [hn j hj hlt] at e; cases e
      have : j < σ'.length := by rw [hl, I.len, ← hl']; exact hlt
      exact ⟨σ'[j], by simp [this], trivial⟩
    · rw [hd j hj] at e
      obtain ⟨o, a, b⟩ := I.sl j s e
      exact ⟨o, by rw [h j hj]; exact a, b⟩
  · have hj : j ∉ vs := fun z => hw j q z w
    exact (I.bor j q w).same (h j hj) (hd j hj)
theorem xo_lc {g : TG} {wi : TI} (h : XI Z wi δ fun xs δ0 => (∀ v ∈ vs, δ0[v]? = some .no) ∧ xs.length ≤ 1000000 ∧ ∃ J : Nat → List D → List S → Prop, J 0 [] δ0 ∧
      (∀ i d acc δ1 bs, (∀ v ∈ vs, v ∉ bs) → xs[i]? = some d → J i acc δ1 → XG Z vs bs g d δ1 fun δ2 => XT Z tt δ2 fun b δ3 => if b = true then XE Z te δ3 fun y δ4 => J (i + 1) (acc ++ [y]) (wipeS δ4 vs) else J (i + 1) acc (wipeS δ3 vs)) ∧
      ∀ acc δ1, J xs.length acc δ1 → Ω (.lst acc) δ1) : XO Z (tLc wi g tt te vs) δ Ω := XO.mk fun B W M H σ Q I q =>
  h B W M H σ _ I fun M' H1 δ' J xs f e1 I1 wd A hA => by
    obtain ⟨hno, hxs, Jv, j0, js, jn⟩ := f
    have hAB := I1.fresh hA
    have hAm := I1.ex.free hA
    refine lc_it wd.walk (fun i H => i ≤ xs.length → ∃ M'' δ'' acc av, Ex M' M'' ∧ I3 Z B W M'' H σ δ'' ∧ Jv i acc δ'' ∧ H A = some (.lst av) ∧ AtL Z M'' av acc ∧ M'' A = none ∧ (∀ j, ¬ Own σ δ'' j A) ∧ (∀ v ∈ vs, δ''[v]? = some .no) ∧ acc.length ≤ i)
      (fun _ => ⟨M', δ', [], [], Ex.rfl', I1.other hAB hAm (I1.newOwn hA), j0, upd_same, .nil, hAm, I1.newOwn hA, hno, Nat.le_refl _⟩) (fun i H hi p => ?_) (fun i x Ha Hb hi p y => ?_) (fun H p => ?_)
    · obtain ⟨M'', _, _, _, a, b, _⟩ := p hi
      exact a.tr b.ex
    · obtain ⟨M'', δ'', acc, av, a, Ia, ja, hA1, al, hAm1, hAo, hno1, hacc⟩ := p (Nat.le_of_lt hi)
      obtain ⟨d, M2, hd, e2, I2, at2, k2, m2⟩ := y.use a Ia
      have hA2 := k2 _ _ hA1
      have hAm2 := m2 _ _ hA1 hAm1
      have hvlen : ∀ v ∈ vs, v < δ''.length := fun v hv => (List.getElem?_eq_some_iff.mp (hno1 v hv)).1
      have hWv : ∀ i p, i ∈ vs → (i, p) ∉ W := fun i p hv hw => by
        exact Own.not (hno1 i hv) hol_no (I2.bor i p hw)
      have Iw : I3 Z B W M2 Hb (wipe σ vs) δ'' := I2.swap (fun j hj => wipe_out hj) (wipe_length _ _) (fun _ _ => rfl) (fun j hj _ => hno1 j hj) rfl hWv
      have hbs : ∀ v ∈ vs, v ∉ (owns 0 (wipe σ vs) δ'').map (·.1) := fun v hv hm => by
        obtain ⟨⟨i, p⟩, hmem, rfl⟩ := List.mem_map.mp hm
        exact Own.not (hno1 _ hv) hol_no (mem_owns.mp hmem)
      have ownEq : ∀ i p, (i, p) ∈ owns 0 (wipe σ vs) δ'' ↔ Own σ δ'' i p := fun i p => by
        rw [mem_owns]
        constructor
        · intro o
          have hi' : i ∉ vs := fun hv => Own.not (hno1 i hv) hol_no o
          exact o.same (wipe_out hi').symm rfl
        · intro o
          have hi' : i ∉ vs := fun hv => Own.not (hno1 i hv) hol_no o
          exact o.same (wipe_out hi') rfl
      have fin : ∀ M4 H4 σ4 δ4, Ex M2 M4 → (∀ j, j ∉ vs → σ4[j]? = (wipe σ vs)[j]?) → σ4.length = (wipe σ vs).length → I3 Z ⟨Hb, M2⟩ (owns 0 (wipe σ vs) δ'') M4 H4 σ4 δ4 →
          I3 Z B W M4 H4 σ (wipeS δ4 vs) ∧ H4 A = some (.lst av) ∧ M4 A = none ∧ (∀ j, ¬ Own σ (wipeS δ4 vs) j A) ∧ ∀ v ∈ vs, (wipeS δ4 vs)[v]? = some .no := fun M4 H4 σ4 δ4 e4 k4 l4 J4 => by
        have hl4 : δ4.length = δ''.length := by rw [← J4.len, l4, wipe_length, Ia.len]
        have J5 : I3 Z ⟨Hb, M2⟩ (owns 0 (wipe σ vs) δ'') M4 H4 σ (wipeS δ4 vs) := J4.swap (vs := vs) (fun j hj => by rw [k4 j hj, wipe_out hj]) (by rw [l4, wipe_length]) (fun j hj => wipeS_out hj) (fun j hj hlt => wipeS_in (by rw [wipeS_len] at hlt; exact hlt) hj) (wipeS_len _) fun i p hv hw => hbs i hv (List.mem_map_of_mem (f := (·.1)) hw)
        obtain ⟨z1, z2, z3⟩ := J5.stays (a := A) hA2 hAm2 (fun i hi => hAo i ((ownEq i A).mp hi)) (fun _ e => nomatch e)
        exact ⟨I2.back ownEq J5, z1, z3, z2, fun v hv => wipeS_in (by rw [hl4]; exact hvlen v hv) hv⟩
      refine js i d acc δ'' _ hbs hd ja _ _ M2 Hb (wipe σ vs) x _ rfl Iw.rebase at2 fun M3 H3 σ3 δ3 h3 e3 J3 k3 l3 => ⟨(wipe_eq k3 l3).trans (wipe_eq (fun j hj => wipe_out hj) (wipe_length _ _)), ?_⟩
      refine h3 _ _ M3 H3 σ3 _ J3 fun M4 H4 δ4 b h4 e4 J4 => ?_
      cases b with
      | true =>
        rw [if_pos rfl] at h4 ⊢
        refine XE.run h4 J4 fun M5 H5 δ5 y' d' h5 e5 J5 at5 => ?_
        obtain ⟨z1, z2, z3, z4, z5⟩ := fin M5 H5 σ3 δ5 (e3.tr (e4.tr e5)) k3 l3 J5
        have hlen : av.length < sizeLine := Nat.lt_of_lt_of_le (by have := al.len; omega : av.length < 1000001) (by decide)
        refine ⟨av, z2, hlen, fun _ => ⟨M5, _, _, _, a.tr (e2.tr (e3.tr (e4.tr e5))), z1.other hAB z3 z4, h5, upd_same, AtL.app (al.mono (e2.tr (e3.tr (e4.tr e5)))) (.one at5), z3, z4, z5, by rw [List.length_append, List.length_singleton]; omega⟩⟩
      | false =>
        rw [if_neg Bool.false_ne_true] at h4 ⊢
        obtain ⟨z1, z2, z3, z4, z5⟩ := fin M4 H4 σ3 δ4 (e3.tr e4) k3 l3 J4
        exact fun _ => ⟨M4, _, _, _, a.tr (e2.tr (e3.tr e4)), z1, h4, z2, al.mono (e2.tr (e3.tr e4)), z3, z4, z5, Nat.le_succ_of_le hacc⟩
    · obtain ⟨M'', δ'', acc, av, a, Ia, ja, hA1, al, hAm1, hAo, hno1, _⟩ := p (Nat.le_refl _)
      exact q M'' H δ'' A _ _ (jn _ _ ja) (e1.tr a) Ia hA1 al hAm1 hAB hAo
/-! ### while -/
theorem xs_while {c : TT} {tb : TS} (J : Nat → List S → Prop) (h0 : ∃ m, J m δ) (hs : ∀ m δ1, J m δ1 → XT Z c δ1 fun b δ2 => if b = true then XS Z bs tb δ2 { N := fun δ3 => ∃ m', m' < m ∧ J m' δ3, R := P.R, B := P.N, C := fun δ3 => ∃ m', m' < m ∧ J m' δ3, X := P.X } else P.N δ2) : XS Z bs (tWhile c tb) δ P := fun B W M H σ E hb I e => by
  obtain ⟨m, hm⟩ := h0
  refine ⟨fun m σ H => ∃ M' δ', Ex M M' ∧ I3 Z B W M' H σ δ' ∧ J m δ', ⟨m, M, δ, Ex.rfl', I, hm⟩, ?_⟩
  rintro m σ H ⟨M', δ', a, I', hj⟩
  refine hs m δ' hj B W M' H σ _ I' fun M1 H1 δ1 b h1 e1 I1 => ?_
  cases b with
  | true =>
    rw [if_pos rfl] at h1 ⊢
    refine ⟨fun σ H => ∃ M' δ', Ex M M' ∧ I3 Z B W M' H σ δ' ∧ ∃ m', m' < m ∧ J m' δ', fun σ' H' ⟨M2, δ2, x, y, m', l, z⟩ => ⟨m', l, M2, δ2, x, y, z⟩, ?_⟩
    have e2 : Ex M M1 := a.tr e1
    exact h1 B W M1 H1 σ _ hb I1 ⟨fun M4 H4 σ4 δ4 p q I4 => ⟨M4, δ4, e2.tr q, I4, p⟩, fun _ _ _ _ _ _ p q => e.rt _ _ _ _ _ _ p (e2.tr q), fun _ _ _ _ p q => e.nx _ _ _ _ p (e2.tr q), fun M4 H4 σ4 δ4 p q I4 => ⟨M4, δ4, e2.tr q, I4, p⟩, fun _ q => e.xc _ (e2.tr q)⟩
  | false =>
    rw [if_neg Bool.false_ne_true] at h1 ⊢
    exact e.nx _ _ _ _ h1 (a.tr e1) I1
/-! ### sources -/
theorem wd_list {a : Addr} {us : List V} {xs : List D} (h : SqL Z.K M a us) (al : AtL Z M us xs) : WD Z M (Itl Z.K a) xs :=
  ⟨fun i H hi e => ⟨us, us[i]'(by rw [al.len]; exact hi), sqL_mono e h, by simp [al.len, hi]⟩, fun H e => ⟨us, sqL_mono e h, by rw [al.len]; exact Nat.le_refl _⟩, fun i H x H' M2 hi e1 e2 y => by
    have hx := y.2 us (sqL_mono (e1.tr e2) h)
    obtain ⟨d, hd, a⟩ := al.getV hx
    exact ⟨d, hd, .inl ⟨y.1, a.mono e1⟩⟩⟩
theorem wd_tup {a : Addr} {us : List V} {xs : List D} (h : SqT Z.K M a us) (al : AtL Z M us xs) : WD Z M (Itt Z.K a) xs :=
  ⟨fun i H hi e => ⟨us, us[i]'(by rw [al.len]; exact hi), sqT_mono e h, by simp [al.len, hi]⟩, fun H e => ⟨us, sqT_mono e h, by rw [al.len]; exact Nat.le_refl _⟩, fun i H x H' M2 hi e1 e2 y => by
    have hx := y.2 us (sqT_mono (e1.tr e2) h)
    obtain ⟨d, hd, a⟩ := al.getV hx
    exact ⟨d, hd, .inl ⟨y.1, a.mono e1⟩⟩⟩
theorem xi_list (h : XE Z te δ fun d δ1 => ∃ xs, (d = .lst xs ∨ ∃ ns, d = .scr ns ∧ xs = ns.map .int) ∧ Λ xs δ1) : XI Z (iList Z.K te) δ Λ := fun B W M H σ R I q =>
  h.run I fun M1 H1 δ1 x a h1 e1 I1 at1 => by
    obtain ⟨xs, hx, f⟩ := h1
    rcases hx with rfl | ⟨ns, rfl, rfl⟩
    · cases at1 with
      | lst k l c => exact ⟨_, rfl, ⟨_, SqL.of (I1.ex _ _ k)⟩, q M1 H1 δ1 _ _ f e1 I1 (wd_list (SqL.of k) ⟨l, c⟩)⟩
    · cases at1 with
      | scr k => exact ⟨_, rfl, ⟨_, sqL_mono I1.ex k⟩, q M1 H1 δ1 _ _ f e1 I1 (wd_list k (AtL.ofInts ns))⟩
theorem xi_tup (h : XE Z te δ fun d δ1 => ∃ xs, d = .tup xs ∧ Λ xs δ1) : XI Z (iTup Z.K te) δ Λ := fun B W M H σ R I q =>
  h.run I fun M1 H1 δ1 x a h1 e1 I1 at1 => by
    obtain ⟨xs, rfl, f⟩ := h1
    cases at1 with
    | tup k l c => exact ⟨_, rfl, ⟨_, sqT_mono I1.ex k⟩, q M1 H1 δ1 _ _ f e1 I1 (wd_tup k ⟨l, c⟩)⟩
def rng (lo : Int) (n : Nat) : List D := (List.range n).map fun (i : Nat) => D.int (lo + (i : Int))
theorem rng_len {lo : Int} {n : Nat} : (rng lo n).length = n := by simp [rng]
theorem rng_at {lo : Int} {n i : Nat} {d : D} (h : (rng lo n)[i]? = some d) : i < n ∧ d = .int (lo + i) := by
  have hi : i < n := by have := (List.getElem?_eq_some_iff.mp h).1; rwa [rng_len] at this
  refine ⟨hi, ?_⟩
  simp [rng, hi] at h
  exact h.symm
theorem wd_rng {lo : Int} {n : Nat} : WD Z M (Itr lo n) (rng lo n) :=
  ⟨fun i H hi _ => by rw [rng_len] at hi; exact hi, fun H _ => by rw [rng_len]; exact Nat.le_refl n, fun i H x H' M2 hi _ _ y => by
    rw [rng_len] at hi
    refine ⟨.int (lo + i), by simp [rng, hi], .inl ⟨y.1, ?_⟩⟩
    rw [y.2]; exact .int⟩
theorem xi_rng1 (h : XE Z te δ fun d δ1 => ∃ j : Int, d = .int j ∧ -(2 ^ 62) ≤ j ∧ j < 2 ^ 62 ∧ Λ (rng 0 j.toNat) δ1) : XI Z (iRng1 (tCons te tNil)) δ Λ := fun B W M H σ R I q =>
  h.run I fun M1 H1 δ1 x a h1 e1 I1 at1 => by
    obtain ⟨j, rfl, b1, b2, f⟩ := h1
    cases at1
    exact ⟨j, rfl, b1, b2, q M1 H1 δ1 _ _ f e1 I1 wd_rng⟩
theorem xi_rng2 (h : XE Z ta δ fun d δ1 => XE Z tb δ1 fun b δ2 => ∃ i j : Int, d = .int i ∧ b = .int j ∧ (-(2 ^ 62) ≤ i ∧ i < 2 ^ 62 ∧ -(2 ^ 62) ≤ j ∧ j < 2 ^ 62) ∧ Λ (rng i (j - i).toNat) δ2) : XI Z (iRng2 (tCons ta (tCons tb tNil))) δ Λ := fun B W M H σ R I q =>
  h.run I fun M1 H1 δ1 x a h1 e1 I1 at1 => XE.run h1 I1 fun M2 H2 δ2 y b h2 e2 I2 at2 => by
    obtain ⟨i, j, rfl, rfl, b1, f⟩ := h2
    cases at1; cases at2
    exact ⟨i, j, rfl, b1, q M2 H2 δ2 _ _ f (e1.tr e2) I2 wd_rng⟩
def enumD (xs : List D) : List D := xs.zipIdx.map fun (x, i) => D.tup [.int (i : Nat), x]
theorem enumD_len {xs : List D} : (enumD xs).length = xs.length := by simp [enumD]
theorem enumD_at {xs : List D} {i : Nat} {d : D} (h : (enumD xs)[i]? = some d) : ∃ x, xs[i]? = some x ∧ d = .tup [.int (i : Nat), x] := by
  simp only [enumD, List.getElem?_map, List.getElem?_zipIdx] at h
  cases e : xs[i]? with
  | none => rw [e] at h; simp at h
  | some x => rw [e] at h; simp at h; exact ⟨x, rfl, h.symm⟩
theorem xi_enum (h : XE Z te δ fun d δ1 => ∃ xs, d = .lst xs ∧ Λ (enumD xs) δ1) : XI Z (iEnum Z.K (tCons te tNil)) δ Λ := fun B W M H σ R I q =>
  h.run I fun M1 H1 δ1 x a h1 e1 I1 at1 => by
    obtain ⟨xs, rfl, f⟩ := h1
    cases at1 with
    | lst k l c =>
      rename_i p us
      refine ⟨p, us, rfl, SqL.of (I1.ex _ _ k), q M1 H1 δ1 _ _ f e1 I1 ⟨fun i H hi e => ?_, fun H e => ?_, fun i H x H' M2 hi ea eb y => ?_⟩⟩
      · rw [enumD_len] at hi
        exact ⟨us, us[i]'(by rw [l]; exact hi), SqL.of (e _ _ k), by simp [l, hi]⟩
      · exact ⟨us, SqL.of (e _ _ k), by rw [enumD_len, l]; exact Nat.le_refl _⟩
      · obtain ⟨T, z, h1, h2, h3, h4⟩ := y
        have hz := h4 us (SqL.of ((ea.tr eb) _ _ k))
        obtain ⟨d, hd, ad⟩ := AtL.getV (Z := Z) (M := M1) ⟨l, c⟩ hz
        refine ⟨_, ?_, .inr ⟨T, _, [.int (i : Nat), d], h2, h3, h1, .cons .int (.one (ad.mono ea)), rfl⟩⟩
        simp only [enumD, List.getElem?_map, List.getElem?_zipIdx, hd]; simp
theorem xi_str (h : XE Z te δ fun d δ1 => ∃ s, d = .str s ∧ Λ (s.cps.toList.map fun c => D.str ⟨#[c]⟩) δ1) : XI Z (iStr te) δ Λ := fun B W M H σ R I q =>
  h.run I fun M1 H1 δ1 x a h1 e1 I1 at1 => by
    obtain ⟨s, rfl, f⟩ := h1
    cases at1
    refine ⟨s, rfl, q M1 H1 δ1 _ _ f e1 I1 ⟨fun i H hi _ => ?_, fun H _ => ?_, fun i H x H' M2 hi _ _ y => ?_⟩⟩
    · simpa using (walk_str (z := s)).goes i H (by simpa using hi) trivial
    · simpa using (walk_str (z := s)).stops H trivial
    · obtain ⟨e, c, hc, rfl⟩ := (walk_str (z := s)).yields i H x H' (by simpa using hi) trivial y
      refine ⟨.str ⟨#[c]⟩, ?_, .inl ⟨e, .str⟩⟩
      rw [List.getElem?_map, Array.getElem?_toList, hc]; rfl
end
end G
set_option Elab.async false
set_option linter.all false
set_option maxRecDepth 100000
set_option maxHeartbeats 4000000
/-! sets of texts made of a list, and sorted -/
namespace GS
open PySem PySem.Spec PyProof.Rows L2
open PySem.Froz (SD sObj tailTx addTx TxOk)
/-- the set's table can be walked -/
def Led (w : World) (D : SD) : Prop := Ris D.2.2.place.toList ∧ (w.params.followText "set-order" = true ∨ D.2.2.led = true)
theorem led_tail {w : World} {n : Nat} {xs : Array (Int × Value)} {tb : SetTable} {b : Bool} (r : Ris tb.place.toList) (l : w.params.followText "set-order" = true ∨ tb.led = true) : Led w (tailTx n xs tb b) := by
  unfold tailTx
  split
  · exact ⟨relayAll_ris tb xs _, l.imp id fun z => (relayAll_led tb xs _).trans z⟩
  · exact ⟨r, l⟩
theorem led_add {w : World} {D : SD} {n : Int} {v : Value} (L : Led w D) : Led w (addTx n v D) := by
  have r1 := layNew_ris D.2.2 D.1 n v L.1
  have l1 := L.2.imp id fun z => (layNew_led D.2.2 D.1 n v).trans z
  unfold addTx
  apply led_tail
  · split <;> exact r1
  · split <;> exact l1
section
variable {P : Program} {w : World} {A : Around} {E : Value → Shared → Prop} {s : Shared}
theorem found_x {a : Addr} {D : SD} {l : List Str} {k : Str} {u : Tok} {Q : Bool → Shared → Prop} (ho : s.heap.get? a = some (sObj "set" D)) (F : TxOk P w D l) (hk : k ∈ l) (hb : l.length < scanBound) (h : Q false s) :
    wpAny (model P w) A (setAddHashed a (.str k u) (hashStr w k)) Q E s := by
  obtain ⟨xs, n, tb⟩ := D
  have kk : (strKind P w).is k (.str k u) = true := Froz.is_str k u
  have b0 : xs.size < scanBound := by have : xs.size = l.length := F.sz; omega
  obtain ⟨e, he, hz⟩ := (F.mem k).mp hk
  have some_ : ∃ j, List.findIdx? (fun e => (strKind P w).is k e.2) xs.toList = some j := by
    cases q : List.findIdx? (fun e => (strKind P w).is k e.2) xs.toList with
    | some j => exact ⟨j, rfl⟩
    | none => have := List.findIdx?_eq_none_iff.mp q e he; rw [hz] at this; cases this
  obtain ⟨j, hj⟩ := some_
  have el : ElemsOf (strKind P w) xs.toList := F.el
  unfold setAddHashed setAddHashedIn
  refine wpAny_holding (wpAny_bind (wpAny_setState_of ho rfl F.fit ?_))
  dsimp only
  rw [byScan_of rfl b0 el]
  simp only [↓reduceIte]
  unfold setAddByScan
  refine wpAny_bind (wpAny_bind (wpAny_rule (wpAny_bind (wpAny_setScan_of (knd := strKind P w) (k := k) kk ho rfl F.fit el ?_))))
  rw [hj]
  exact wpAny_pure (wpAny_pure h)
/-- the set at a holds just the texts l, each once -/
def Holds (P : Program) (w : World) (h : Heap) (a : Addr) (l : List Str) : Prop := ∃ D, h.get? a = some (sObj "set" D) ∧ TxOk P w D l ∧ Led w D ∧ l.Nodup
theorem Holds.stay {h h' : Heap} {a : Addr} {l : List Str} (x : Holds P w h a l) (k : ∀ o, h.get? a = some o → h'.get? a = some o) : Holds P w h' a l := by
  obtain ⟨D, e, r⟩ := x
  exact ⟨D, k _ e, r⟩
def Upto (xs l : List Str) (i : Nat) : Prop := l.length ≤ i ∧ ∀ x, x ∈ l ↔ x ∈ xs.take i
theorem take_get {α : Type} {l : List α} {i : Nat} {x : α} (h : l[i]? = some x) : l.take (i + 1) = l.take i ++ [x] := by
  have hi := (List.getElem?_eq_some_iff.mp h)
  obtain ⟨hi, rfl⟩ := hi
  exact (List.take_append_getElem hi).symm
/-- one text more -/
theorem add_one {a : Addr} {l xs : List Str} {i : Nat} {k : Str} {u : Tok} {Q : Bool → Shared → Prop} (H : Holds P w s.heap a l) (U : Upto xs l i) (hx : xs[i]? = some k) (hb : i + 1 < scanBound)
    (h : ∀ b h' l', (∀ c o, c ≠ a → s.heap.get? c = some o → h'.get? c = some o) → Holds P w h' a l' → Upto xs l' (i + 1) → Q b { s with heap := h' }) : wpAny (model P w) A (setAddHashed a (.str k u) (hashStr w k)) Q E s := by
  obtain ⟨D, ho, F, L, nd⟩ := H
  obtain ⟨U1, U2⟩ := U
  have tk := take_get hx
  by_cases hk : k ∈ l
  · refine found_x ho F hk (by omega) (h false s.heap l (fun _ _ _ e => e) ⟨D, ho, F, L, nd⟩ ⟨by omega, fun x => ?_⟩)
    rw [tk, List.mem_append, List.mem_singleton, ← U2]
    exact ⟨.inl, fun z => z.elim id fun e => e ▸ hk⟩
  · refine Froz.add_x ho F hk (by omega) (h true _ (k :: l) (fun c o hc e => (Heap.get?_update_other _ _ (Ne.symm hc)).trans e) ⟨_, Froz.get_upd _ ho rfl, Froz.add_ok u F, led_add L, List.nodup_cons.mpr ⟨hk, nd⟩⟩ ⟨by rw [List.length_cons]; omega, fun x => ?_⟩)
    rw [tk, List.mem_append, List.mem_singleton, ← U2, List.mem_cons]
    exact ⟨fun z => z.elim .inr .inl, fun z => z.elim .inr .inl⟩
end
section
variable {P : Program} {w : World} {A : Around} {R : Result → Shared → Prop} {I : Addr} {fp wr : List Addr} {g : Array GenState → Array GenState → Prop} {n : Nat} {Pv : Nat → Value → Prop} {St : Nat → Shared → Prop}
theorem update_loop (K : WalksS P w A.in1 I fp wr g n Pv St) (a : Addr) (ha : a ∉ fp) (xs : List Str) (hn : xs.length = n) (hb : n + 1 < scanBound) (hv : ∀ i v, Pv i v → ∃ x t, xs[i]? = some x ∧ v = .str x t) :
    ∀ (m i : Nat) (s : Shared), n - i = m → i ≤ n → St i s → (∃ l, Holds P w s.heap a l ∧ Upto xs l i) →
      (∀ s' l, Moved (a :: wr) g s s' → Holds P w s'.heap a l → Upto xs l n → R (.ok (.ret .none)) s') → codeAny (model P w) A (.builtin "set.update.loop" ⟨[.ref a, .ref I], []⟩) R s
  | 0, i, s, hm, hi, st, ⟨l, Hl, U⟩, fin => by
    obtain rfl : i = n := by omega
    refine codeAny_builtin PyProof.Rows.F.entry_set_update_loop ?_
    rw [Around.under_plainId PyProof.Rows.F.plain_set_update_loop]
    refine wpAny_bind (K.done s (fun r s1 => wpAny (model P w) A.in1 _ _ _ s1) _ st fun s1 mv => ?_)
    have aw : a ∉ wr := fun z => ha (K.sub _ z)
    exact wpAny_pure (fin s1 l (mv.mono fun b z => List.mem_cons_of_mem _ z) (Hl.stay fun o e => mv.heap a o aw e) U)
  | m + 1, i, s, hm, hi, st, ⟨l, Hl, U⟩, fin => by
    have lt : i < n := by omega
    have aw : a ∉ wr := fun z => ha (K.sub _ z)
    have cons : ∀ b ∈ wr, b ∈ a :: wr := fun b z => List.mem_cons_of_mem _ z
    refine codeAny_builtin PyProof.Rows.F.entry_set_update_loop ?_
    rw [Around.under_plainId PyProof.Rows.F.plain_set_update_loop]
    refine wpAny_bind (K.item i s (fun r s1 => wpAny (model P w) A.in1 _ _ _ s1) _ lt st fun v s1 pv st1 mv => ?_)
    obtain ⟨x, t, hx, rfl⟩ := hv i v pv
    have H1 : Holds P w s1.heap a l := Hl.stay fun o e => mv.heap a o aw e
    show wpAny _ A.in1 (holding [Value.str x t] (setAdd a (.str x t)) >>= _) _ _ s1
    refine wpAny_bind (wpAny_holding ?_)
    unfold setAdd
    refine wpAny_holding (wpAny_bind ((PySem.strKind P w).pyHash (k := x) (strKind_is _ _ _ _) ?_))
    refine add_one (s := { s1 with toks := s1.toks + 1 }) H1 U hx (by omega) fun b h2 l2 k2 H2 U2 => ?_
    refine wpAny_pure ⟨plainId_quiet PyProof.Rows.F.plain_set_update_loop _, update_loop K a ha xs hn hb hv m (i + 1) _ (by omega) lt (K.frame _ s1 _ _ st1 (Nat.le_succ _) fun b hb o e => k2 b o (fun z => ha (z ▸ hb)) e) ⟨l2, H2, U2⟩ fun s3 l3 mv3 H3 U3 => ?_⟩
    exact fin s3 l3 (Moved.trans K.gtrans ((mv.mono cons).then_heap (Nat.le_succ _) fun b o hb e => k2 b o (fun z => hb (by rw [z]; exact List.mem_cons_self)) e) mv3) H3 U3
end
end GS
set_option Elab.async false
set_option linter.all false
set_option maxRecDepth 100000
set_option maxHeartbeats 8000000
namespace GS
open PySem PySem.Spec PyProof.Rows L2
open PySem.Froz (SD sObj tailTx addTx TxOk)
/-- a set as set() makes it -/
def new0 (w : World) : Obj := { cls := .type "set", dict := none, data := .set #[] 0 (.fresh 0 0 (!w.params.followText "set-order")) }
section
variable {P : Program} {w : World} {A : Around} {E : Value → Shared → Prop} {s : Shared}
theorem holds_new {h : Heap} {a : Addr} (e : h.get? a = some (new0 w)) : Holds P w h a [] := by
  refine ⟨(#[], 0, .fresh 0 0 (!w.params.followText "set-order")), e, Froz.TxOk.nil rfl, ⟨List.Pairwise.nil, ?_⟩, List.nodup_nil⟩
  show _ ∨ (!w.params.followText "set-order") = true
  cases w.params.followText "set-order" <;> simp
theorem strs_get : ∀ {us : List Value} {xs : List Str}, StrsAre us xs → ∀ (i : Nat) v, us[i]? = some v → ∃ x t, xs[i]? = some x ∧ v = Value.str x t
  | _, _, .nil, i, v, h => by simp at h
  | _, _, .cons n t r, 0, v, h => ⟨n, t, rfl, by simpa using h.symm⟩
  | _, _, .cons n t r, i + 1, v, h => by simpa using strs_get r i v (by simpa using h)
/-- set(xs), xs a list of texts -/
theorem call_set {l : Addr} {us : Array Value} {xs : List Str} {Q : Value → Shared → Prop} (hh : A.handled = none) (hl : s.heap.IsList l us) (hx : StrsAre us.toList xs) (hb : us.size + 1 < scanBound)
    (q : ∀ h' tk ys, (∀ b o, b < s.heap.objs.size → s.heap.get? b = some o → h'.get? b = some o) → Holds P w h' s.heap.objs.size ys → (∀ x, x ∈ ys ↔ x ∈ xs) → ys.length ≤ xs.length → Q (.ref s.heap.objs.size) { s with heap := h', toks := tk }) :
    wpAny (model P w) A (call (.type "set") [.ref l]) Q E s := by
  have hsz : xs.length = us.size := by
    have : us.toList.length = xs.length := by
      clear q hb hl
      generalize us.toList = z at hx
      induction hx with
      | nil => rfl
      | cons _ _ _ ih => simp [ih]
    rw [← this, Array.length_toList]
  obtain ⟨c, tl, hmro⟩ := PySem.F.called_set.mro
  have made := PySem.F.called_set.made
  have sub := PySem.F.called_set.sub
  have nt := PySem.F.called_set.notType
  have cc := PySem.F.called_set.canCreate
  have tc := PySem.F.typeCall_set_1 (.ref l)
  refine wpAny_call (codeAny_of_tree (M := model P w) ?_)
  refine wpAny_pure (A := A.in1) ⟨Code.quiet_builtin _ (by decide +kernel), codeAny_builtin PySem.F.entry_type_call ?_⟩
  rw [Around.under_plain (weight_type_call_type "set" [.ref l] []) rfl]
  repeat (any_goals (first | assumption | wp_step))
  refine codeAny_mono (code_set_led1 (.ref l) (E := E) (Q₁ := fun v t => v = .ref s.heap.objs.size ∧ t = { s with heap := s.heap.push (new0 w) }) ⟨rfl, rfl⟩) fun r t hr => ?_
  match r, hr with
  | .error e, hr => exact hr
  | .ok (.ret v), hr =>
    obtain ⟨rfl, rfl⟩ := hr
    have h0 : (s.heap.push (new0 w)).get? s.heap.objs.size = some (new0 w) := Heap.get?_push_size _ rfl
    have ty : Shared.TypeIs { s with heap := s.heap.push (new0 w) } (.ref s.heap.objs.size) "set" := ⟨_, h0, rfl⟩
    have il := PySem.F.called_set.init.lookup
    have ib := PySem.F.called_set.init.bind (.ref s.heap.objs.size)
    repeat (any_goals (first | assumption | wp_step))
    refine codeAny_mono (codeAny_call_builtin (R := wants (fun r t => r = .none ∧ ∃ h' tk ys, t = { s with heap := h', toks := tk } ∧ (∀ b o, b < s.heap.objs.size → s.heap.get? b = some o → h'.get? b = some o) ∧ Holds P w h' s.heap.objs.size ys ∧ (∀ x, x ∈ ys ↔ x ∈ xs) ∧ ys.length ≤ xs.length) E)
      PySem.F.called_set.init.plain PySem.F.entry_set_init (check_set_init_1 ty ?_)) fun r2 t2 hr2 => ?_
    · obtain ⟨⟨oc, od, odt, osl⟩, hol, hcl, nl, hdl⟩ := hl
      simp only at hcl hdl
      subst hcl hdl
      have hlt : l < s.heap.objs.size := Heap.lt_size hol
      have il1 : (s.heap.push (new0 w)).IsList l us := ⟨_, Heap.get?_push_of_some _ hol, rfl, nl, rfl⟩
      have ol := Heap.get?_push_of_some (new0 w) hol
      have sb1 := PySem.F.sub_list_set
      have sb2 := PySem.F.sub_list_frozenset
      have nd : (Value.type "list" == Value.type "dict") = false := by decide
      unfold Builtin.«set.__init__» noKeywords Builtin.Frozenset.updateFrom
      generalize hPI : pyIter = PI
      wp_walk
      subst hPI
      refine wpAny_pyIter_list il1 (wpAny_bind (wpAny_runValue ?_))
      have hh3 : A.in1.in1.in1.handled = none := by simp [hh]
      have z1 : (s.heap.push (new0 w)).objs.size = s.heap.objs.size + 1 := Heap.size_push ..
      have ne1 : l ≠ (s.heap.push (new0 w)).objs.size := by rw [z1]; exact Nat.ne_of_lt (Nat.lt_succ_of_lt hlt)
      have out : s.heap.objs.size ∉ [(s.heap.push (new0 w)).objs.size, l] := by
        rw [z1]
        intro h
        rcases List.mem_cons.mp h with h | h
        · exact Nat.ne_of_lt (Nat.lt_succ_self _) h
        · exact Nat.ne_of_gt hlt (List.mem_singleton.mp h)
      refine update_loop ((Walks.list hh3 _ l ne1 us).toS) s.heap.objs.size out xs hsz hb (fun i v hv => strs_get hx i v (by rw [Array.getElem?_toList]; exact hv)) (us.size - 0) 0 _ (by omega) (Nat.zero_le _)
        ⟨⟨_, Heap.get?_push_size _ rfl, rfl, rfl⟩, il1.push _⟩ ⟨[], holds_new (Heap.get?_push_of_some _ h0), Nat.le_refl _, fun x => by simp⟩ fun t ys mv Hy U => ?_
      obtain ⟨h', g', d', tk', os'⟩ := t
      obtain rfl : g' = s.gens := mv.gens
      obtain rfl : d' = s.drawn := mv.drawn
      obtain rfl : os' = s.os := mv.os
      have fin : ∀ b o, b < s.heap.objs.size → s.heap.get? b = some o → h'.get? b = some o := fun b o hb e => ?fin
      case fin =>
        refine mv.heap b o (fun z => ?_) (Heap.get?_push_of_some _ (Heap.get?_push_of_some _ e))
        rcases List.mem_cons.mp z with z | z
        · exact Nat.ne_of_lt hb z
        · have z := List.mem_singleton.mp z
          rw [z1] at z
          exact Nat.ne_of_lt (Nat.lt_succ_of_lt hb) z
      show wpAny _ _ _ _ _ _
      refine wpAny_pure ?_
      show wpAny _ _ (ret Value.none) _ _ _
      exact wpAny_pure ⟨rfl, h', tk', ys, rfl, fin, Hy, fun x => by rw [U.2, ← hsz, List.take_length], by rw [hsz]; exact U.1⟩
    · match r2, hr2 with
      | .error e, hr2 => exact hr2
      | .ok (.ret v2), hr2 =>
        obtain ⟨rfl, h', tk, ys, rfl, k1, k2, k3, k4⟩ := hr2
        repeat (any_goals (first | assumption | wp_step))
        exact q _ _ _ k1 k2 k3 k4
end
end GS
set_option Elab.async false
set_option linter.all false
set_option maxRecDepth 100000
set_option maxHeartbeats 8000000
namespace GS
open PySem PySem.Spec PyProof.Rows L2
open PySem.Froz (SD sObj tailTx addTx TxOk)
section
variable {P : Program} {w : World} {A : Around} {E : Value → Shared → Prop} {s : Shared}
/-- set(xs), xs a tuple of texts -/
theorem call_setT {l : Addr} {us : Array Value} {xs : List Str} {Q : Value → Shared → Prop} (hh : A.handled = none) (hl : s.heap.IsTuple l us) (hx : StrsAre us.toList xs) (hb : us.size + 1 < scanBound)
    (q : ∀ h' tk ys, (∀ b o, b < s.heap.objs.size → s.heap.get? b = some o → h'.get? b = some o) → Holds P w h' s.heap.objs.size ys → (∀ x, x ∈ ys ↔ x ∈ xs) → ys.length ≤ xs.length → Q (.ref s.heap.objs.size) { s with heap := h', toks := tk }) :
    wpAny (model P w) A (call (.type "set") [.ref l]) Q E s := by
  have hsz : xs.length = us.size := by
    have : us.toList.length = xs.length := by
      clear q hb hl
      generalize us.toList = z at hx
      induction hx with
      | nil => rfl
      | cons _ _ _ ih => simp [ih]
    rw [← this, Array.length_toList]
  obtain ⟨c, tl, hmro⟩ := PySem.F.called_set.mro
  have made := PySem.F.called_set.made
  have sub := PySem.F.called_set.sub
  have nt := PySem.F.called_set.notType
  have cc := PySem.F.called_set.canCreate
  have tc := PySem.F.typeCall_set_1 (.ref l)
  refine wpAny_call (codeAny_of_tree (M := model P w) ?_)
  refine wpAny_pure (A := A.in1) ⟨Code.quiet_builtin _ (by decide +kernel), codeAny_builtin PySem.F.entry_type_call ?_⟩
  rw [Around.under_plain (weight_type_call_type "set" [.ref l] []) rfl]
  repeat (any_goals (first | assumption | wp_step))
  refine codeAny_mono (code_set_led1 (.ref l) (E := E) (Q₁ := fun v t => v = .ref s.heap.objs.size ∧ t = { s with heap := s.heap.push (new0 w) }) ⟨rfl, rfl⟩) fun r t hr => ?_
  match r, hr with
  | .error e, hr => exact hr
  | .ok (.ret v), hr =>
    obtain ⟨rfl, rfl⟩ := hr
    have h0 : (s.heap.push (new0 w)).get? s.heap.objs.size = some (new0 w) := Heap.get?_push_size _ rfl
    have ty : Shared.TypeIs { s with heap := s.heap.push (new0 w) } (.ref s.heap.objs.size) "set" := ⟨_, h0, rfl⟩
    have il := PySem.F.called_set.init.lookup
    have ib := PySem.F.called_set.init.bind (.ref s.heap.objs.size)
    repeat (any_goals (first | assumption | wp_step))
    refine codeAny_mono (codeAny_call_builtin (R := wants (fun r t => r = .none ∧ ∃ h' tk ys, t = { s with heap := h', toks := tk } ∧ (∀ b o, b < s.heap.objs.size → s.heap.get? b = some o → h'.get? b = some o) ∧ Holds P w h' s.heap.objs.size ys ∧ (∀ x, x ∈ ys ↔ x ∈ xs) ∧ ys.length ≤ xs.length) E)
      PySem.F.called_set.init.plain PySem.F.entry_set_init (check_set_init_1 ty ?_)) fun r2 t2 hr2 => ?_
    · obtain ⟨⟨oc, od, odt, osl⟩, hol, hcl, nl, hdl⟩ := hl
      simp only at hcl hdl
      subst hcl hdl
      have hlt : l < s.heap.objs.size := Heap.lt_size hol
      have il1 : (s.heap.push (new0 w)).IsTuple l us := ⟨_, Heap.get?_push_of_some _ hol, rfl, nl, rfl⟩
      have ol := Heap.get?_push_of_some (new0 w) hol
      have sb1 := PySem.F.sub_tuple_set
      have sb2 := PySem.F.sub_tuple_frozenset
      have nd : (Value.type "tuple" == Value.type "dict") = false := by decide
      unfold Builtin.«set.__init__» noKeywords Builtin.Frozenset.updateFrom
      generalize hPI : pyIter = PI
      wp_walk
      subst hPI
      refine wpAny_pyIter_tuple il1 (wpAny_bind (wpAny_runValue ?_))
      have hh3 : A.in1.in1.in1.handled = none := by simp [hh]
      have z1 : (s.heap.push (new0 w)).objs.size = s.heap.objs.size + 1 := Heap.size_push ..
      have ne1 : l ≠ (s.heap.push (new0 w)).objs.size := by rw [z1]; exact Nat.ne_of_lt (Nat.lt_succ_of_lt hlt)
      have out : s.heap.objs.size ∉ [(s.heap.push (new0 w)).objs.size, l] := by
        rw [z1]
        intro h
        rcases List.mem_cons.mp h with h | h
        · exact Nat.ne_of_lt (Nat.lt_succ_self _) h
        · exact Nat.ne_of_gt hlt (List.mem_singleton.mp h)
      refine update_loop ((Walks.tuple hh3 _ l ne1 us).toS) s.heap.objs.size out xs hsz hb (fun i v hv => strs_get hx i v (by rw [Array.getElem?_toList]; exact hv)) (us.size - 0) 0 _ (by omega) (Nat.zero_le _)
        ⟨⟨_, Heap.get?_push_size _ rfl, rfl, rfl⟩, il1.push _⟩ ⟨[], holds_new (Heap.get?_push_of_some _ h0), Nat.le_refl _, fun x => by simp⟩ fun t ys mv Hy U => ?_
      obtain ⟨h', g', d', tk', os'⟩ := t
      obtain rfl : g' = s.gens := mv.gens
      obtain rfl : d' = s.drawn := mv.drawn
      obtain rfl : os' = s.os := mv.os
      have fin : ∀ b o, b < s.heap.objs.size → s.heap.get? b = some o → h'.get? b = some o := fun b o hb e => ?fin
      case fin =>
        refine mv.heap b o (fun z => ?_) (Heap.get?_push_of_some _ (Heap.get?_push_of_some _ e))
        rcases List.mem_cons.mp z with z | z
        · exact Nat.ne_of_lt hb z
        · have z := List.mem_singleton.mp z
          rw [z1] at z
          exact Nat.ne_of_lt (Nat.lt_succ_of_lt hb) z
      show wpAny _ _ _ _ _ _
      refine wpAny_pure ?_
      show wpAny _ _ (ret Value.none) _ _ _
      exact wpAny_pure ⟨rfl, h', tk', ys, rfl, fin, Hy, fun x => by rw [U.2, ← hsz, List.take_length], by rw [hsz]; exact U.1⟩
    · match r2, hr2 with
      | .error e, hr2 => exact hr2
      | .ok (.ret v2), hr2 =>
        obtain ⟨rfl, h', tk, ys, rfl, k1, k2, k3, k4⟩ := hr2
        repeat (any_goals (first | assumption | wp_step))
        exact q _ _ _ k1 k2 k3 k4
end
end GS
set_option Elab.async false
set_option linter.all false
set_option maxRecDepth 100000
set_option maxHeartbeats 4000000
/-! lots of texts: in order, each once -/
namespace GS
open PySem PySem.Spec PyProof.Rows
theorem ltc_irr : ∀ a : List Nat, ltCps a a = false
  | [] => rfl
  | x :: a => by simp [ltCps, ltc_irr a]
theorem ltc_tr : ∀ {a b c : List Nat}, ltCps a b = true → ltCps b c = true → ltCps a c = true
  | [], _ :: _, [], _, h => by simp [ltCps] at h
  | [], _, _ :: _, _, _ => rfl
  | [], [], [], h, _ => by simp [ltCps] at h
  | _ :: _, [], _, h, _ => by simp [ltCps] at h
  | _ :: _, _ :: _, [], _, h => by simp [ltCps] at h
  | x :: a, y :: b, z :: c, h1, h2 => by
    simp only [ltCps, Bool.or_eq_true, decide_eq_true_eq, Bool.and_eq_true, beq_iff_eq] at h1 h2 ⊢
    rcases h1 with h1 | ⟨rfl, h1⟩
    · rcases h2 with h2 | ⟨rfl, _⟩
      · exact .inl (Nat.lt_trans h1 h2)
      · exact .inl h1
    · rcases h2 with h2 | ⟨rfl, h2⟩
      · exact .inl h2
      · exact .inr ⟨rfl, ltc_tr h1 h2⟩
theorem ltc_tri : ∀ {a b : List Nat}, ltCps a b = false → ltCps b a = false → a = b
  | [], [], _, _ => rfl
  | [], _ :: _, h, _ => by simp [ltCps] at h
  | _ :: _, [], _, h => by simp [ltCps] at h
  | x :: a, y :: b, h1, h2 => by
    simp only [ltCps, Bool.or_eq_false_iff, decide_eq_false_iff_not, Bool.and_eq_false_iff, beq_eq_false_iff_ne] at h1 h2
    obtain ⟨p1, p2⟩ := h1
    obtain ⟨q1, q2⟩ := h2
    obtain rfl : x = y := by omega
    rcases p2 with p2 | p2
    · exact absurd rfl p2
    · rcases q2 with q2 | q2
      · exact absurd rfl q2
      · rw [ltc_tri p2 q2]
theorem str_ext {x y : Str} (h : x.cps.toList = y.cps.toList) : x = y := by
  cases x; cases y
  simp only [Str.mk.injEq]
  exact Array.ext' h
/-- x stands ahead of y -/
def Lt (x y : Str) : Prop := ltCps x.cps.toList y.cps.toList = true
theorem Lt.irr {x : Str} (h : Lt x x) : False := by unfold Lt at h; rw [ltc_irr] at h; cases h
theorem Lt.tr {x y z : Str} (a : Lt x y) (b : Lt y z) : Lt x z := ltc_tr a b
theorem Lt.tri {x y : Str} (a : ¬ Lt x y) (b : ¬ Lt y x) : x = y := str_ext (ltc_tri (Bool.eq_false_iff.mpr a) (Bool.eq_false_iff.mpr b))
abbrev Asc (xs : List Str) : Prop := xs.Pairwise Lt
theorem Asc.uniq : ∀ {xs ys : List Str}, Asc xs → Asc ys → (∀ z, z ∈ xs ↔ z ∈ ys) → xs = ys
  | [], [], _, _, _ => rfl
  | [], y :: ys, _, _, h => by have := (h y).mpr List.mem_cons_self; simp at this
  | x :: xs, [], _, _, h => by have := (h x).mp List.mem_cons_self; simp at this
  | x :: xs, y :: ys, hx, hy, h => by
    obtain ⟨x1, x2⟩ := List.pairwise_cons.mp hx
    obtain ⟨y1, y2⟩ := List.pairwise_cons.mp hy
    have e : x = y := by
      have a := (h x).mp List.mem_cons_self
      have b := (h y).mpr List.mem_cons_self
      rcases List.mem_cons.mp a with a | a
      · exact a
      · rcases List.mem_cons.mp b with b | b
        · exact b.symm
        · exact ((x1 y b).tr (y1 x a)).irr.elim
    subst e
    rw [Asc.uniq x2 y2 fun z => ?_]
    have hz := h z
    rw [List.mem_cons, List.mem_cons] at hz
    constructor
    · intro m
      rcases hz.mp (.inr m) with q | q
      · subst q; exact (x1 z m).irr.elim
      · exact q
    · intro m
      rcases hz.mpr (.inr m) with q | q
      · subst q; exact (y1 z m).irr.elim
      · exact q
/-- ys is the lot of xs -/
structure IsLot (ys xs : List Str) : Prop where
  asc : Asc ys
  mem : ∀ z, z ∈ ys ↔ z ∈ xs
theorem IsLot.uniq {ys zs xs xs' : List Str} (a : IsLot ys xs) (b : IsLot zs xs') (h : ∀ z, z ∈ xs ↔ z ∈ xs') : ys = zs := Asc.uniq a.asc b.asc fun z => (a.mem z).trans ((h z).trans (b.mem z).symm)
theorem Asc.nodup {xs : List Str} (h : Asc xs) : xs.Nodup := h.imp fun a e => (e ▸ a).irr
/-- sorted, equal ones may stand side by side -/
theorem pw_of_sorted : ∀ {xs : List Str}, sortedS xs = true → xs.Pairwise fun a b => ¬ Lt b a
  | [], _ => .nil
  | x :: xs, h => go x xs h
where go (x : Str) : ∀ (xs : List Str), risingS x xs = true → (x :: xs).Pairwise fun a b => ¬ Lt b a
  | [], _ => List.pairwise_singleton _ _
  | y :: xs, h => by
    have h' : (!ltCps y.cps.toList x.cps.toList && risingS y xs) = true := h
    rw [Bool.and_eq_true, Bool.not_eq_true'] at h'
    have r := go y xs h'.2
    refine List.pairwise_cons.mpr ⟨fun z hz => ?_, r⟩
    have hyx : ¬ Lt y x := by unfold Lt; rw [h'.1]; exact Bool.false_ne_true
    rcases List.mem_cons.mp hz with rfl | hz
    · exact hyx
    · intro c
      have hzy := (List.pairwise_cons.mp r).1 z hz
      by_cases e : Lt x y
      · exact hzy (Lt.tr c e)
      · rw [Lt.tri e hyx] at c; exact hzy c
theorem asc_of : ∀ {xs : List Str}, xs.Pairwise (fun a b => ¬ Lt b a) → xs.Nodup → Asc xs
  | [], _, _ => .nil
  | x :: xs, h, n => by
    obtain ⟨h1, h2⟩ := List.pairwise_cons.mp h
    obtain ⟨n1, n2⟩ := List.nodup_cons.mp n
    refine List.pairwise_cons.mpr ⟨fun y hy => ?_, asc_of h2 n2⟩
    by_cases c : Lt x y
    · exact c
    · exact absurd (Lt.tri c (h1 y hy) ▸ hy) n1
end GS
set_option Elab.async false
set_option linter.all false
set_option maxRecDepth 100000
set_option maxHeartbeats 8000000
namespace GS
open PySem PySem.Spec PyProof.Rows L2
open PySem.Froz (SD sObj tailTx addTx TxOk)
section
variable {P : Program} {w : World} {A : Around} {E : Value → Shared → Prop} {s : Shared}
theorem strs_of : ∀ (us : List Value), (∀ v ∈ us, ∃ k t, v = Value.str k t) → ∃ xs, StrsAre us xs
  | [], _ => ⟨[], .nil⟩
  | v :: us, h => by
    obtain ⟨k, t, rfl⟩ := h v List.mem_cons_self
    obtain ⟨xs, q⟩ := strs_of us fun u hu => h u (List.mem_cons_of_mem _ hu)
    exact ⟨_, .cons k t q⟩
theorem strs_mem : ∀ {us : List Value} {xs : List Str}, StrsAre us xs → ∀ x, x ∈ xs ↔ ∃ t, Value.str x t ∈ us
  | _, _, .nil, x => by simp
  | _, _, .cons n t r, x => by
    rw [List.mem_cons, strs_mem r x]
    constructor
    · rintro (rfl | ⟨t', h⟩)
      · exact ⟨t, List.mem_cons_self⟩
      · exact ⟨t', List.mem_cons_of_mem _ h⟩
    · rintro ⟨t', h⟩
      rcases List.mem_cons.mp h with h | h
      · cases h; exact .inl rfl
      · exact .inr ⟨t', h⟩
theorem strs_len : ∀ {us : List Value} {xs : List Str}, StrsAre us xs → us.length = xs.length
  | _, _, .nil => rfl
  | _, _, .cons n t r => by simp [strs_len r]
theorem perm_of_sub : ∀ {l ss : List Str}, l.Nodup → (∀ x, x ∈ l → x ∈ ss) → ss.length = l.length → ss.Perm l
  | [], ss, _, _, e => by
    have : ss = [] := List.eq_nil_of_length_eq_zero e
    rw [this]
  | x :: l, ss, n, h, e => by
    obtain ⟨n1, n2⟩ := List.nodup_cons.mp n
    have hx := h x List.mem_cons_self
    have p := List.perm_cons_erase hx
    have r := perm_of_sub (ss := ss.erase x) n2 (fun y hy => (List.mem_erase_of_ne (fun z : y = x => n1 (z ▸ hy))).mpr (h y (List.mem_cons_of_mem _ hy))) (by
      have := p.length_eq
      simp only [List.length_cons] at this e
      omega)
    exact p.trans (r.cons x)
/-- sorted(set) -/
theorem sort_set {a : Addr} {l : List Str} {Q : Value → Shared → Prop} (H : Holds P w s.heap a l) (hh : A.handled = none) (hb : l.length < scanBound)
    (q : ∀ s' p (out : Array Value) (c : Nat) ys, (∀ b o, s.heap.get? b = some o → s'.heap.get? b = some o) → s'.gens = s.gens → s'.os = s.os → s.heap.objs.size ≤ p → s'.heap.get? p = some (seqObj "list" out c) → StrsAre out.toList ys → IsLot ys l → ys.length = l.length → Q (.ref p) s') :
    wpAny (model P w) A (call (.builtin "sorted") [.ref a]) Q E s := by
  obtain ⟨⟨xs, n, tb⟩, ho, F, L, nd⟩ := H
  have hsz : xs.size = l.length := F.sz
  refine Calls.call_function_entry kind_sorted plain_sorted entry_sorted (args_sorted1 _) ?_
  unfold Builtin.«sorted»
  refine wpAny_bind (m := checkCount "sorted" 1 1 _) (wpAny_pure (wpAny_bind (collect_set (A := A.in1) hh ⟨_, ho, rfl, rfl⟩ F.fit (by rw [hsz]; exact hb) L.1 L.2 fun s1 vs k1 z1 g1 o1 pm => ?_)))
  have all : ∀ v ∈ vs, ∃ k t, v = Value.str k t := fun v hv => by
    obtain ⟨e, he, rfl⟩ := List.mem_map.mp (pm.mem_iff.mp hv)
    obtain ⟨⟨k, hk, _⟩, _⟩ := F.el e he
    obtain ⟨t, ht⟩ := Value.isStrOf_shape hk
    exact ⟨k, t, ht⟩
  obtain ⟨ss, hss⟩ := strs_of vs all
  have hlen : vs.length = l.length := by rw [pm.length_eq, List.length_map, Array.length_toList, hsz]
  have hmem : ∀ x, x ∈ ss ↔ x ∈ l := fun x => by
    rw [strs_mem hss, F.mem]
    constructor
    · rintro ⟨t, ht⟩
      obtain ⟨e, he, hz⟩ := List.mem_map.mp (pm.mem_iff.mp ht)
      exact ⟨e, he, by rw [hz]; exact Froz.is_str x t⟩
    · rintro ⟨e, he, hz⟩
      obtain ⟨t, ht⟩ := Value.isStrOf_shape (x := x) hz
      exact ⟨t, ht ▸ pm.mem_iff.mpr (List.mem_map_of_mem he)⟩
  have hle : ss.length = l.length := (strs_len hss).symm.trans hlen
  have snd : ss.Nodup := (perm_of_sub nd (fun x hx => (hmem x).mpr hx) hle).nodup_iff.mpr nd
  have fits : vs.length ≤ sizeLine := by rw [hlen]; exact fits_of_scanBound hb
  refine wpAny_bind (wpAny_newList ?_ fits)
  have hoL : (s1.heap.push (seqObj "list" vs.toArray 0)).get? s1.heap.objs.size = some (seqObj "list" vs.toArray 0) := Heap.get?_push_size _ rfl
  refine wpAny_bind (wpAny_holding (wpAny_call_entry slot_list_sort ⟨_, hoL, rfl⟩ entry_list_sort (list_sort_treeKAny strKind_oneLt hoL hss.keysOf (fun v₁ v₂ rest e => keyKind_strs (by rw [← e]; exact hss)) fits fun st' b1 b2 => ⟨_, rfl, ?_⟩) (args_list_sort _)))
  obtain ⟨ys, y1, y2, y3⟩ := sorted_out_str hss b1 b2
  obtain ⟨c, hc⟩ := sortedHeap_at (vs := vs) (out := (arrOf st').map (·.2)) hoL
  refine wpAny_pure ⟨_, rfl, q _ s1.heap.objs.size _ c ys (fun b u e => ?_) g1 o1 z1 hc y1 ⟨asc_of (pw_of_sorted y3) (y2.nodup_iff.mpr snd), fun x => (y2.mem_iff).trans (hmem x)⟩ (y2.length_eq.trans hle)⟩
  have e1 := k1 b u e
  have lt := Heap.lt_size e1
  show (sortedHeap (s1.heap.push (seqObj "list" vs.toArray 0)) s1.heap.objs.size vs ((arrOf st').map (·.2))).get? b = some u
  rw [sortedHeap_old (Nat.ne_of_lt lt) (by rw [size_push']; exact Nat.lt_succ_of_lt lt)]
  exact Heap.get?_push_of_some _ e1
end
section
variable {X : Cx}
def SetHO (P : Program) (w : World) (a : Addr) (l : List Str) : HO := .ext fun h => Holds P w h a l
/-- set(xs) -/
def rSet (X : Cx) : List V → Hp → VK → Prop := fun vs H Q => ∃ (p : Addr) (xs : List Str), vs = [.ref p] ∧ (SqL X.K H p (xs.map V.str) ∨ SqT X.K H p (xs.map V.str)) ∧ xs.length + 1 < scanBound ∧
  ∀ a l, H a = none → (∀ x, x ∈ l ↔ x ∈ xs) → l.length ≤ xs.length → l.Nodup → Q (.ref a) (upd H a (SetHO X.prog X.w a l))
theorem cr_set (hc : X.calm = true) : CallR X (.type "set") (rSet X) := by
  intro pins s σ H vs us Q I r h
  obtain ⟨p, xs, rfl, hs, hb, q⟩ := h
  have fin : ∀ h' tk ys, (∀ b o, b < s.heap.objs.size → s.heap.get? b = some o → h'.get? b = some o) → Holds X.prog X.w h' s.heap.objs.size ys → (∀ x, x ∈ ys ↔ x ∈ xs) → ys.length ≤ xs.length → EP X pins σ Q (.ref s.heap.objs.size) { s with heap := h', toks := tk } := fun h' tk ys k Hy m1 m2 => by
    have new : ObjOk X.prog X.w (upd H s.heap.objs.size (SetHO X.prog X.w s.heap.objs.size ys)) h' s.heap.objs.size (SetHO X.prog X.w s.heap.objs.size ys) := by
      obtain ⟨D, e, r⟩ := Hy
      exact ⟨⟨D, e, r⟩, ⟨_, e⟩, fun h1 h2 a b => Holds.stay a b⟩
    exact ⟨.ref _, _, I.laid (t' := tk) (fun b u e => k b u (Heap.lt_size e) e) (Nat.le_refl _) new, rfl, q _ _ (I.hok.fresh (Nat.le_refl _)) m1 m2 (by obtain ⟨D, _, _, _, nd⟩ := Hy; exact nd)⟩
  rw [Vals.ref1 r]
  rcases hs with hs | hs
  · obtain ⟨its, rv, hl, _⟩ := I.list hs
    have hlen := rv.length
    rw [List.length_map] at hlen
    exact call_set (I.ok.hd hc) hl.isList (by simpa using rv.strs) (by rw [List.size_toArray, ← hlen]; exact hb) fin
  · obtain ⟨its, rv, hl, _⟩ := I.tuple hs
    have hlen := rv.length
    rw [List.length_map] at hlen
    exact call_setT (I.ok.hd hc) hl (by simpa using rv.strs) (by rw [List.size_toArray, ← hlen]; exact hb) fin
/-- sorted(set) -/
def rSortSet (X : Cx) : List V → Hp → VK → Prop := fun vs H Q => ∃ (a : Addr) (l : List Str), vs = [V.ref a] ∧ H a = some (SetHO X.prog X.w a l) ∧ l.length < scanBound ∧
  ∀ ys p, IsLot ys l → ys.length = l.length → H p = none → Q (.ref p) (upd H p (.lst (ys.map V.str)))
theorem cr_sortSet (hc : X.calm = true) : CallR X (.builtin "sorted") (rSortSet X) := by
  intro pins s σ H vs us Q I r h
  obtain ⟨a, l, rfl, ha, hb, q⟩ := h
  have Hl : Holds X.prog X.w s.heap a l := (I.hok a _ ha).1
  rw [Vals.ref1 r]
  refine sort_set Hl (I.ok.hd hc) hb fun s' p out c ys k g o hp hg hi hs hl => ?_
  have hlen : (ys.map V.str).length ≤ sizeLine := by rw [List.length_map, hl]; exact fits_of_scanBound hb
  have hn : H p = none := I.hok.fresh hp
  have J : Inv X pins σ (upd H p (.lst (ys.map V.str))) { s with heap := s'.heap, gens := s'.gens, drawn := s'.drawn, toks := s'.toks } :=
    I.call (ch := []) (Un.laid k hp hn) (I.hok.laid k hp ⟨hlen, out.toList, c, vals_of_strs hi, hg⟩) (by rw [g]; exact I.bare) (fun _ z => nomatch z)
  have e : s' = { s with heap := s'.heap, gens := s'.gens, drawn := s'.drawn, toks := s'.toks } := by
    cases s'; cases s; cases o; rfl
  rw [e]
  exact ⟨.ref p, _, J, rfl, q ys p hs hl hn⟩
end
end GS
namespace G
open PySem L2
section
variable {Z : Wd} {δ : List S} {te : TE} {Ω : OD → List S → Prop} {X : Cx}
/-- sorted(set(xs)) -/
theorem xo_lot (hK : X.K = Z.K) (h : XE Z te δ fun d δ1 => ∃ xs : List Str, (d = .lst (xs.map .str) ∨ d = .tup (xs.map .str)) ∧ xs.length < 4000 ∧ ∀ ys, GS.IsLot ys xs → ys.length ≤ xs.length → Ω (.lst (ys.map .str)) δ1) :
    XO Z (tCB (GS.rSortSet X) (tCons (tCB (GS.rSet X) (tCons te tNil)) tNil)) δ Ω := XO.mk fun B W M H σ Q I q =>
  h.run I fun M1 H1 δ1 x a h1 e1 I1 at1 => by
    obtain ⟨xs, hd, hx, f⟩ := h1
    have sq : ∃ p, x = .ref p ∧ (SqL X.K H1 p (xs.map V.str) ∨ SqT X.K H1 p (xs.map V.str)) := by
      rcases hd with rfl | rfl
      · cases at1 with
        | lst k l c =>
          have := AtL.strs (Z := Z) (M := M1) ⟨l, c⟩
          subst this
          exact ⟨_, rfl, .inl (SqL.of (I1.ex _ _ k))⟩
      · cases at1 with
        | tup k l c =>
          have := AtL.strs (Z := Z) (M := M1) ⟨l, c⟩
          subst this
          exact ⟨_, rfl, .inr (hK ▸ sqT_mono I1.ex k)⟩
    obtain ⟨p, rfl, sq⟩ := sq
    refine ⟨p, xs, rfl, sq, Nat.lt_of_le_of_lt (Nat.succ_le_of_lt hx) (by decide), fun a l1 ha m1 m2 _ => ?_⟩
    have hm := I1.ex.free ha
    have I2 : I3 Z B W M1 (upd H1 a (GS.SetHO X.prog X.w a l1)) σ δ1 := I1.other (I1.fresh ha) hm (I1.newOwn ha)
    refine ⟨a, l1, rfl, upd_same, Nat.lt_of_le_of_lt (Nat.le_trans m2 (Nat.le_of_lt hx)) (by decide), fun ys p hy hl hp => ?_⟩
    exact newO (o := .lst _) (y := .lst _) I2 hp (AtL.ofStrs ys) (f ys ⟨hy.asc, fun z => (hy.mem z).trans (m1 z)⟩ (by omega)) e1 q
end
end G
set_option Elab.async false
set_option linter.all false
set_option maxRecDepth 100000
set_option maxHeartbeats 4000000
/-! enumerate of a tuple -/
namespace GE
open PySem PySem.Spec PyProof.Rows L2
theorem new_enum {v : Value} {o : Obj} {C : Heap → Prop} (B : Begins v o C) : Meets (Builtin.«enumerate.__new__» ⟨[.type "enumerate", v], []⟩) (fun _ R s => C s.heap ∧
    R (.ok (.ret (.ref (s.heap.push o).objs.size))) { s with heap := (s.heap.push o).push { cls := .type "enumerate", data := .fields #[.none, .bool false, .ref s.heap.objs.size, rawInt 0, .none, .none] } }) :=
  .of_wp fun prog w A R s h => by
    obtain ⟨hp, g, d, tk, os⟩ := s
    obtain ⟨c0, fin⟩ := h
    have sube := sub_enumerate
    have start : ∀ {A' : Around} {E Q : Value → Shared → Prop}, Q (.ref hp.objs.size) ⟨hp.push o, g, d, tk, os⟩ → wpAny (model prog w) A' (pyIter v) Q E ⟨hp, g, d, tk, os⟩ := fun q => B.iter prog w _ _ ⟨hp, g, d, tk, os⟩ _ c0 q
    wp_walk using start
    refine wpAny_stack_any fun st => wpAny_pure ?_
    split
    · rename_i c _ _ _ _ _
      cases (c == Value.type "enumerate") <;> (wp_walk using start; exact ⟨_, rfl, fin⟩)
    · wp_walk using start
      exact ⟨_, rfl, fin⟩
section
variable {prog : Program} {w : World} {A : Around} {E : Value → Shared → Prop} {s : Shared}
theorem call_enum {v : Value} {o : Obj} {C : Heap → Prop} {Q : Value → Shared → Prop} (B : Begins v o C) (c0 : C s.heap)
    (h : ∀ h', IsEnum h' (s.heap.objs.size + 1) s.heap.objs.size 0 .none → h'.get? s.heap.objs.size = some o → (∀ b u, s.heap.get? b = some u → h'.get? b = some u) → Q (.ref (s.heap.objs.size + 1)) { s with heap := h' }) :
    wpAny (model prog w) A (call (.type "enumerate") [v]) Q E s := by
  refine callType_new F.called_enumerate (by decide) (F.typeCall_enumerate_1 v) (F.newCall_enumerate_1 v) (fun x => F.args_object_init_2 x v) F.entry_enumerate_new (new_enum B) ⟨c0, ?_⟩
  have z : (s.heap.push o).objs.size = s.heap.objs.size + 1 := Heap.size_push ..
  have e : IsEnum ((s.heap.push o).push { cls := .type "enumerate", data := .fields #[.none, .bool false, .ref s.heap.objs.size, rawInt 0, .none, .none] }) (s.heap.objs.size + 1) s.heap.objs.size 0 .none := by
    have q := Heap.get?_push_size (s.heap.push o) (o := { cls := .type "enumerate", data := .fields #[.none, .bool false, .ref s.heap.objs.size, rawInt 0, .none, .none] }) rfl
    rwa [z] at q
  show _ ∧ _
  rw [z]
  exact ⟨⟨_, e, rfl⟩, h _ e (Heap.get?_push_of_some _ (Heap.get?_push_size _ B.free)) fun b u x => Heap.get?_push_of_some _ (Heap.get?_push_of_some _ x)⟩
end
/-- the tuple at a, each item in a new pair -/
def ItE (K : PySem.W.Frag) (a : Addr) : It :=
  ⟨fun i H => ∃ (xs : List V) (x : V), SqT K H a xs ∧ xs[i]? = some x, fun i H v H' => ∃ T x, v = .ref T ∧ H T = none ∧ H' = upd H T (.tup [.int (i : Nat), x]) ∧ ∀ xs, SqT K H a xs → xs[i]? = some x, fun i H => ∃ xs : List V, SqT K H a xs ∧ xs.length ≤ i⟩
theorem turnE {P : Program} {w : World} {K : PySem.W.Frag} {elts : List Expr} {kk : Nat} {tpos : Pos} (a e it : Addr) (hai : a ≠ it) (hea : e ≠ a) :
    Turn P w K (.Tuple elts kk tpos) (ItE K a) [e, it] e (fun i h => (∃ old, IsEnum h e it ((i : Nat) : Int) old) ∧ h.IsTupleIter it a i ∧ e ≠ it) where
  mem := by simp
  obj := fun i h st b hb => by
    obtain ⟨⟨old, he⟩, ⟨o, ho, hc, hd⟩, _⟩ := st
    have hb : b = e ∨ b = it := by simpa using hb
    rcases hb with rfl | rfl
    · exact ⟨_, he, fun v q => nomatch q⟩
    · exact ⟨o, ho, fun v q => by rw [hd] at q; cases q⟩
  keep := fun i h h' st k => let ⟨⟨old, he⟩, hi, hne⟩ := st; ⟨⟨old, k e (by simp) _ he⟩, hi.at fun o q => k it (by simp) o q, hne⟩
  item := by
    intro X hP hw hK hc i pins s σ H E I hf st hg
    subst hP hw hK
    obtain ⟨⟨old, he⟩, hit, hne⟩ := st
    obtain ⟨xs, x, hq, hx⟩ := hg
    obtain ⟨its, rv, p, hz⟩ := I.tuple hq
    obtain ⟨u, hu, ru⟩ := rv.get hx
    have elt : e < s.heap.objs.size := Heap.lt_size he
    have ilt : it < s.heap.objs.size := let ⟨_, q, _⟩ := hit; Heap.lt_size q
    have hlt : i < its.toArray.size := by simpa using (List.getElem?_eq_some_iff.mp hu).1
    refine wpAny_pyNext_enum_itemD (Draws.tuple (by simp [I.ok.hd hc]) it a hai its.toArray) he ⟨hit, p⟩ hlt hne (by simp [hne, hea]) fun y h' tk hy ho st' hT hsz hk => ?_
    obtain rfl : y = u := by
      have : its[i]? = some y := by simpa using hy
      rw [hu] at this; exact (Option.some.inj this).symm
    refine ⟨_, rfl, wpAny_letOwnedTupleGo_enum (s := { s with heap := h', toks := tk + 1 }) ho fun h'' he' sb => ?_⟩
    have hT2 : h''.get? s.heap.objs.size = some { cls := .type "tuple", data := .seq #[.int i tk, y] } := (sb.2 _ (Nat.ne_of_gt elt)).trans hT
    have new : ObjOk X.prog X.w (upd H s.heap.objs.size (.tup [.int (i : Nat), x])) h'' s.heap.objs.size (.tup [.int (i : Nat), x]) :=
      ⟨by show 2 ≤ sizeLine; decide, [.int i tk, y], .cons ⟨_, rfl⟩ (.cons ru .nil), ⟨_, hT2, rfl, _, rfl⟩⟩
    have J : Inv X pins σ (upd H s.heap.objs.size (.tup [.int (i : Nat), x])) { s with heap := h'', toks := tk + 1 } :=
      I.turnedNew (ch := [e, it]) (fun b ob hb q => (sb.2 b (fun z => hb (by simp [z]))).trans (hk b ob (fun z => hb (by simp [z])) (fun z => hb (by simp [z])) q)) hf (Nat.le_refl _) new
    refine ⟨.ref s.heap.objs.size, _, J, rfl, ⟨_, x, rfl, I.hok.fresh (Nat.le_refl _), rfl, fun ys hy => by rw [I.tuple_inj hy hq]; exact hx⟩, ⟨⟨y, ?_⟩, st'.1.at fun o q => (sb.2 it (Ne.symm hne)).trans q, hne⟩, fun b hb => ?_⟩
    · rw [show ((i + 1 : Nat) : Int) = (i : Int) + 1 by omega]; exact he'
    · have blt : b < s.heap.objs.size := by
        have hb : b = e ∨ b = it := by simpa using hb
        rcases hb with z | z
        · rw [z]; exact elt
        · rw [z]; exact ilt
      rw [upd_ne (Nat.ne_of_lt blt)]
      exact (hf b hb).1
  done := by
    intro X hP hw hK hc i pins s σ H E I hf st hg
    subst hP hw hK
    obtain ⟨⟨old, he⟩, hit, hne⟩ := st
    obtain ⟨xs, hq, hx⟩ := hg
    obtain ⟨its, rv, p, hz⟩ := I.tuple hq
    obtain ⟨f0, f1, f2, f3, f4, f5⟩ := hf it (by simp)
    have len := rv.length
    have gone : its.toArray[i]? = none := by simp; omega
    have hh : X.A.in1.handled = none := by simp [I.ok.hd hc]
    have D : Draws X.prog X.w X.A.in1 it [it, a] 0 (fun _ _ => True) (fun _ h => h.IsTupleIter it a i ∧ h.IsTuple a its.toArray) := {
      live := fun _ _ st => let ⟨o, ho, _⟩ := st.1; ⟨o, ho⟩
      frame := fun _ _ _ st k => ⟨st.1.at fun o q => k it (by simp) o q, st.2.at fun o q => k a (by simp) o q⟩
      item := fun j s Q E hj => absurd hj (Nat.not_lt_zero j)
      done := fun s Q E st q => wpAny_nextOf_tuple_end hh st.1 st.2 gone q }
    exact wpAny_pyNext_enum_endD D he ⟨hit, p⟩ fun h' eb => ⟨rfl, I.turned (t' := s.toks) (fun b o hb q => eb b o hb q) f0 f1 f3 f4 f5⟩
  self := fun A i s Q E st h => let ⟨⟨_, he⟩, _⟩ := st; wpAny_pyIter_enum he h
def iEnumT (K : PySem.W.Frag) (ta : TA) : TI := fun σ H R => ta σ H fun vs H1 => ∃ a xs, vs = [.ref a] ∧ SqT K H1 a xs ∧ R (ItE K a) H1
theorem pi_enumT {X : Cx} {e : Expr} {ta : TA} {p pos tpos : Pos} {elts : List Expr} {kk : Nat} (hg : Gl X "enumerate") (hm : X.mg "enumerate" = none) (ha : PA X [e] ta) (hs : starEach [e] X.env = [(false, eval e X.env)] := by rfl) :
    PI X (.Tuple elts kk tpos) (.Call (.Name "enumerate" p) [e] [] pos) (iEnumT X.K ta) := by
  refine ⟨fun pins s σ H R I h => Call_ (ld_blt I hg hm boot_enumerate (PyProof.Rows.callWith_type1 (thn (ha.run pos pins s σ H _ I h) fun us s1 ⟨vs, H1, I1, r1, q1⟩ => ?_) hs rfl))⟩
  obtain ⟨a, xs, rfl, hq, q⟩ := q1
  obtain ⟨u, rfl, r⟩ := vals1 r1
  cases r
  obtain ⟨its, rv, p', hz⟩ := I1.tuple hq
  have alt : a < s1.heap.objs.size := let ⟨_, q, _⟩ := p'; Heap.lt_size q
  refine call_enum (begins_tuple a its.toArray) p' fun h' he hit hk => wpAny_pyIter_enum he ?_
  have I2 : Inv X pins σ H1 { s1 with heap := h' } := I1.kept (t' := s1.toks) hk
  refine ⟨s1.heap.objs.size + 1, [s1.heap.objs.size + 1, s1.heap.objs.size], _, _, H1, rfl, I2, turnE a (s1.heap.objs.size + 1) s1.heap.objs.size (Nat.ne_of_lt alt) (Nat.ne_of_gt (Nat.lt_succ_of_lt alt)), ⟨⟨.none, he⟩, ⟨_, hit, rfl, rfl⟩, Nat.succ_ne_self _⟩, fun b hb => ?_, q⟩
  have hle : s1.heap.objs.size ≤ b := by
    have hb : b = s1.heap.objs.size + 1 ∨ b = s1.heap.objs.size := by simpa using hb
    rcases hb with z | z
    · rw [z]; exact Nat.le_succ _
    · rw [z]; exact Nat.le_refl _
  exact I1.fpOk hle (I1.hok.fresh hle)
end GE
namespace G
open PySem L2
section
variable {Z : Wd} {M H M' H' : Hp} {B : Bas} {W : List (Nat × Addr)} {σ σ' : St} {δ : List S} {te : TE} {Λ : List D → List S → Prop}
theorem xi_enumT (h : XE Z te δ fun d δ1 => ∃ xs, d = .tup xs ∧ Λ (enumD xs) δ1) : XI Z (GE.iEnumT Z.K (tCons te tNil)) δ Λ := fun B W M H σ R I q =>
  h.run I fun M1 H1 δ1 x a h1 e1 I1 at1 => by
    obtain ⟨xs, rfl, f⟩ := h1
    cases at1 with
    | tup k l c =>
      rename_i p us
      refine ⟨p, us, rfl, sqT_mono I1.ex k, q M1 H1 δ1 _ _ f e1 I1 ⟨fun i H hi e => ?_, fun H e => ?_, fun i H x H' M2 hi ea eb y => ?_⟩⟩
      · rw [enumD_len] at hi
        exact ⟨us, us[i]'(by rw [l]; exact hi), sqT_mono e k, by simp [l, hi]⟩
      · exact ⟨us, sqT_mono e k, by rw [enumD_len, l]; exact Nat.le_refl _⟩
      · obtain ⟨T, z, h1, h2, h3, h4⟩ := y
        have hz := h4 us (sqT_mono (ea.tr eb) k)
        obtain ⟨d, hd, ad⟩ := AtL.getV (Z := Z) (M := M1) ⟨l, c⟩ hz
        refine ⟨_, ?_, .inr ⟨T, _, [.int (i : Nat), d], h2, h3, h1, .cons .int (.one (ad.mono ea)), rfl⟩⟩
        simp only [enumD, List.getElem?_map, List.getElem?_zipIdx, hd]; simp
/-- a walk in one of two ways -/
theorem pi_or {X : Cx} {tg e : Expr} {w1 w2 : TI} (a : PI X tg e w1) (b : PI X tg e w2) : PI X tg e (fun σ H R => w1 σ H R ∨ w2 σ H R) :=
  ⟨fun pins s σ H R I h => h.elim (a.run pins s σ H R I) (b.run pins s σ H R I)⟩
theorem xi_l {w1 w2 : TI} (h : XI Z w1 δ Λ) : XI Z (fun σ H R => w1 σ H R ∨ w2 σ H R) δ Λ := fun B W M H σ R I q => .inl (h B W M H σ R I q)
theorem xi_r {w1 w2 : TI} (h : XI Z w2 δ Λ) : XI Z (fun σ H R => w1 σ H R ∨ w2 σ H R) δ Λ := fun B W M H σ R I q => .inr (h B W M H σ R I q)
end
end G
set_option Elab.async false
set_option linter.all false
set_option maxRecDepth 100000
set_option maxHeartbeats 4000000
namespace G
open PySem L2
section
variable {Z : Wd} {M H M' H' : Hp} {B : Bas} {W : List (Nat × Addr)} {σ σ' : St} {δ : List S}
variable {te ta tb tc tv : TE} {tt t u : TT} {Φ : D → List S → Prop} {Ψ : S → List S → Prop} {Ω : OD → List S → Prop} {Λ : List D → List S → Prop} {ts : TA}
variable {bs vs : List Nat} {P : Po}
/-! ### isinstance -/
def tyD : D → Option String
  | .non => some "NoneType" | .bl _ => some "bool" | .int _ => some "int" | .str _ => some "str" | .lst _ => some "list" | .tup _ => some "tuple"
  | _ => none
theorem At.tyx {v : V} {d : D} {n : String} (a : At Z M v d) (e : Ex M H) (h : tyD d = some n) : TyX Z.K H v (.type n) := by
  cases a with
  | non => cases h; exact .base .non
  | bl => cases h; exact .base (.bl _)
  | int => cases h; exact .base (.int _)
  | str => cases h; exact .base (.str _)
  | lst k l c => cases h; exact .base (.lst (e _ _ k))
  | tup k l c =>
    cases h
    rcases sqT_mono e k with k | ⟨o, its, n, k1, k2, _⟩
    · rcases k with k | ⟨o, k⟩
      · exact .base (.tup k)
      · exact .fTuple k
    · exact .kTuple k1 k2
  | _ => cases h
theorem xe_isi {m : String} (h : XE Z te δ fun d δ1 => ∃ n b, tyD d = some n ∧ kitB n m = some b ∧ Φ (.bl b) δ1) : XE Z (tCB (rIsi Z.K) (tCons te (tCons (tC (.ty m)) tNil))) δ Φ := XE.mk fun B W M H σ Q I q =>
  h.run I fun M1 H1 δ1 x a h1 e1 I1 at1 => by
    obtain ⟨n, b, e, k, f⟩ := h1
    exact ⟨x, .ty m, .type n, .type m, b, rfl, .ty m, at1.tyx I1.ex e, kit_ty k, q M1 H1 δ1 _ _ f e1 I1 .bl⟩
theorem kit_seq {K : PySem.W.Frag} {n : String} (h : n ∈ ["NoneType", "bool", "int", "str", "list", "tuple"]) : PySem.W.kitAny K (.type n) [.type "list", .type "tuple"] = some (n == "list" || n == "tuple") := by
  have two : ∀ {x y : Bool}, kitB n "list" = some x → kitB n "tuple" = some y → PySem.W.kitAny K (.type n) [.type "list", .type "tuple"] = some (x || y) := fun {x y} h1 h2 => by
    have h1 : PySem.W.kitOne K (.type n) (.type "list") = some x := kit_ty h1
    have h2 : PySem.W.kitOne K (.type n) (.type "tuple") = some y := kit_ty h2
    unfold PySem.W.kitAny
    rw [h1]
    cases x with
    | true => rfl
    | false =>
      show PySem.W.kitAny K (.type n) [.type "tuple"] = _
      unfold PySem.W.kitAny
      rw [h2]
      cases y <;> rfl
  simp only [List.mem_cons, List.not_mem_nil, or_false] at h
  rcases h with rfl | rfl | rfl | rfl | rfl | rfl
  · exact two (x := false) (y := false) (by decide +kernel) (by decide +kernel)
  · exact two (x := false) (y := false) (by decide +kernel) (by decide +kernel)
  · exact two (x := false) (y := false) (by decide +kernel) (by decide +kernel)
  · exact two (x := false) (y := false) (by decide +kernel) (by decide +kernel)
  · exact two (x := true) (y := false) (by decide +kernel) (by decide +kernel)
  · exact two (x := false) (y := true) (by decide +kernel) (by decide +kernel)
theorem xe_isiSeq (h : XE Z te δ fun d δ1 => ∃ n, tyD d = some n ∧ Φ (.bl (n == "list" || n == "tuple")) δ1) : XE Z (tCB (rIsiT Z.K) (tCons te (tCons (tTup (tCons (tC (.ty "list")) (tCons (tC (.ty "tuple")) tNil))) tNil))) δ Φ := XE.mk fun B W M H σ Q I q =>
  h.run I fun M1 H1 δ1 x a h1 e1 I1 at1 => by
    obtain ⟨n, e, f⟩ := h1
    have hn : n ∈ ["NoneType", "bool", "int", "str", "list", "tuple"] := by
      cases a <;> first | cases e | skip
      all_goals decide
    refine ⟨by show 2 ≤ sizeLine; decide, fun p hp => ?_⟩
    refine ⟨x, p, [.ty "list", .ty "tuple"], .type n, [.type "list", .type "tuple"], _, rfl, upd_same, .cons (.ty _) (.cons (.ty _) .nil), at1.tyx (I1.ex.tr (Ex.new hp)) e, kit_seq hn, ?_⟩
    exact q M1 _ δ1 _ _ f e1 (I1.other (I1.fresh hp) (I1.ex.free hp) (I1.newOwn hp)) .bl
theorem xe_isiC {C : Addr} (h : XE Z te δ fun d δ1 => ∃ c ds, d = .obj c ds ∧ (Z.cl c).C = C ∧ Φ (.bl true) δ1) : XE Z (tCB (fun xs H Q => ∃ a dx fs, xs = [.ref a, .ref C] ∧ H a = some (.ins C dx fs) ∧ Q (.bl true) H) (tCons te (tCons (tC (.ref C)) tNil))) δ Φ := XE.mk fun B W M H σ Q I q =>
  h.run I fun M1 H1 δ1 x a h1 e1 I1 at1 => by
    obtain ⟨c, ds, rfl, hC, f⟩ := h1
    subst hC
    cases at1 with
    | obj k l l2 c => exact ⟨_, _, _, rfl, I1.ex _ _ k, q M1 H1 δ1 _ _ f e1 I1 .bl⟩
/-! ### a < b < c -/
theorem xe_chain {g g' : Int → Int → Bool} (h : XE Z ta δ fun a δ1 => XE Z tb δ1 fun b δ2 => ∃ i j, a = .int i ∧ b = .int j ∧ if g i j = true then XE Z tc δ2 (fun c δ3 => ∃ k, c = .int k ∧ Φ (.bl (g' j k)) δ3) else Φ (.bl false) δ2) :
    XE Z (tChain (rI0 fun i j => .bl (g i j)) (rI0 fun i j => .bl (g' i j)) ta tb tc) δ Φ := XE.mk fun B W M H σ Q I q =>
  h.run I fun M1 H1 δ1 x a h1 e1 I1 at1 => XE.run h1 I1 fun M2 H2 δ2 y b h2 e2 I2 at2 => by
    obtain ⟨i, j, rfl, rfl, f⟩ := h2
    cases at1; cases at2
    refine ⟨i, j, rfl, rfl, g i j, rfl, ?_⟩
    cases e : g i j with
    | true =>
      rw [e, if_pos rfl] at f
      rw [if_pos rfl]
      exact XE.run f I2 fun M3 H3 δ3 z c h3 e3 I3' at3 => by
        obtain ⟨k, rfl, f⟩ := h3
        cases at3
        exact ⟨j, k, rfl, rfl, q M3 H3 δ3 _ _ f (e1.tr (e2.tr e3)) I3' .bl⟩
    | false =>
      rw [e, if_neg Bool.false_ne_true] at f
      rw [if_neg Bool.false_ne_true]
      exact q M2 H2 δ2 _ _ f (e1.tr e2) I2 .bl
/-! ### an own list compared -/
theorem xe_neO {i : Nat} {xs : List D} (hv : δ[i]? = some (.own (.lst xs))) (h : XE Z tb δ fun b δ2 => δ2[i]? = some (.own (.lst xs)) ∧ plaL xs = true ∧ pla b = true ∧ SeqAt.shaped (py (.lst xs)) = true ∧ SeqAt.shaped (py b) = true ∧ Φ (.bl (!PyData.eqv (py (.lst xs)) (py b))) δ2) : XE Z (tOp (rNeD Z.K) (tVar i) tb) δ Φ := XE.mk fun B W M H σ Q I q => by
  obtain ⟨o, e, p, ho, rfl, _⟩ := I.sl i _ hv
  refine ⟨_, e, h.run I fun M2 H2 δ2 y b h2 e2 I2 at2 => ?_⟩
  obtain ⟨hx, pa, pb, sa, sb, f⟩ := h2
  obtain ⟨o', e', p', ho', rfl, hp', hy', _⟩ := I2.sl i _ hx
  rw [e] at e'; cases e'
  obtain ⟨us, rfl, al⟩ := hy'.lstI
  exact ⟨_, _, .lst (SqL.of hp') (AtL.dp _ _ al I2.ex pa), At.dp b y at2 I2.ex pb, sa, sb, q M2 H2 δ2 _ _ f e2 I2 .bl⟩
/-- equal texts in a row -/
theorem eqv_strs : ∀ (xs ys : List Str), PyData.eqvAll (pyL (xs.map .str)) (pyL (ys.map .str)) = decide (xs = ys)
  | [], [] => rfl
  | [], y :: ys => by simp [pyL, PyData.eqvAll]
  | x :: xs, [] => by simp [pyL, PyData.eqvAll]
  | x :: xs, y :: ys => by
    show (PyData.eqv (.str x) (.str y) && PyData.eqvAll (pyL (xs.map .str)) (pyL (ys.map .str))) = _
    rw [eqv_strs xs ys, show PyData.eqv (.str x) (.str y) = (x == y) from by simp [PyData.eqv]]
    rw [Bool.eq_iff_iff]
    simp
theorem pla_strs : ∀ (xs : List Str), plaL (xs.map .str) = true
  | [] => rfl
  | x :: xs => by show (true && plaL (xs.map .str)) = true; rw [pla_strs xs]; rfl
end
end G
set_option Elab.async false
set_option linter.all false
set_option maxRecDepth 100000
set_option maxHeartbeats 4000000
namespace G
open PySem L2
section
variable {Z : Wd} {M H M' H' : Hp} {B : Bas} {W : List (Nat × Addr)} {σ σ' : St} {δ : List S}
variable {te ta tb tc tv : TE} {tt tt1 t u : TT} {Φ : D → List S → Prop} {Ψ : S → List S → Prop} {Ω : OD → List S → Prop} {Λ : List D → List S → Prop} {ts : TA}
variable {bs vs vs1 : List Nat} {P : Po}
/-- a turn of a comprehension: from where it starts, and back -/
theorem I3.turn {A : Addr} {av : List V} (I : I3 Z B W M H σ δ) (hA : H A = some (.lst av)) (hAm : M A = none) (hAo : ∀ j, ¬ Own σ δ j A) (hno : ∀ v ∈ vs, δ[v]? = some .no) :
    ∃ W2 : List (Nat × Addr), (∀ v ∈ vs, v ∉ W2.map (·.1)) ∧ I3 Z ⟨H, M⟩ W2 M H (wipe σ vs) δ ∧ ∀ M4 H4 σ4 δ4, Ex M M4 → (∀ j, j ∉ vs → σ4[j]? = (wipe σ vs)[j]?) → σ4.length = (wipe σ vs).length → I3 Z ⟨H, M⟩ W2 M4 H4 σ4 δ4 →
      (I3 Z B W M4 H4 σ (wipeS δ4 vs) ∧ H4 A = some (.lst av) ∧ M4 A = none ∧ (∀ j, ¬ Own σ (wipeS δ4 vs) j A) ∧ ∀ v ∈ vs, (wipeS δ4 vs)[v]? = some .no) ∧ I3 Z B W M4 H4 σ4 δ4 ∧ (∀ j, ¬ Own σ4 δ4 j A) ∧ ∀ v p, v ∈ vs → (v, p) ∉ W := by
  have hvlen : ∀ v ∈ vs, v < δ.length := fun v hv => (List.getElem?_eq_some_iff.mp (hno v hv)).1
  have hWv : ∀ i p, i ∈ vs → (i, p) ∉ W := fun i p hv hw => by
    exact Own.not (hno i hv) hol_no (I.bor i p hw)
  have Iw : I3 Z B W M H (wipe σ vs) δ := I.swap (fun j hj => wipe_out hj) (wipe_length _ _) (fun _ _ => rfl) (fun j hj _ => hno j hj) rfl hWv
  have hbs : ∀ v ∈ vs, v ∉ (owns 0 (wipe σ vs) δ).map (·.1) := fun v hv hm => by
    obtain ⟨⟨i, p⟩, hmem, rfl⟩ := List.mem_map.mp hm
    exact Own.not (hno _ hv) hol_no (mem_owns.mp hmem)
  have ownEq : ∀ i p, (i, p) ∈ owns 0 (wipe σ vs) δ ↔ Own σ δ i p := fun i p => by
    rw [mem_owns]
    constructor
    · intro o
      have hi' : i ∉ vs := fun hv => Own.not (hno i hv) hol_no o
      exact o.same (wipe_out hi').symm rfl
    · intro o
      have hi' : i ∉ vs := fun hv => Own.not (hno i hv) hol_no o
      exact o.same (wipe_out hi') rfl
  refine ⟨_, hbs, Iw.rebase, fun M4 H4 σ4 δ4 e4 k4 l4 J4 => ?_⟩
  have hl4 : δ4.length = δ.length := by rw [← J4.len, l4, wipe_length, I.len]
  have J5 : I3 Z ⟨H, M⟩ (owns 0 (wipe σ vs) δ) M4 H4 σ (wipeS δ4 vs) := J4.swap (vs := vs) (fun j hj => by rw [k4 j hj, wipe_out hj]) (by rw [l4, wipe_length]) (fun j hj => wipeS_out hj) (fun j hj hlt => wipeS_in (by rw [wipeS_len] at hlt; exact hlt) hj) (wipeS_len _) fun i p hv hw => hbs i hv (List.mem_map_of_mem (f := (·.1)) hw)
  obtain ⟨z1, z2, z3⟩ := J5.stays (a := A) hA hAm (fun i hi => hAo i ((ownEq i A).mp hi)) (fun _ e => nomatch e)
  obtain ⟨_, y2, _⟩ := J4.stays (a := A) hA hAm (fun i hi => hAo i ((ownEq i A).mp hi)) (fun _ e => nomatch e)
  exact ⟨⟨I.back ownEq J5, z1, z3, z2, fun v hv => wipeS_in (by rw [hl4]; exact hvlen v hv) hv⟩, I.back ownEq J4, y2, hWv⟩
/-- a comprehension of two clauses -/
theorem xo_lc2 {g g1 : TG} {wi wi1 : TI} (h : XI Z wi δ fun xs δ0 => (∀ v ∈ vs, δ0[v]? = some .no) ∧ (∀ v ∈ vs1, v ∈ vs) ∧ xs.length ≤ 1000 ∧ ∃ J : Nat → List D → List S → Prop, J 0 [] δ0 ∧
      (∀ i d acc δ1 bs, (∀ v ∈ vs, v ∉ bs) → xs[i]? = some d → J i acc δ1 → XG Z vs bs g d δ1 fun δ2 => XT Z tt δ2 fun b δ3 => if b = true then XI Z wi1 δ3 fun zs δ4 => zs.length ≤ 1000 ∧ (∀ v ∈ vs1, δ4[v]? = some .no) ∧ ∃ Jn : Nat → List D → List S → Prop, Jn 0 acc δ4 ∧
        (∀ j e acc δ5 bs, (∀ v ∈ vs1, v ∉ bs) → zs[j]? = some e → Jn j acc δ5 → XG Z vs1 bs g1 e δ5 fun δ6 => XT Z tt1 δ6 fun b δ7 => if b = true then XE Z te δ7 fun y δ8 => Jn (j + 1) (acc ++ [y]) (wipeS δ8 vs1) else Jn (j + 1) acc (wipeS δ7 vs1)) ∧
        ∀ acc δ5, Jn zs.length acc δ5 → J (i + 1) acc (wipeS δ5 vs)
        else J (i + 1) acc (wipeS δ3 vs)) ∧
      ∀ acc δ1, J xs.length acc δ1 → Ω (.lst acc) δ1) : XO Z (tLc2 wi g tt wi1 g1 tt1 te vs vs1) δ Ω := XO.mk fun B W M H σ Q I q =>
  h B W M H σ _ I fun M' H1 δ' J xs f e1 I1 wd A hA => by
    obtain ⟨hno, hsub, hxs, Jv, j0, js, jn⟩ := f
    have hAB := I1.fresh hA
    have hAm := I1.ex.free hA
    refine ⟨fun i m H => m = xs.length - i ∧ i ≤ xs.length ∧ ∃ M'' δ'' acc av, Ex M' M'' ∧ I3 Z B W M'' H σ δ'' ∧ Jv i acc δ'' ∧ H A = some (.lst av) ∧ AtL Z M'' av acc ∧ M'' A = none ∧ (∀ j, ¬ Own σ δ'' j A) ∧ (∀ v ∈ vs, δ''[v]? = some .no) ∧ acc.length ≤ 1000 * i,
      ⟨_, rfl, Nat.zero_le _, M', δ', [], [], Ex.rfl', I1.other hAB hAm (I1.newOwn hA), j0, upd_same, .nil, hAm, I1.newOwn hA, hno, Nat.le_refl _⟩, ?_⟩
    rintro i m Ha ⟨rfl, hi, M'', δ'', acc, av, a, Ia, ja, hA1, al, hAm1, hAo, hno1, hacc⟩
    by_cases lt : i < xs.length
    · refine .inr ⟨wd.go i Ha lt (a.tr Ia.ex), fun Hn => i + 1 ≤ xs.length ∧ ∃ M'' δ'' acc av, Ex M' M'' ∧ I3 Z B W M'' Hn σ δ'' ∧ Jv (i + 1) acc δ'' ∧ Hn A = some (.lst av) ∧ AtL Z M'' av acc ∧ M'' A = none ∧ (∀ j, ¬ Own σ δ'' j A) ∧ (∀ v ∈ vs, δ''[v]? = some .no) ∧ acc.length ≤ 1000 * (i + 1),
        fun H' z => ⟨xs.length - (i + 1), by omega, rfl, z⟩, fun x Hb yl => ?_⟩
      obtain ⟨d, M2, hd, e2, I2, at2, k2, m2⟩ := YD.use (wd.walk.yields i Ha x Hb lt (a.tr Ia.ex) yl) a Ia
      obtain ⟨W2, hbs, Iw, fin⟩ := I2.turn (vs := vs) (k2 _ _ hA1) (m2 _ _ hA1 hAm1) hAo hno1
      refine js i d acc δ'' _ hbs hd ja _ _ M2 Hb (wipe σ vs) x _ rfl Iw at2 fun M3 H3 σ3 δ3 h3 e3 J3 k3 l3 => ⟨(wipe_eq k3 l3).trans (wipe_eq (fun j hj => wipe_out hj) (wipe_length _ _)), ?_⟩
      refine h3 _ _ M3 H3 σ3 _ J3 fun M4 H4 δ4 b h4 e4 J4 => ?_
      cases b with
      | false =>
        rw [if_neg Bool.false_ne_true] at h4 ⊢
        obtain ⟨⟨z1, z2, z3, z4, z5⟩, _⟩ := fin M4 H4 σ3 δ4 (e3.tr e4) k3 l3 J4
        exact ⟨lt, M4, _, _, _, a.tr (e2.tr (e3.tr e4)), z1, h4, z2, al.mono (e2.tr (e3.tr e4)), z3, z4, z5, by omega⟩
      | true =>
        rw [if_pos rfl] at h4 ⊢
        refine h4 _ _ M4 H4 σ3 _ J4 fun M5 H5 δ5 J1 zs h5 e5 J5 wd1 => ?_
        obtain ⟨hzs, hno5, Jn, n0, ns, nn⟩ := h5
        have ex5 : Ex M2 M5 := e3.tr (e4.tr e5)
        obtain ⟨⟨_, y2, y3, _, _⟩, yI, yO, hWv⟩ := fin M5 H5 σ3 δ5 ex5 k3 l3 J5
        refine ⟨fun j m H => m = zs.length - j ∧ j ≤ zs.length ∧ ∃ M6 δ6 acc6 av6, Ex M5 M6 ∧ I3 Z B W M6 H σ3 δ6 ∧ Jn j acc6 δ6 ∧ H A = some (.lst av6) ∧ AtL Z M6 av6 acc6 ∧ M6 A = none ∧ (∀ j, ¬ Own σ3 δ6 j A) ∧ (∀ v ∈ vs1, δ6[v]? = some .no) ∧ acc6.length ≤ 1000 * i + j ∧ δ6.length = δ''.length,
          ⟨_, rfl, Nat.zero_le _, M5, δ5, acc, av, Ex.rfl', yI, n0, y2, al.mono (e2.tr ex5), y3, yO, hno5, by omega, by rw [← yI.len, l3, wipe_length, I2.len]⟩, ?_⟩
        rintro j m Hc ⟨rfl, hj, M6, δ6, acc6, av6, a6, I6, j6, hA6, al6, hAm6, hAo6, hno6, hacc6, hlen6⟩
        by_cases ltj : j < zs.length
        · refine .inr ⟨wd1.go j Hc ltj (a6.tr I6.ex), fun Hn => j + 1 ≤ zs.length ∧ ∃ M6 δ6 acc6 av6, Ex M5 M6 ∧ I3 Z B W M6 Hn σ3 δ6 ∧ Jn (j + 1) acc6 δ6 ∧ Hn A = some (.lst av6) ∧ AtL Z M6 av6 acc6 ∧ M6 A = none ∧ (∀ j, ¬ Own σ3 δ6 j A) ∧ (∀ v ∈ vs1, δ6[v]? = some .no) ∧ acc6.length ≤ 1000 * i + (j + 1) ∧ δ6.length = δ''.length,
            fun H' z => ⟨zs.length - (j + 1), by omega, rfl, z⟩, fun x1 Hd yl1 => ?_⟩
          obtain ⟨d7, M7, hd7, e7, I7, at7, k7, m7⟩ := YD.use (wd1.walk.yields j Hc x1 Hd ltj (a6.tr I6.ex) yl1) a6 I6
          obtain ⟨W7, hbs7, Iw7, fin7⟩ := I7.turn (vs := vs1) (k7 _ _ hA6) (m7 _ _ hA6 hAm6) hAo6 hno6
          refine ns j d7 acc6 δ6 _ hbs7 hd7 j6 _ _ M7 Hd (wipe σ3 vs1) x1 _ rfl Iw7 at7 fun M8 H8 σ8 δ8 h8 e8 J8 k8 l8 => ⟨(wipe_eq k8 l8).trans (wipe_eq (fun j hj => wipe_out hj) (wipe_length _ _)), ?_⟩
          refine h8 _ _ M8 H8 σ8 _ J8 fun M9 H9 δ9 b h9 e9 J9 => ?_
          cases b with
          | false =>
            rw [if_neg Bool.false_ne_true] at h9 ⊢
            obtain ⟨⟨z1, z2, z3, z4, z5⟩, _⟩ := fin7 M9 H9 σ8 δ9 (e8.tr e9) k8 l8 J9
            exact ⟨ltj, M9, _, _, _, a6.tr (e7.tr (e8.tr e9)), z1, h9, z2, al6.mono (e7.tr (e8.tr e9)), z3, z4, z5, by omega, by rw [← z1.len, I7.len, hlen6]⟩
          | true =>
            rw [if_pos rfl] at h9 ⊢
            refine XE.run h9 J9 fun M0 H0 δ0 y' d' h0 e0 J0 at0 => ?_
            have ex0 : Ex M7 M0 := e8.tr (e9.tr e0)
            obtain ⟨⟨z1, z2, z3, z4, z5⟩, _⟩ := fin7 M0 H0 σ8 δ0 ex0 k8 l8 J0
            have hlen : av6.length < sizeLine := by
              have h1 := al6.len
              have h2 : av6.length < 1001001 := by
                have : 1000 * i ≤ 1000 * 1000 := Nat.mul_le_mul_left _ (by omega)
                omega
              exact Nat.lt_of_lt_of_le h2 (by decide)
            exact ⟨av6, z2, hlen, ltj, M0, _, _, _, a6.tr (e7.tr ex0), z1.other hAB z3 z4, h0, upd_same, AtL.app (al6.mono (e7.tr ex0)) (.one at0), z3, z4, z5, by rw [List.length_append, List.length_singleton]; omega, by rw [← z1.len, I7.len, hlen6]⟩
        · obtain rfl : j = zs.length := by omega
          have hvlen : ∀ v ∈ vs, v < δ6.length := fun v hv => by rw [hlen6]; exact (List.getElem?_eq_some_iff.mp (hno1 v hv)).1
          have Jb : I3 Z B W M6 Hc σ (wipeS δ6 vs) := I6.swap (vs := vs) (fun j hj => by rw [k3 j hj, wipe_out hj]) (by rw [l3, wipe_length]) (fun j hj => wipeS_out hj) (fun j hj hlt => wipeS_in (by rw [wipeS_len] at hlt; exact hlt) hj) (wipeS_len _) fun i p hv => hWv i p hv
          refine .inl ⟨wd1.stop Hc (a6.tr I6.ex), lt, M6, wipeS δ6 vs, acc6, av6, a.tr (e2.tr (ex5.tr a6)), Jb, nn _ _ j6, hA6, al6, hAm6, fun j o => ?_, fun v hv => wipeS_in (hvlen v hv) hv, by omega⟩
          have hj' : j ∉ vs := fun hv => Own.not (wipeS_in (hvlen j hv) hv) hol_no o
          exact hAo6 j (o.same (by rw [k3 j hj', wipe_out hj']) (wipeS_out hj').symm)
    · obtain rfl : i = xs.length := by omega
      exact .inl ⟨wd.stop Ha (a.tr Ia.ex), q M'' Ha δ'' A _ _ (jn _ _ ja) (e1.tr a) Ia hA1 al hAm1 hAB hAo⟩
/-! ### int, abs, min, max, str, a power -/
theorem xe_callInt (h : XE Z te δ fun d δ1 => ∃ i, d = .int i ∧ Φ (.int i) δ1) : XE Z (tCB (fun xs H Q => (∃ i, xs = [.int i] ∧ Q (.int i) H) ∨ ∃ k, xs = [.bl k] ∧ Q (.int (if k then 1 else 0)) H) (tCons te tNil)) δ Φ := XE.mk fun B W M H σ Q I q =>
  h.run I fun M1 H1 δ1 x a h1 e1 I1 at1 => by
    obtain ⟨i, rfl, f⟩ := h1
    cases at1
    exact .inl ⟨i, rfl, q M1 H1 δ1 _ _ f e1 I1 .int⟩
theorem xe_callIntB (h : XE Z te δ fun d δ1 => ∃ b, d = .bl b ∧ Φ (.int (if b then 1 else 0)) δ1) : XE Z (tCB (fun xs H Q => (∃ i, xs = [.int i] ∧ Q (.int i) H) ∨ ∃ k, xs = [.bl k] ∧ Q (.int (if k then 1 else 0)) H) (tCons te tNil)) δ Φ := XE.mk fun B W M H σ Q I q =>
  h.run I fun M1 H1 δ1 x a h1 e1 I1 at1 => by
    obtain ⟨i, rfl, f⟩ := h1
    cases at1
    exact .inr ⟨i, rfl, q M1 H1 δ1 _ _ f e1 I1 .int⟩
theorem xe_abs (h : XE Z te δ fun d δ1 => ∃ i : Int, d = .int i ∧ Φ (.int (if i < 0 then -i else i)) δ1) : XE Z (tCB (fun xs H Q => ∃ i : Int, xs = [.int i] ∧ Q (.int (if i < 0 then -i else i)) H) (tCons te tNil)) δ Φ := XE.mk fun B W M H σ Q I q =>
  h.run I fun M1 H1 δ1 x a h1 e1 I1 at1 => by
    obtain ⟨i, rfl, f⟩ := h1
    cases at1
    exact ⟨i, rfl, q M1 H1 δ1 _ _ f e1 I1 .int⟩
theorem xe_max2 (h : XE Z ta δ fun d δ1 => XE Z tb δ1 fun b δ2 => ∃ i j : Int, d = .int i ∧ b = .int j ∧ Φ (.int (if j > i then j else i)) δ2) : XE Z (tCB (fun xs H Q => ∃ i j : Int, xs = [.int i, .int j] ∧ Q (.int (if j > i then j else i)) H) (tCons ta (tCons tb tNil))) δ Φ := XE.mk fun B W M H σ Q I q =>
  h.run I fun M1 H1 δ1 x a h1 e1 I1 at1 => XE.run h1 I1 fun M2 H2 δ2 y b h2 e2 I2 at2 => by
    obtain ⟨i, j, rfl, rfl, f⟩ := h2
    cases at1; cases at2
    exact ⟨i, j, rfl, q M2 H2 δ2 _ _ f (e1.tr e2) I2 .int⟩
theorem xe_min2 (h : XE Z ta δ fun d δ1 => XE Z tb δ1 fun b δ2 => ∃ i j : Int, d = .int i ∧ b = .int j ∧ Φ (.int (if j < i then j else i)) δ2) : XE Z (tCB (fun xs H Q => ∃ i j : Int, xs = [.int i, .int j] ∧ Q (.int (if j < i then j else i)) H) (tCons ta (tCons tb tNil))) δ Φ := XE.mk fun B W M H σ Q I q =>
  h.run I fun M1 H1 δ1 x a h1 e1 I1 at1 => XE.run h1 I1 fun M2 H2 δ2 y b h2 e2 I2 at2 => by
    obtain ⟨i, j, rfl, rfl, f⟩ := h2
    cases at1; cases at2
    exact ⟨i, j, rfl, q M2 H2 δ2 _ _ f (e1.tr e2) I2 .int⟩
theorem xe_strS (h : XE Z te δ fun d δ1 => ∃ s, d = .str s ∧ Φ (.str s) δ1) : XE Z (tCB (fun xs H Q => ∃ a, xs = [.str a] ∧ Q (.str a) H) (tCons te tNil)) δ Φ := XE.mk fun B W M H σ Q I q =>
  h.run I fun M1 H1 δ1 x a h1 e1 I1 at1 => by
    obtain ⟨i, rfl, f⟩ := h1
    cases at1
    exact ⟨i, rfl, q M1 H1 δ1 _ _ f e1 I1 .str⟩
theorem ite_b {b : Bool} {A C : Prop} (h1 : b = true → A) (h2 : b = false → C) : if b = true then A else C := by
  cases b with
  | true => rw [if_pos rfl]; exact h1 rfl
  | false => rw [if_neg Bool.false_ne_true]; exact h2 rfl
theorem xs_item0 {i : Nat} {bs : List Nat} {P : Po} (h : XE Z te δ fun d δ1 => ∃ y, δ1[i]? = some (.own y) ∧ XE Z ta δ1 fun b δ2 => ∃ xs k, δ2[i]? = some (.own (.lst xs)) ∧ b = .int (k : Nat) ∧ k < xs.length ∧ P.N (δ2.set i (.own (.lst (xs.set k d))))) : XS Z bs (tAsg te (gSub (tVar i) ta rSetL)) δ P := fun B W M H σ E hb I e =>
  h.run I fun M1 H1 δ1 x d h1 e1 I1 at1 => by
    obtain ⟨y, hy, h1⟩ := h1
    obtain ⟨o, e0, p, ho, rfl, _⟩ := I1.sl i _ hy
    refine ⟨_, e0, XE.run h1 I1 fun M2 H2 δ2 y b h2 e2 I2 at2 => ?_⟩
    obtain ⟨xs, k, hx, rfl, hk, f⟩ := h2
    cases at2
    obtain ⟨o', e', p', ho', rfl, hp', hy', _⟩ := I2.sl i _ hx
    rw [e0] at e'; cases e'
    obtain ⟨us, rfl, a⟩ := hy'.lstI
    refine ⟨_, us, (k : Int), k, rfl, rfl, hp', ?_, e.nx _ _ _ _ f (e1.tr e2) (I2.write e0 hx (ho := .lst _) (y' := .lst _) (a.set k (at1.mono e2)))⟩
    unfold ixN
    rw [if_pos (by omega), if_pos (by rw [a.len]; omega)]; simp
end
end G
set_option Elab.async false
set_option maxRecDepth 100000
set_option maxHeartbeats 4000000
namespace G
open PySem L2
variable {Z : Wd} {B : Bas} {W : List (Nat × Addr)} {M M' H H' : Hp} {σ σ' : St} {δ δ' : List S} {te ta tb : TE} {Φ : D → List S → Prop} {bs : List Nat} {P : Po}
theorem xe_callIntC {g : Int → Int → Bool} (h : XE Z (tOp (rI0 fun i j => .bl (g i j)) ta tb) δ fun d δ1 => ∃ b, d = .bl b ∧ Φ (.int (if b then 1 else 0)) δ1) : XE Z (tCB (fun xs H Q => (∃ i, xs = [.int i] ∧ Q (.int i) H) ∨ ∃ k, xs = [.bl k] ∧ Q (.int (if k then 1 else 0)) H) (tCons (tOp (rI0 fun i j => .bl (g i j)) ta tb) tNil)) δ Φ := xe_callIntB h
theorem abs_nn (v : Int) : 0 ≤ (if v < 0 then -v else v) := by split <;> omega
theorem atI_some {α : Type} {xs : List α} {k : Int} (h0 : 0 ≤ k) (h1 : k < xs.length) : ∃ v, atI xs k = some v := by
  refine ⟨xs[k.toNat]'(by omega), ?_⟩
  have := atI_nat (xs := xs) (j := k.toNat) (v := xs[k.toNat]'(by omega)) (by simp)
  rwa [show ((k.toNat : Nat) : Int) = k by omega] at this
theorem perm_erase {α : Type} : ∀ {l : List α} {k : Nat} (h : k < l.length), ([l[k]] ++ l.eraseIdx k).Perm l
  | x :: l, 0, _ => by simp
  | x :: l, k + 1, h => by
    have := perm_erase (l := l) (k := k) (by simpa using h)
    simp only [List.getElem_cons_succ, List.eraseIdx_cons_succ, List.cons_append, List.nil_append] at this ⊢
    exact (List.Perm.swap _ _ _).trans (this.cons x)
theorem XT.imp {tt : TT} {Θ Θ' : Bool → List S → Prop} (h : XT Z tt δ Θ) (k : ∀ b δ', Θ b δ' → Θ' b δ') : XT Z tt δ Θ' := fun B W M H σ Q I q => h B W M H σ Q I fun M' H' δ' b a => q M' H' δ' b (k _ _ a)
theorem wipe_set {v : Nat} {d : D} (h : δ[v]? = some .no) : wipeS (δ.set v (.d d)) [v] = δ := by
  unfold wipeS wipeS
  rw [List.set_set]
  exact List.ext_getElem? fun j => by
    rw [List.getElem?_set]
    split
    · rename_i e
      subst e
      rw [h]
      have : v < δ.length := by
        rcases Nat.lt_or_ge v δ.length with q | q
        · exact q
        · rw [List.getElem?_eq_none q] at h; cases h
      simp [this]
    · rfl
theorem xe_neg (h : XE Z te δ fun d δ1 => ∃ i, d = .int i ∧ Φ (.int (-i)) δ1) : XE Z (tUn (rU fun i => .int (-i)) te) δ Φ := XE.mk fun B W M H σ Q I q =>
  h.run I fun M1 H1 δ1 x a h1 e1 I1 at1 => by
    obtain ⟨i, rfl, f⟩ := h1
    cases at1
    exact ⟨i, rfl, q M1 H1 δ1 _ _ f e1 I1 .int⟩
theorem eqv_lst (xs ys : List Str) : PyData.eqv (py (.lst (xs.map .str))) (py (.lst (ys.map .str))) = decide (xs = ys) := by
  rw [← eqv_strs xs ys]; rfl
theorem blk_lst {ts : TA} {i : Nat} (h : XS Z bs (tAsg (tLst ts) (gName i)) δ P) : XS Z bs (tAsg (tLst ts) (gName i)) δ P := h
theorem blk_lc {wi : TI} {g : TG} {tt : TT} {vs : List Nat} {i : Nat} (h : XS Z bs (tAsg (tLc wi g tt te vs) (gName i)) δ P) : XS Z bs (tAsg (tLc wi g tt te vs) (gName i)) δ P := h
end G
namespace G
open PySem L2
theorem perm_map {α β : Type} {f : α → β} {ys : List β} {xs : List α} (h : ys.Perm (xs.map f)) : ∃ ns : List α, ys = ns.map f ∧ ns.Perm xs := by
  generalize e : xs.map f = zs at h
  induction h generalizing xs with
  | nil => cases xs with
    | nil => exact ⟨[], rfl, .refl _⟩
    | cons x xs => cases e
  | cons x h ih => 
    cases xs with
    | nil => cases e
    | cons z xs =>
      simp only [List.map_cons, List.cons.injEq] at e
      obtain ⟨ns, h1, h2⟩ := ih e.2
      exact ⟨z :: ns, by rw [h1, ← e.1]; rfl, h2.cons z⟩
  | swap x y l =>
    rcases xs with _ | ⟨u, _ | ⟨v, xs⟩⟩
    · cases e
    · simp at e
    · simp only [List.map_cons, List.cons.injEq] at e
      obtain ⟨h1, h2, h3⟩ := e
      exact ⟨v :: u :: xs, by rw [← h1, ← h2, ← h3]; rfl, List.Perm.swap _ _ _⟩
  | trans h1 h2 ih1 ih2 =>
    obtain ⟨ms, rfl, hm⟩ := ih2 e
    obtain ⟨ns, rfl, hn⟩ := ih1 rfl
    exact ⟨ns, rfl, hn.trans hm⟩
theorem cut_to {α : Type} {xs : List α} {b : Int} (h : 0 ≤ b) : cut xs none (some b) = xs.take b.toNat := by
  unfold cut HT.sIx
  simp
  rw [if_neg (by omega)]
  omega
end G
theorem G.on_d {Φ : G.D → List G.S → Prop} {x : G.D} {δ : List G.S} (h : Φ x δ) : G.onD Φ (.d x) δ := h
theorem G.on_o {Φ : G.OD → List G.S → Prop} {x : G.OD} {δ : List G.S} (h : Φ x δ) : G.onO Φ (.own x) δ := h
theorem G.joinE {Z : G.Wd} {te : L2.TE} {δ : List G.S} {Φ : G.D → List G.S → Prop} {α : Type} (ok : α → Prop) (dd : α → G.D) (st : α → List G.S) (f : (∀ c, ok c → Φ (dd c) (st c)) → G.XE Z te δ Φ) (h : ∀ c, ok c → Φ (dd c) (st c)) : G.XE Z te δ Φ := f h
namespace G
open PySem L2
theorem xo_fg {Z : Wd} {δ : List S} {te : TE} {α : Type} {v : Nat} {wi : TI} {tt : TT} {Ω : OD → List S → Prop} {g f : α → D} {p : α → Bool} (h : XI Z wi δ fun xs δ0 => ∃ as : List α, xs = as.map g ∧ δ0[v]? = some .no ∧ as.length ≤ 1000000 ∧ (∀ d ∈ as, XT Z tt (δ0.set v (.d (g d))) fun b δ3 => b = p d ∧ δ3 = δ0.set v (.d (g d)) ∧ (b = true → XE Z te δ3 fun y δ4 => y = f d ∧ δ4 = δ3)) ∧ Ω (.lst ((as.filter p).map f)) δ0) :
    XO Z (tLc wi (gName v) tt te [v]) δ Ω := xo_lc fun B W M H σ Q I q => h B W M H σ Q I fun M' H' δ' J xs a => q M' H' δ' J xs (by
  obtain ⟨as, rfl, h1, h2, h3, h4⟩ := a
  refine ⟨fun w hw => by simp at hw; exact hw ▸ h1, by simpa using h2, fun i acc δ1 => acc = ((as.take i).filter p).map f ∧ δ1 = δ', ⟨rfl, rfl⟩, ?_, ?_⟩
  · rintro i d acc δ1 bs hb hi ⟨rfl, rfl⟩
    obtain ⟨u, hu, rfl⟩ : ∃ u, as[i]? = some u ∧ g u = d := by simpa using hi
    refine xg_name (List.mem_singleton.mpr rfl) (hb v (List.mem_singleton.mpr rfl)) ?_
    have t : as.take (i + 1) = as.take i ++ [u] := by rw [List.take_add_one, hu]; rfl
    refine XT.imp (h3 u (List.mem_of_getElem? hu)) fun b δ3 ⟨e1, e2, e3⟩ => ?_
    subst e1; subst e2
    split
    · rename_i hp
      refine XR.imp (e3 hp) fun s δ4 k => ?_
      cases s with
      | d y => exact ⟨by rw [t, k.1]; simp [hp], by rw [k.2]; exact wipe_set h1⟩
      | _ => exact k.elim
    · rename_i hp
      exact ⟨by rw [t]; simp [hp], wipe_set h1⟩
  · rintro acc δ1 ⟨rfl, rfl⟩
    rw [List.length_map, List.take_length]
    exact h4)
end G
theorem G.pe_gc {X : L2.Cx} {x : PySem.Str} {v : L2.V} {pos : PySem.Pos} (hg : L2.Gl X x) (h : ∃ u, X.mg x = some u ∧ L2.RelV v u) (hd : (x == PySem.Str.ofString "__debug__") = false := by decide) : L2.PE X (.Name x pos) (L2.tC v) := by
  obtain ⟨u, hm, r⟩ := h
  exact L2.pe_glob hg hm r hd
namespace G
open PySem L2
theorem if_tt {A C : Prop} (h : A) : if true = true then A else C := h
theorem if_ff {A C : Prop} (h : C) : if false = true then A else C := h
theorem if_nt {A C : Prop} (h : C) : if (!true) = true then A else C := h
theorem if_nf {A C : Prop} (h : A) : if (!false) = true then A else C := h
theorem scs_strs' : ∀ (ws : List Str), scs (ws.map .str) = some (ws.map V.str)
  | [] => rfl
  | w :: ws => by
    have := scs_strs' ws
    simp only [List.map_cons]
    unfold scs
    rw [this]; rfl
section
variable {Z : Wd} {ta tb : TE} {δ : List S} {Φ : D → List S → Prop}
theorem xe_inT (h : XE Z ta δ fun a δ1 => XE Z tb δ1 fun b δ2 => ∃ (n : Str) (ws : List Str), a = .str n ∧ (b = .lst (ws.map .str) ∨ b = .tup (ws.map .str)) ∧ Φ (.bl (decide (n ∈ ws))) δ2) : XE Z (tOp (rIn Z.K false) ta tb) δ Φ :=
  xe_in fun B W M H σ Q I q => h B W M H σ Q I fun M1 H1 δ1 v s a => q M1 H1 δ1 v s (by
    cases s with
    | d x => 
      intro B2 W2 M2 H2 σ2 Q2 I2 q2
      refine a B2 W2 M2 H2 σ2 Q2 I2 fun M3 H3 δ3 v3 s3 a3 => q2 M3 H3 δ3 v3 s3 ?_
      cases s3 with
      | d y =>
        obtain ⟨n, ws, rfl, hb, f⟩ := a3
        refine ⟨.str n, ws.map .str, ws.map V.str, rfl, hb, scs_strs' ws, ?_⟩
        simp only [Bool.false_eq_true, if_false, inV_strs]
        exact f
      | no => exact a3
      | own y => exact a3
      | deal _ _ _ => exact a3
    | no => exact a
    | own y => exact a
    | deal _ _ _ => exact a)
theorem xe_ninT (h : XE Z ta δ fun a δ1 => XE Z tb δ1 fun b δ2 => ∃ (n : Str) (ws : List Str), a = .str n ∧ (b = .lst (ws.map .str) ∨ b = .tup (ws.map .str)) ∧ Φ (.bl (!decide (n ∈ ws))) δ2) : XE Z (tOp (rIn Z.K true) ta tb) δ Φ :=
  xe_in fun B W M H σ Q I q => h B W M H σ Q I fun M1 H1 δ1 v s a => q M1 H1 δ1 v s (by
    cases s with
    | d x => 
      intro B2 W2 M2 H2 σ2 Q2 I2 q2
      refine a B2 W2 M2 H2 σ2 Q2 I2 fun M3 H3 δ3 v3 s3 a3 => q2 M3 H3 δ3 v3 s3 ?_
      cases s3 with
      | d y =>
        obtain ⟨n, ws, rfl, hb, f⟩ := a3
        refine ⟨.str n, ws.map .str, ws.map V.str, rfl, hb, scs_strs' ws, ?_⟩
        simp only [if_true, inV_strs]
        exact f
      | no => exact a3
      | own y => exact a3
      | deal _ _ _ => exact a3
    | no => exact a
    | own y => exact a
    | deal _ _ _ => exact a)
end
end G
theorem G.pe_fldK {X : L2.Cx} {K : PySem.W.Frag} {e : PySem.Expr} {f : PySem.Str} {pos : PySem.Pos} {ta : L2.TE} (hK : X.K = K) (h : L2.PE X e ta) (hb : PySem.attributeBase e f X.env (PySem.eval e X.env) = PySem.eval e X.env) : L2.PE X (e.Attribute f pos) (L2.tFld K ta f) := hK ▸ L2.pe_fld h hb
theorem G.pi_tupK {X : L2.Cx} {K : PySem.W.Frag} {tg l : PySem.Expr} {tl : L2.TE} (hK : X.K = K) (h : L2.PE X l tl) : L2.PI X tg l (L2.iTup K tl) := hK ▸ L2.pi_tup h
theorem G.pa_starK {X : L2.Cx} {K : PySem.W.Frag} {e : PySem.Expr} {es : List PySem.Expr} {te : L2.TE} {t : L2.TA} {p : PySem.Pos} (hK : X.K = K) (h : L2.PE X e te) (h2 : L2.PA X es t) (h3 : PySem.starEach (e.Starred p :: es) X.env = (true, PySem.eval e X.env) :: PySem.starEach es X.env := by rfl) : L2.PA X (e.Starred p :: es) (StX.tStar K te t) := hK ▸ StX.pa_star h h2 h3
namespace G
open PySem L2
section
variable {Z : Wd} {δ : List S} {Λ : List D → List S → Prop}
theorem xi_enumV {i : Nat} {d : D} {xs : List D} (h : δ[i]? = some (.d d)) (hd : d = .lst xs ∨ d = .tup xs) (k : Λ (enumD xs) δ) : XI Z (fun σ H R => iEnum Z.K (tCons (tVar i) tNil) σ H R ∨ GE.iEnumT Z.K (tCons (tVar i) tNil) σ H R) δ Λ := by
  rcases hd with rfl | rfl
  · exact xi_l (xi_enum (xe_var h ⟨_, rfl, k⟩))
  · exact xi_r (xi_enumT (xe_var h ⟨_, rfl, k⟩))
theorem xi_seqV {i : Nat} {d : D} {xs : List D} (h : δ[i]? = some (.d d)) (hd : d = .lst xs ∨ d = .tup xs) (k : Λ xs δ) : XI Z (fun σ H R => iList Z.K (tVar i) σ H R ∨ iTup Z.K (tVar i) σ H R) δ Λ := by
  rcases hd with rfl | rfl
  · exact xi_l (xi_list (xe_var h ⟨_, .inl rfl, k⟩))
  · exact xi_r (xi_tup (xe_var h ⟨_, rfl, k⟩))
end
end G
theorem G.filter_tt {α : Type} (xs : List α) : xs.filter (fun _ => true) = xs := List.filter_eq_self.mpr fun _ _ => rfl
set_option Elab.async false
set_option linter.all false
set_option maxRecDepth 100000
set_option maxHeartbeats 4000000
namespace GS
open PySem PySem.Spec PyProof.Rows L2
open PySem.Froz (SD sObj tailTx addTx TxOk)
section
variable {X : Cx}
/-- len(set) -/
def rLenSet (X : Cx) : List V → Hp → VK → Prop := fun vs H Q => ∃ (a : Addr) (l : List Str), vs = [V.ref a] ∧ H a = some (SetHO X.prog X.w a l) ∧ l.length < scanBound ∧ Q (.int l.length) H
theorem cr_lenSet : CallR X (.builtin "len") (rLenSet X) := by
  intro pins s σ H vs us Q I r h
  obtain ⟨a, l, rfl, ha, hb, q⟩ := h
  obtain ⟨⟨xs, n, tb⟩, ho, F, L, nd⟩ := (I.hok a _ ha).1
  rw [Vals.ref1 r]
  have hsz : xs.size = l.length := F.sz
  have hb' : l.length < 2 ^ 63 := Nat.lt_trans hb (by decide)
  refine call_len_set (es := xs) (ep := n) (t := tb) ho ⟨rfl, rfl, rfl⟩ rfl F.fit (by omega) ⟨.int l.length, H, I.tok _, ⟨_, by rw [hsz]⟩, q⟩
def rIsX : R2 := fun x y H Q => y = .non ∧ Q (.bl (decide (x = .non))) H
def rNotX : R2 := fun x y H Q => y = .non ∧ Q (.bl (!decide (x = .non))) H
theorem op_notX : OpR X (compareOp .IsNot) rNotX := op_notN
def rIsB : R2 := fun x y H Q => ∃ a b, x = .bl a ∧ y = .bl b ∧ Q (.bl (decide (a = b))) H
def rNotB : R2 := fun x y H Q => ∃ a b, x = .bl a ∧ y = .bl b ∧ Q (.bl (!decide (a = b))) H
end
end GS
namespace G
open PySem L2
section
variable {Z : Wd} {δ : List S} {te ta tb : TE} {Φ : D → List S → Prop} {Ψ : S → List S → Prop} {X : Cx}
/-- len(set(xs)) -/
theorem xe_lenSet (hK : X.K = Z.K) (h : XE Z te δ fun d δ1 => ∃ xs : List Str, (d = .lst (xs.map .str) ∨ d = .tup (xs.map .str)) ∧ xs.length < 4000 ∧ ∀ l : List Str, (∀ x, x ∈ l ↔ x ∈ xs) → l.Nodup → Φ (.int l.length) δ1) :
    XE Z (tCB (GS.rLenSet X) (tCons (tCB (GS.rSet X) (tCons te tNil)) tNil)) δ Φ := XE.mk fun B W M H σ Q I q =>
  h.run I fun M1 H1 δ1 x a h1 e1 I1 at1 => by
    obtain ⟨xs, hd, hx, f⟩ := h1
    have sq : ∃ p, x = .ref p ∧ (SqL X.K H1 p (xs.map V.str) ∨ SqT X.K H1 p (xs.map V.str)) := by
      rcases hd with rfl | rfl
      · cases at1 with
        | lst k l c =>
          have := AtL.strs (Z := Z) (M := M1) ⟨l, c⟩
          subst this
          exact ⟨_, rfl, .inl (SqL.of (I1.ex _ _ k))⟩
      · cases at1 with
        | tup k l c =>
          have := AtL.strs (Z := Z) (M := M1) ⟨l, c⟩
          subst this
          exact ⟨_, rfl, .inr (hK ▸ sqT_mono I1.ex k)⟩
    obtain ⟨p, rfl, sq⟩ := sq
    refine ⟨p, xs, rfl, sq, Nat.lt_of_le_of_lt (Nat.succ_le_of_lt hx) (by decide), fun a l1 ha m1 m2 nd => ?_⟩
    have hm := I1.ex.free ha
    have I2 : I3 Z B W M1 (upd H1 a (GS.SetHO X.prog X.w a l1)) σ δ1 := I1.other (I1.fresh ha) hm (I1.newOwn ha)
    refine ⟨a, l1, rfl, upd_same, Nat.lt_of_le_of_lt (Nat.le_trans m2 (Nat.le_of_lt hx)) (by decide), ?_⟩
    exact q M1 _ δ1 _ _ (f l1 m1 nd) e1 I2 .int
/-! ### is -/
def isNon : D → Bool | .non => true | _ => false
theorem xe_isN (h : XE Z ta δ fun a δ1 => Φ (.bl (isNon a)) δ1) : XE Z (tOp GS.rIsX ta (tC .non)) δ Φ := XE.mk fun B W M H σ Q I q =>
  h.run I fun M1 H1 δ1 x a h1 e1 I1 at1 => And.intro rfl (by
    have : decide (x = V.non) = isNon a := by cases at1 <;> simp [isNon]
    rw [this]
    exact q M1 H1 δ1 _ _ h1 e1 I1 .bl)
theorem xe_notN (h : XE Z ta δ fun a δ1 => Φ (.bl (!isNon a)) δ1) : XE Z (tOp GS.rNotX ta (tC .non)) δ Φ := XE.mk fun B W M H σ Q I q =>
  h.run I fun M1 H1 δ1 x a h1 e1 I1 at1 => And.intro rfl (by
    have : decide (x = V.non) = isNon a := by cases at1 <;> simp [isNon]
    rw [this]
    exact q M1 H1 δ1 _ _ h1 e1 I1 .bl)
theorem xe_isB (h : XE Z ta δ fun a δ1 => XE Z tb δ1 fun b δ2 => ∃ i j, a = .bl i ∧ b = .bl j ∧ Φ (.bl (decide (i = j))) δ2) : XE Z (tOp GS.rIsB ta tb) δ Φ := XE.mk fun B W M H σ Q I q =>
  h.run I fun M1 H1 δ1 x a h1 e1 I1 at1 => XE.run h1 I1 fun M2 H2 δ2 y b h2 e2 I2 at2 => by
    obtain ⟨i, j, rfl, rfl, f⟩ := h2
    cases at1; cases at2
    exact ⟨i, j, rfl, rfl, q M2 H2 δ2 _ _ f (e1.tr e2) I2 .bl⟩
theorem xe_notB (h : XE Z ta δ fun a δ1 => XE Z tb δ1 fun b δ2 => ∃ i j, a = .bl i ∧ b = .bl j ∧ Φ (.bl (!decide (i = j))) δ2) : XE Z (tOp GS.rNotB ta tb) δ Φ := XE.mk fun B W M H σ Q I q =>
  h.run I fun M1 H1 δ1 x a h1 e1 I1 at1 => XE.run h1 I1 fun M2 H2 δ2 y b h2 e2 I2 at2 => by
    obtain ⟨i, j, rfl, rfl, f⟩ := h2
    cases at1; cases at2
    exact ⟨i, j, rfl, rfl, q M2 H2 δ2 _ _ f (e1.tr e2) I2 .bl⟩
/-! ### an own list that is lent -/
end
end G
set_option Elab.async false
set_option linter.all false
set_option maxRecDepth 100000
set_option maxHeartbeats 4000000
namespace GS
open PySem PySem.Spec PyProof.Rows L2
section
variable {X : Cx}
def trueS (b : Bool) : Str := if b then "True" else "False"
def rRepB : List V → Hp → VK → Prop := fun vs H Q => ∃ b, vs = [V.bl b] ∧ Q (.str (trueS b)) H
end
end GS
namespace G
open PySem L2
section
variable {Z : Wd} {δ : List S} {te ta tb : TE} {Φ : D → List S → Prop} {X : Cx}
theorem xe_repB (h : XE Z te δ fun a δ1 => ∃ b, a = .bl b ∧ Φ (.str (GS.trueS b)) δ1) : XE Z (tCB GS.rRepB (tCons te tNil)) δ Φ := XE.mk fun B W M H σ Q I q =>
  h.run I fun M1 H1 δ1 x a h1 e1 I1 at1 => by
    obtain ⟨b, rfl, f⟩ := h1
    cases at1
    exact ⟨b, rfl, q M1 H1 δ1 _ _ f e1 I1 .str⟩
theorem units65 {k : Nat} {A : PySem.Around} (r : Room k A) : A.units + 65 < cLine := by have := r.un; omega
/-! ### in, of data -/
theorem xe_ninD (h : XE Z ta δ fun a δ1 => XE Z tb δ1 fun b δ2 => ∃ xs, b = .lst xs ∧ pla a = true ∧ plaL xs = true ∧ SeqAt.shaped (py a) = true ∧ SeqAt.shaped (py (.lst xs)) = true ∧ Φ (.bl (!(pyL xs).any fun z => PyData.eqv z (py a))) δ2) : XE Z (tOp (rNotInD Z.K) ta tb) δ Φ := XE.mk fun B W M H σ Q I q =>
  h.run I fun M1 H1 δ1 x a h1 e1 I1 at1 => XE.run h1 I1 fun M2 H2 δ2 y b h2 e2 I2 at2 => by
    obtain ⟨xs, rfl, pa, pb, sa, sb, f⟩ := h2
    exact ⟨_, _, At.dp a x (at1.mono e2) I2.ex pa, At.dp _ y at2 I2.ex pb, sa, sb, q M2 H2 δ2 _ _ f (e1.tr e2) I2 .bl⟩
theorem own_dp {M H : Hp} {p : Addr} {vs : List V} {xs : List D} (hp : H p = some (.lst vs)) (al : AtL Z M vs xs) (ex : Ex M H) (pl : plaL xs = true) : Dp Z.K H (.ref p) (py (.lst xs)) := .lst (SqL.of hp) (AtL.dp xs vs al ex pl)
theorem xe_ninDO {i : Nat} (h : XE Z ta δ fun a δ1 => ∃ xs, δ1[i]? = some (.own (.lst xs)) ∧ pla a = true ∧ plaL xs = true ∧ SeqAt.shaped (py a) = true ∧ SeqAt.shaped (py (.lst xs)) = true ∧ Φ (.bl (!(pyL xs).any fun z => PyData.eqv z (py a))) δ1) : XE Z (tOp (rNotInD Z.K) ta (tVar i)) δ Φ := XE.mk fun B W M H σ Q I q =>
  h.run I fun M1 H1 δ1 x a h1 e1 I1 at1 => by
    obtain ⟨xs, hi, pa, pb, sa, sb, f⟩ := h1
    obtain ⟨o, e, p, ho, rfl, hp, hy, hm⟩ := I1.sl i _ hi
    obtain ⟨vs, rfl, al⟩ := hy.lstI
    exact ⟨_, e, _, _, At.dp a x at1 I1.ex pa, own_dp hp al I1.ex pb, sa, sb, q M1 H1 δ1 _ _ f e1 I1 .bl⟩
/-! ### data that can be laid -/
def Lay (n : Nat) (d : D) : Prop := PyData.canLay0 (py d) = true ∧ (py d).depth ≤ n
theorem lay_all {n : Nat} : ∀ {xs : List D}, (∀ x ∈ xs, Lay n x) → PyData.canLayAll0 (pyL xs) = true ∧ PyData.depthAll (pyL xs) ≤ n
  | [], _ => ⟨rfl, Nat.zero_le _⟩
  | x :: xs, h => by
    have h1 := h x (by simp)
    have h2 := lay_all (xs := xs) fun y hy => h y (List.mem_cons_of_mem _ hy)
    refine ⟨?_, ?_⟩
    · show PyData.canLayAll0 (py x :: pyL xs) = true
      rw [PyData.canLayAll0.eq_2, h1.1, h2.1]; rfl
    · show PyData.depthAll (py x :: pyL xs) ≤ n
      rw [PyData.depthAll.eq_2]
      exact Nat.max_le.mpr ⟨h1.2, h2.2⟩
theorem lay_lst {n : Nat} {xs : List D} (h : ∀ x ∈ xs, Lay n x) : Lay (n + 1) (.lst xs) := by
  obtain ⟨a, b⟩ := lay_all h
  refine ⟨?_, ?_⟩
  · show PyData.canLay0 (PyData.list (pyL xs)) = true
    rw [PyData.canLay0.eq_5, a]
  · show (PyData.list (pyL xs)).depth ≤ n + 1
    unfold PyData.depth
    omega
theorem lay_tup {n : Nat} {xs : List D} (h : ∀ x ∈ xs, Lay n x) : Lay (n + 1) (.tup xs) := by
  obtain ⟨a, b⟩ := lay_all h
  refine ⟨?_, ?_⟩
  · show PyData.canLay0 (PyData.tuple (pyL xs)) = true
    rw [PyData.canLay0.eq_6, a]
  · show (PyData.tuple (pyL xs)).depth ≤ n + 1
    unfold PyData.depth
    omega
theorem lay_str {n : Nat} {s : Str} (h : PyData.strOk s = true) : Lay n (.str s) := ⟨(PyData.canLay0.eq_4 s).trans h, by show (PyData.str s).depth ≤ n; unfold PyData.depth; omega⟩
theorem Lay.shaped {n : Nat} {d : D} (h : Lay n d) (k : n ≤ 64) : SeqAt.shaped (py d) = true := by
  show (PyData.canLay0 (py d) && decide ((py d).depth ≤ 64)) = true
  rw [h.1, decide_eq_true (Nat.le_trans h.2 k)]; rfl
/-- a lot as a datum -/
def lotD (l : List Str) : D := .tup (l.map .str)
end
end G
set_option Elab.async false
set_option linter.all false
set_option maxRecDepth 100000
set_option maxHeartbeats 4000000
/-! tuple[::-1], tuple + tuple -/
namespace GR
open PySem PySem.Spec PyProof.Rows L2
theorem back_ends (n : Nat) : Builtin.Slice.sliceAdjust none none (-1) (n : Int) = ((n : Int) - 1, -1) := rfl
theorem back_count (n : Nat) : Builtin.Slice.slicePlaces ((n : Int) - 1) (-1) (-1) = n := by
  unfold Builtin.Slice.slicePlaces
  rw [if_neg (by omega)]
  split
  · have : (-(-1) : Int) = 1 := rfl
    rw [this, Int.ediv_one]; omega
  · omega
theorem fm_map {α β : Type} {f : α → Option β} {g : α → β} : ∀ {l : List α}, (∀ x ∈ l, f x = some (g x)) → l.filterMap f = l.map g
  | [], _ => rfl
  | x :: l, h => by
    rw [List.filterMap_cons, h x (by simp), List.map_cons, fm_map fun y hy => h y (List.mem_cons_of_mem _ hy)]
theorem back_pick (xs : Array Value) : ((List.range xs.size).filterMap fun (k : Nat) => xs[(((xs.size : Int) - 1) + (k : Int) * (-1)).toNat]?) = xs.toList.reverse := by
  have e : ((List.range xs.size).filterMap fun (k : Nat) => xs[(((xs.size : Int) - 1) + (k : Int) * (-1)).toNat]?) = (List.range xs.size).map fun (k : Nat) => xs.getD (xs.size - 1 - k) .none := by
    refine fm_map fun k hk => ?_
    have := List.mem_range.mp hk
    have e2 : (((xs.size : Int) - 1) + (k : Int) * (-1)).toNat = xs.size - 1 - k := by omega
    have hl : xs.size - 1 - k < xs.size := by omega
    rw [e2]
    simp [Array.getD_eq_getD_getElem?, hl]
  rw [e]
  apply List.ext_getElem?
  intro j
  by_cases hj : j < xs.size
  · rw [List.getElem?_map, List.getElem?_range hj, List.getElem?_reverse (by simpa using hj)]
    have : xs.size - 1 - j < xs.size := by omega
    simp [Array.getD_eq_getD_getElem?, this]
  · rw [List.getElem?_eq_none (by simp; omega), List.getElem?_eq_none (by simp; omega)]
section
variable {prog : Program} {w : World} {A : Around} {E : Value → Shared → Prop} {s : Shared}
theorem back_applied {sl : Addr} {v1 v2 v3 : Value} {n : Nat} {Q : Int × Int × Nat → Shared → Prop} (hs : s.heap.IsSliceOf sl v1 v2 v3) (p1 : IsPart v1 none) (p2 : IsPart v2 none) (p3 : IsPart v3 (some (-1)))
    (h : Q ((n : Int) - 1, -1, n) s) : wpAny (model prog w) A (Builtin.Slice.sliceApplied (.ref sl) (pure (n : Int))) Q E s := by
  obtain ⟨o, ho, hc, hd⟩ := id hs
  unfold Builtin.Slice.sliceApplied Builtin.Slice.sliceFields
  refine wpAny_bind <| wpAny_bind <| wpAny_field ho hd (x := v1) rfl <| wpAny_bind <| wpAny_field ho hd (x := v2) rfl <| wpAny_bind <| wpAny_field ho hd (x := v3) rfl <| wpAny_pure ?_
  refine wpAny_bind <| HT.slicePart_ p3 ?_
  show wpAny _ _ (if ((-1 : Int) == 0) = true then _ else _) Q E s
  rw [if_neg (by decide)]
  refine wpAny_bind <| HT.slicePart_ p1 <| wpAny_bind <| HT.slicePart_ p2 <| wpAny_bind <| wpAny_pure ?_
  show wpAny _ _ (match Builtin.Slice.sliceAdjust none none (-1) (n : Int) with | (i, j) => pure (i, (-1 : Int), Builtin.Slice.slicePlaces i j (-1))) Q E s
  rw [back_ends n]
  show wpAny _ _ (pure (((n : Int) - 1), (-1 : Int), Builtin.Slice.slicePlaces ((n : Int) - 1) (-1) (-1))) Q E s
  rw [back_count]
  exact wpAny_pure h
theorem back_item {t sl : Addr} {items : Array Value} {v1 v2 v3 : Value} {Q : Value → Shared → Prop} (ht : IsTup s.heap t items) (hs : s.heap.IsSliceOf sl v1 v2 v3) (p1 : IsPart v1 none) (p2 : IsPart v2 none) (p3 : IsPart v3 (some (-1)))
    (h : Q (.ref s.heap.objs.size) { s with heap := s.heap.push { cls := .type "tuple", data := .seq items.toList.reverse.toArray } }) (hz : items.size ≤ sizeLine) : wpAny (model prog w) A (getItem (.ref t) (.ref sl)) Q E s := by
  have room : sizeOk (.seq items.toList.reverse.toArray) := by
    show items.toList.reverse.toArray.size ≤ sizeLine
    simpa using hz
  obtain ⟨o, ho, hc, hd⟩ := id hs
  have ty : s.TypeIs (.ref sl) "slice" := ⟨o, ho, hc⟩
  unfold getItem
  try with_reducible refine wpAny_holding ?_
  first | refine wpAny_bind (wpAny_pure ?_) | skip
  refine wpAny_bind <| wpAny_sequenceKey ht.typeIs (by decide) ?_
  refine wpAny_bind <| wpAny_callSpecial?_slot (name := Str.ofString "__getitem__") ht.typeIs PyProof.Rows.slot_tuple_getitem <| wpAny_call_entry PyProof.Rows.slot_tuple_getitem ht.typeIs entry_tuple_getitem ?_ (args_tuple_getitem _ _)
  show wpAny _ _ (Builtin.Tuple.tupleItemsOf (.ref t) >>= _) _ _ s
  refine wpAny_bind <| tupleItemsOf_ ht ?_
  refine wpAny_bind <| wpAny_typeOf ty ?_
  rw [if_pos (by decide)]
  refine wpAny_bind <| back_applied hs p1 p2 p3 ?_
  show wpAny _ _ (if ((((items.size : Int) - 1) == 0) && (-1 : Int) == 1 && items.size == items.size) = true then _ else _) _ _ s
  have no : ¬ (((((items.size : Int) - 1) == 0) && (-1 : Int) == 1 && items.size == items.size) = true) := by
    intro q
    rw [Bool.and_eq_true, Bool.and_eq_true] at q
    exact absurd q.1.2 (by decide)
  rw [if_neg no, back_pick]
  first
    | exact wpAny_bind (m := Builtin.Tuple.tupleExact _) (wpAny_newObj_type (wpAny_pure ⟨_, rfl, wpAny_pure h⟩) room)
    | exact wpAny_bind (m := Builtin.Tuple.tupleExact _) (wpAny_newObj_type (wpAny_bind (wpAny_pure (wpAny_pure ⟨_, rfl, wpAny_pure h⟩))) room)
    | exact wpAny_bind (wpAny_bind (m := Builtin.Tuple.tupleExact _) (wpAny_newObj_type (wpAny_pure (wpAny_pure ⟨_, rfl, wpAny_pure h⟩)) room))
    | exact wpAny_bind (wpAny_bind (m := Builtin.Tuple.tupleExact _) (wpAny_newObj_type (wpAny_pure ⟨_, rfl, wpAny_pure h⟩) room))
end
def tBack (K : PySem.W.Frag) (te : TE) : TE := fun σ H Q => te σ H fun x H1 => ∃ a xs, x = .ref a ∧ SqT K H1 a xs ∧ ∀ p, H1 p = none → Q (.ref p) (upd H1 p (.tup xs.reverse))
section
variable {X : Cx}
theorem pe_back {e : Expr} {te : TE} {k : Nat} {q1 q2 q3 pos : Pos} (he : PE X e te) : PE X (.Subscript e (.Slice none none (some (.UnaryOp .USub (.Constant (.int 1) k q1) q2)) q3) pos) (tBack X.K te) := by
  refine ⟨fun pins s σ H Q I h => ?_⟩
  refine Subscript_ <| thn (he.run pins s σ H _ I h) fun v s1 ⟨x, H1, I1, r1, c1⟩ => ?_
  obtain ⟨a, xs, rfl, hx, q⟩ := c1
  cases r1
  have st : PO X (some (.UnaryOp .USub (.Constant (.int 1) k q1) q2)) (tPart (tUn (rU fun i => .int (-i)) (tC (.int 1)))) := po_some (pe_un un_neg pe_int)
  refine wpAny_Slice <| thn (po_none.run pins s1 σ H1 (fun o Z => o = none ∧ Z = H1) I1 ⟨rfl, rfl⟩) fun vl s2 ⟨l, H2, I2, pl, el, e2⟩ => ?_
  subst el e2
  refine thn (po_none.run pins s2 σ H2 (fun o Z => o = none ∧ Z = H2) I2 ⟨rfl, rfl⟩) fun vu s3 ⟨u, H3, I3, pu, eu, e3⟩ => ?_
  subst eu e3
  refine thn (st.run pins s3 σ H3 (fun o Z => o = some (-1) ∧ Z = H3) I3 ⟨1, rfl, -1, rfl, rfl, rfl⟩) fun vs s4 ⟨o, H4, I4, ps, eo, e4⟩ => ?_
  subst eo e4
  have I5 : Inv X pins σ H4 { s4 with heap := s4.heap.push { cls := .type "slice", data := .fields #[vl, vu, vs] } } := I4.kept (t' := s4.toks) fun b ob z => Heap.get?_push_of_some _ z
  obtain ⟨its, r, ht, hz⟩ := I5.tuple hx
  have len := r.length
  show wpAny (model X.prog X.w) X.A (subscriptTail e (.Slice none none (some (.UnaryOp .USub (.Constant (.int 1) k q1) q2)) q3) (.ref a) (.ref s4.heap.objs.size)) (EP X pins σ Q) X.xe { s4 with heap := s4.heap.push { cls := .type "slice", data := .fields #[vl, vu, vs] } }
  refine tail_any (ops := [.ref a, .ref s4.heap.objs.size]) ht.typeIs PyProof.Rows.slot_tuple_getitem.lookup ?_ (by with_unfolding_all rfl)
  refine back_item ht (Heap.IsSliceOf.new _ vl vu vs) pl pu ps ?_ (by rw [List.size_toArray]; omega)
  refine ⟨.ref _, _, I5.laid (t' := s4.toks) (o := .tup xs.reverse) (fun b ob z => Heap.get?_push_of_some _ z) (Nat.le_refl _) ?_, rfl, q _ (I5.hok.fresh (Nat.le_refl _))⟩
  exact ⟨by rw [List.length_reverse]; exact hz, _, r.reverse, IsTup.new _ _⟩
end
end GR
namespace G
open PySem L2
section
variable {Z : Wd} {δ : List S} {te ta tb : TE} {Φ : D → List S → Prop}
theorem AtL.rev {M : Hp} {vs : List V} {ds : List D} (h : AtL Z M vs ds) : AtL Z M vs.reverse ds.reverse := ⟨by simp [h.len], fun i v d a b => by
  have li : i < vs.length := by have := (List.getElem?_eq_some_iff.mp a).1; simpa using this
  rw [List.getElem?_reverse li] at a
  rw [List.getElem?_reverse (h.len ▸ li), ← h.len] at b
  exact h.at' _ v d a b⟩
theorem xe_back (h : XE Z te δ fun d δ1 => ∃ xs, d = .tup xs ∧ Φ (.tup xs.reverse) δ1) : XE Z (GR.tBack Z.K te) δ Φ := XE.mk fun B W M H σ Q I q =>
  h.run I fun M1 H1 δ1 x a h1 e1 I1 at1 => by
    obtain ⟨xs, rfl, f⟩ := h1
    cases at1 with
    | tup k l c =>
      refine ⟨_, _, rfl, sqT_mono I1.ex k, fun p hp => ?_⟩
      exact newT I1 hp (AtL.rev ⟨l, c⟩) f e1 q
/-- t + u -/
theorem xe_catA (h : XE Z ta δ fun a δ1 => XE Z tb δ1 fun b δ2 => ∃ xs ys, a = .tup xs ∧ b = .tup ys ∧ xs.length + ys.length ≤ 1000000 ∧ Φ (.tup (xs ++ ys)) δ2) : XE Z (tOp (rCatA Z.K) ta tb) δ Φ := XE.mk fun B W M H σ Q I q =>
  h.run I fun M1 H1 δ1 x a h1 e1 I1 at1 => XE.run h1 I1 fun M2 H2 δ2 y b h2 e2 I2 at2 => by
    obtain ⟨xs, ys, rfl, rfl, hl, f⟩ := h2
    have at1 := at1.mono e2
    cases at1 with
    | tup k1 l1 c1 =>
      cases at2 with
      | tup k2 l2 c2 =>
        rename_i a vs b us
        refine ⟨_, _, _, _, rfl, rfl, sqT_mono I2.ex k1, sqT_mono I2.ex k2, Nat.le_trans (by rw [l1, l2]; exact hl) (by decide), fun e => ?_, fun e1' e => ?_, fun _ _ p hp => ?_⟩
        · subst e
          have : xs = [] := List.eq_nil_of_length_eq_zero (by simpa using l1.symm)
          subst this
          exact q M2 H2 δ2 _ _ f (e1.tr e2) I2 (.tup k2 l2 c2)
        · subst e
          have : ys = [] := List.eq_nil_of_length_eq_zero (by simpa using l2.symm)
          subst this
          rw [List.append_nil] at f
          exact q M2 H2 δ2 _ _ f (e1.tr e2) I2 (.tup k1 l1 c1)
        · exact newT I2 hp (AtL.app ⟨l1, c1⟩ ⟨l2, c2⟩) f (e1.tr e2) q
end
end G
set_option Elab.async false
set_option linter.all false
set_option maxRecDepth 100000
set_option maxHeartbeats 4000000
/-! slices of a list or a tuple; data of ints compared -/
namespace GR
open PySem L2
def rSlS (K : PySem.W.Frag) : V → Option Int → Option Int → Hp → VK → Prop := fun x lo hi H Q => rSlL K x lo hi H Q ∨ rSlA K x lo hi H Q
theorem sl_seq {X : Cx} : SlR X (rSlS X.K) := SlR.or sl_list sl_tupA
end GR
namespace G
open PySem L2
section
variable {Z : Wd} {B : Bas} {W : List (Nat × Addr)} {M H : Hp} {σ : St} {δ : List S} {te tb : TE} {Φ : D → List S → Prop} {tl th : TO}
theorem cut_all {α : Type} {xs : List α} {lo hi : Option Int} (h : HT.sIx xs.length 0 lo = 0 ∧ HT.sIx xs.length xs.length hi = xs.length) : cut xs lo hi = xs := by
  unfold cut
  rw [h.1, h.2]; simp
theorem xe_slA (h : XE Z te δ fun a δ1 => XP Z tl δ1 fun lo δ2 => XP Z th δ2 fun hi δ3 => ∃ xs, a = .tup xs ∧ Φ (.tup (cut xs lo hi)) δ3) : XE Z (tSl (rSlA Z.K) te tl th) δ Φ := XE.mk fun B W M H σ Q I q =>
  h.run I fun M1 H1 δ1 x a h1 e1 I1 at1 => h1 B W M1 H1 σ _ I1 fun M2 H2 δ2 lo h2 e2 I2 => h2 B W M2 H2 σ _ I2 fun M3 H3 δ3 hi h3 e3 I3 => by
    obtain ⟨xs, rfl, f⟩ := h3
    cases at1.mono (e2.tr e3) with
    | @tup _ vs _ h l c =>
      refine ⟨_, _, rfl, sqT_mono I3.ex h, fun w => ?_, fun w p hp => newT I3 hp (AtL.cut lo hi ⟨l, c⟩) f (e1.tr (e2.tr e3)) q⟩
      rw [cut_all (by rw [← l]; exact w)] at f
      exact q M3 H3 δ3 _ _ f (e1.tr (e2.tr e3)) I3 (.tup h l c)
/-- of either -/
def cutD : D → Option Int → Option Int → Option D
  | .lst xs, lo, hi => some (.lst (cut xs lo hi))
  | .tup xs, lo, hi => some (.tup (cut xs lo hi))
  | _, _, _ => none
theorem xe_slS (h : XE Z te δ fun a δ1 => XP Z tl δ1 fun lo δ2 => XP Z th δ2 fun hi δ3 => ∃ d, cutD a lo hi = some d ∧ Φ d δ3) : XE Z (tSl (GR.rSlS Z.K) te tl th) δ Φ := XE.mk fun B W M H σ Q I q =>
  h.run I fun M1 H1 δ1 x a h1 e1 I1 at1 => h1 B W M1 H1 σ _ I1 fun M2 H2 δ2 lo h2 e2 I2 => h2 B W M2 H2 σ _ I2 fun M3 H3 δ3 hi h3 e3 I3 => by
    obtain ⟨d, hd, f⟩ := h3
    cases at1.mono (e2.tr e3) with
    | @tup _ vs _ h l c =>
      cases hd
      refine .inr ⟨_, _, rfl, sqT_mono I3.ex h, fun w => ?_, fun w p hp => newT I3 hp (AtL.cut lo hi ⟨l, c⟩) f (e1.tr (e2.tr e3)) q⟩
      rw [cut_all (by rw [← l]; exact w)] at f
      exact q M3 H3 δ3 _ _ f (e1.tr (e2.tr e3)) I3 (.tup h l c)
    | @lst _ vs _ h l c =>
      cases hd
      refine .inl ⟨_, _, rfl, SqL.of (I3.ex _ _ h), fun p hp => ?_⟩
      have hm := I3.ex.free hp
      exact q _ _ δ3 _ _ f ((e1.tr (e2.tr e3)).tr (Ex.new hm)) (I3.grow hp) (.lst upd_same (AtL.cut lo hi ⟨l, c⟩).len ((AtL.cut lo hi ⟨l, c⟩).mono (Ex.new hm)).at')
    | _ => cases hd
end
/-! ints compared -/
theorem lay_int {n : Nat} {i : Int} : Lay n (.int i) := ⟨by show PyData.canLay0 (.int i) = true; unfold PyData.canLay0; rfl, by show (PyData.int i).depth ≤ n; unfold PyData.depth; omega⟩
end G
set_option Elab.async false
set_option linter.all false
set_option maxRecDepth 100000
set_option maxHeartbeats 4000000
/-! errors: raised, let through, caught -/
namespace GX
open PySem PySem.Spec PyProof.Rows L2
/-- an error's __init__ with one field -/
def spErr (K : PySem.W.Frag) (f : Str) : Sp := fun vs H Q _ => ∃ (a C : Addr) (v : V), vs = [.ref a, v] ∧ OexC K C ∧ PySem.W.findIn K (.ref C) f = some none ∧ H a = some (exo a C none) ∧
  ∀ d, H d = none → d ≠ a → Q .non (upd (upd H d (exd d [(f, v)])) a (exo a C (some d)))
def tRaiseO (C : Addr) (sp : Sp) (W : WX) (ta : TA) : TS := fun _ σ H => tMkO C sp [] ta σ H fun cls d H' => W cls d σ H'
section
variable {X : Cx} {CX : CXT} {k : Nat} {C fI : Addr} {fd : FuncData} {ps : List Str} {sp : Sp} {x : Str} {p pos pos2 : Pos} {e : Expr} {es : List Expr} {t : TA} {W : WX}
theorem ps_raiseO (hc : X.calm = true) (tk : Takes X W) (o : OexC X.K C) (i1 : PySem.W.findIn X.K (.ref C) "__init__" = some (some (.ref fI))) (i2 : PySem.W.typeIn X.K (.ref fI) = some (.type "function")) (F : FnOk X.prog X.w X.K X.mg X.base CX0 k fI fd ps sp) (hr : Room (k + 1) X.A)
    (b : Binds X.K fd ps []) (hg : Gl X x) (hm : X.mg x = some (.ref C)) (ha : PA X (e :: es) t) (hdb : (x == ("__debug__" : Str)) = false := by decide)
    (he : starEach (e :: es) X.env = (false, eval e X.env) :: starEach es X.env := by rfl) (hpl : (backTo pos (starEach es X.env)).any (·.1) = false := by rfl) :
    PS X (.Raise (some (.Call (.Name x p) (e :: es) [] pos)) none pos2) (tRaiseO C sp W t) :=
  ps_raise hc tk (pmk_oex o i1 i2 F hr b .nil pass0 hg hm ha hdb he hpl)
/-! a new instance whose __init__ may raise, wished for at the slots -/
variable {dvs : List V} {ds : List Value} {E : L2.St → XK} {f : Addr}
/-! isinstance(e, c), e the error that the suite holds, with its own dict -/
def rIsED (K : PySem.W.Frag) (a : Addr) (cls : Value) (d : Option Addr) (D : Addr) : List V → Hp → VK → Prop := fun xs H Q => cls = .ref D ∧ ∃ (dd : Addr) (fs : List (Str × V)) (c : V) (cv : Value) (b : Bool), d = some dd ∧ H dd = some (.xd fs) ∧ xs = [.ref a, c] ∧ (∀ u, RelV c u → u = cv) ∧ PySem.W.kitOne K (.ref D) cv = some b ∧ Q (.bl b) H
theorem call_isED {K : PySem.W.Frag} (hK : X.K = K) {a D : Addr} {oe : Obj} {cls : Value} {d : Option Addr} {pn : List (Addr × Obj)} (C : ExcC K D) (hz : Zc cls d oe) (hf : ∃ vs, oe.data = .fields vs) : CallR (X.suite a ((a, oe) :: pn)) (.builtin "isinstance") (rIsED K a cls d D) := by
  subst hK
  intro pins s σ H xs us Q I rr h
  obtain ⟨ec, dd, fs, c, cv, b, ed, ea, rfl, hcv, e, q⟩ := h
  subst ec; subst ed
  match us, rr with
  | [_, _], .cons rx (.cons rt .nil) =>
    cases rx
    cases hcv _ rt
    obtain ⟨there, _⟩ := I.pin (a, oe) (List.mem_append.mpr (.inl List.mem_cons_self))
    obtain ⟨vs, hv⟩ := hf
    have own : ObjOk X.prog X.w H s.heap dd (.xd fs) := I.hok dd _ ea
    obtain ⟨mA, hns, _⟩ := own
    obtain ⟨od, ho, _⟩ := lookIn_ns hns
    have J : PySem.W.InstAt s.heap a oe D (some od) := ⟨there, hz.1, by unfold PySem.W.notCls; rw [hv] <;> rfl, by rw [hz.2]; exact ho⟩
    have cl : (PySem.W.clsIn X.K D).isSome = true := by obtain ⟨cd, hc, _⟩ := PySem.W.any_some C.hd; rw [hc]; rfl
    exact PySem.W.kia_one (PySem.W.kitx_exc cl C.hg C.hk C.hs C.ha C.hn C.ht C.hm) I.kIn J e (fun z => nomatch z) fun tk => ⟨.bl b, H, I.kept (t' := tk) fun _ _ z => z, rfl, q⟩
end
end GX
namespace G
open PySem L2
section
variable {Z : Wd} {M H M' H' : Hp} {B : Bas} {W : List (Nat × Addr)} {σ : St} {δ : List S}
variable {te ta tb : TE} {Φ : D → List S → Prop} {Ψ : S → List S → Prop} {Ω : OD → List S → Prop} {Λ : List D → List S → Prop} {ts : TA} {bs : List Nat} {P : Po}
abbrev XX := Bas → List (Nat × Addr) → Hp → Prop
/-- the wish of an error of the class number c with the datum x is granted -/
def XW (Z : Wd) (Wx : WX) (X : XX) (c : Nat) (x : D) (δ : List S) : Prop :=
  ∀ B W M H σ d v, X B W M → I3 Z B W M H σ δ → M d = some (.xd [((Z.er c).2, v)]) → At Z M v x → Wx (.ref (Z.er c).1) (some d) σ H
theorem xs_raise {c : Nat} {Wx : WX} (o : OexC Z.K (Z.er c).1) (n : PySem.W.findIn Z.K (.ref (Z.er c).1) (Z.er c).2 = some none) (h : XE Z te δ fun x δ' => XW Z Wx P.X c x δ') :
    XS Z bs (GX.tRaiseO (Z.er c).1 (GX.spErr Z.K (Z.er c).2) Wx (tCons te tNil)) δ P := fun B W M H σ E hb I e => by
  refine h.run I fun M1 H1 δ1 v x h1 e1 I1 at1 => ?_
  refine ⟨by simp, fun a ha => ⟨a, (Z.er c).1, v, rfl, o, n, upd_same, fun d hd hda => ⟨rfl, d, _, upd_same, by rw [upd_ne hda, upd_same], by rwa [upd_ne hda] at hd, ?_⟩⟩⟩
  have hd1 : H1 d = none := by rwa [upd_ne hda] at hd
  have eq : upd (L2.del (upd (upd (upd H1 a (exo a (Z.er c).1 none)) d (exd d [((Z.er c).2, v)])) a (exo a (Z.er c).1 (some d))) a) d (.xd [((Z.er c).2, v)]) = upd H1 d (.xd [((Z.er c).2, v)]) := by
    funext b
    by_cases z : b = d
    · subst z; rw [upd_same, upd_same]
    · rw [upd_ne z, upd_ne z]
      by_cases y : b = a
      · subst y; rw [del_same, ha]
      · rw [del_ne y, upd_ne y, upd_ne z, upd_ne y]
  show Wx (.ref (Z.er c).1) (some d) σ (upd (L2.del _ a) d (.xd _))
  rw [eq]
  have hm : M1 d = none := I1.ex.free hd1
  exact h1 B W _ _ σ d v (e.xc _ (e1.tr (Ex.new hm))) (I1.grow hd1) upd_same (at1.mono (Ex.new hm))
/-! ### contracts of defs that may raise -/
abbrev FRX := List D → (S → Prop) → (Nat → D → Prop) → Prop
abbrev FBX := OD → List D → (S → OD → Prop) → (Nat → D → OD → Prop) → Prop
def spRX (Z : Wd) (F : FRX) : Sp := fun vs H Q E => ∃ M ds Φ Ξ, Ex M H ∧ AtL Z M vs ds ∧ F ds Φ Ξ ∧
  (∀ M' H' v s, Φ s → Ex M M' → Ex M' H' → Ex H H' → (∀ p o, H p = some o → M p = none → NT o → M' p = none) → RetOk Z ⟨H, M⟩ M' H' v s → Q v H') ∧
  ∀ M' H' c d v x, Ξ c x → Ex M M' → Ex M' H' → Ex H H' → (∀ p o, H p = some o → M p = none → NT o → M' p = none) → M' d = some (.xd [((Z.er c).2, v)]) → At Z M' v x → E (.ref (Z.er c).1) (some d) H'
def spBX (Z : Wd) (F : FBX) : Sp := fun vs H Q E => ∃ M p ws ho y ds Φ Ξ, vs = .ref p :: ws ∧ H p = some ho ∧ M p = none ∧ ODAt Z M ho y ∧ Ex M H ∧ AtL Z M ws ds ∧ F y ds Φ Ξ ∧
  (∀ M' H' v s ho' y', Φ s y' → Ex M M' → Ex M' H' → (∀ a o, a ≠ p → H a = some o → H' a = some o) → (∀ p o, H p = some o → M p = none → NT o → M' p = none) → H' p = some ho' → ODAt Z M' ho' y' → RetOk Z ⟨H, M⟩ M' H' v s → Q v H') ∧
  ∀ M' H' c d v x ho' y', Ξ c x y' → Ex M M' → Ex M' H' → (∀ a o, a ≠ p → H a = some o → H' a = some o) → (∀ p o, H p = some o → M p = none → NT o → M' p = none) → H' p = some ho' → ODAt Z M' ho' y' → M' d = some (.xd [((Z.er c).2, v)]) → At Z M' v x → E (.ref (Z.er c).1) (some d) H'
/-- an expression that may raise -/
def XRX (Z : Wd) (X : XX) (te : TE) (δ : List S) (Ψ : S → List S → Prop) : Prop :=
  ∀ B W M H σ (Q : VK), I3 Z B W M H σ δ → (∀ M', Ex M M' → X B W M') → (∀ M' H' δ' v s, Ψ s δ' → Ex M M' → I3 Z B W M' H' σ δ' → ResOk Z B M' H' σ δ' v s → Q v H') → te σ H Q
theorem xrx_call {F : FRX} {dvs : List V} {dds : List D} {Wx : WX} {X : XX} (hd : ∀ M : Hp, AtL Z M dvs dds) (h : XA Z ts δ fun ds δ1 => F (ds ++ dds) (fun s => Ψ s δ1) fun c x => XW Z Wx X c x δ1) : XRX Z X (tCallSD (spRX Z F) dvs (WE Wx) ts) δ Ψ := fun B W M H σ Q I hX q =>
  h B W M H σ _ I fun M1 H1 δ1 vs ds h1 e1 I1 al =>
    ⟨M1, ds ++ dds, _, _, I1.ex, al.app (hd M1), h1, fun M' H' v s f a1 a2 a3 a4 r => q M' H' δ1 v s f (e1.tr a1) (I1.after a1 a2 a3 a4) (ret_res I1 (fun _ _ o => o) r),
      fun M' H' c d v x f a1 a2 a3 a4 hd av => f B W M' H' σ d v (hX _ (e1.tr a1)) (I1.after a1 a2 a3 a4) hd av⟩
theorem xs_dropX (h : XRX Z P.X te δ (onD fun _ δ' => P.N δ')) : XS Z bs (tDrop te) δ P := fun B W M H σ E hb I e =>
  h B W M H σ _ I e.xc fun M' H' δ' v s h1 e1 I1 r => by
    cases s with
    | d x => exact e.nx _ _ _ _ h1 e1 I1
    | _ => exact h1.elim
/-! ### a def's body that may raise -/
def XR0 (H M : Hp) : XX := fun B W M' => B = ⟨H, M⟩ ∧ W = [] ∧ Ex M M'
def XB0 (H M : Hp) (p : Addr) : XX := fun B W M' => B = ⟨H, M⟩ ∧ W = [(0, p)] ∧ Ex M M'
theorem xw_R {E : XK} {Ξ : Nat → D → Prop} (qx : ∀ M' H' c d v x, Ξ c x → Ex M M' → Ex M' H' → Ex H H' → (∀ p o, H p = some o → M p = none → NT o → M' p = none) → M' d = some (.xd [((Z.er c).2, v)]) → At Z M' v x → E (.ref (Z.er c).1) (some d) H') {c : Nat} {x : D} (h : Ξ c x) :
    XW Z (fun cls d _ H' => E cls d H') (XR0 H M) c x δ := fun B W M' H' σ d v ⟨b, w, ex⟩ I hd a => by
  subst b; subst w
  exact qx M' H' c d v x h ex I.ex (fun a o e => I.keep a o e (by simp)) I.mg hd a
theorem xw_B {E : XK} {p : Addr} {y' : OD} {Ξ : Nat → D → OD → Prop} (qx : ∀ M' H' c d v x ho' y', Ξ c x y' → Ex M M' → Ex M' H' → (∀ a o, a ≠ p → H a = some o → H' a = some o) → (∀ p o, H p = some o → M p = none → NT o → M' p = none) → H' p = some ho' → ODAt Z M' ho' y' → M' d = some (.xd [((Z.er c).2, v)]) → At Z M' v x → E (.ref (Z.er c).1) (some d) H') {c : Nat} {x : D} (hy : δ[0]? = some (.own y')) (h : Ξ c x y') :
    XW Z (fun cls d _ H' => E cls d H') (XB0 H M p) c x δ := fun B W M' H' σ d v ⟨b, w, ex⟩ I hd a => by
  subst b; subst w
  have hO := I.bor 0 p List.mem_cons_self
  obtain ⟨ho', h2, h3, _⟩ := I.ownO hO hy
  exact qx M' H' c d v x ho' y' h ex I.ex (fun a o hne e => I.keep a o e fun i hi => by
    have := List.mem_singleton.mp hi
    cases this; exact hne rfl) I.mg h2 h3 hd a
theorem entRX {ts : TS} {N : List Str} {vs : List V} {Q : VK} {n : Nat} {ds : List D} {Φ : S → Prop} (ex : Ex M H) (al : AtL Z M vs ds) (hn : N.length = ds.length + n)
    (q : ∀ M' H' v s, Φ s → Ex M M' → Ex M' H' → Ex H H' → (∀ p o, H p = some o → M p = none → NT o → M' p = none) → RetOk Z ⟨H, M⟩ M' H' v s → Q v H')
    (hx : XS Z [] ts (ds.map .d ++ List.replicate n .no) { N := fun _ => Φ (.d .non), R := fun s _ => Φ s, X := XR0 H M }) : ts { nx := fun _ H' => Q .non H', rt := Q } (L2.start N vs) H := by
  have hlen := al.len
  have noOwn : ∀ i p, ¬ Own (L2.start N vs) (ds.map S.d ++ List.replicate n S.no) i p := fun i p => Own.plain
  have I : I3 Z ⟨H, M⟩ [] M H (L2.start N vs) (ds.map S.d ++ List.replicate n S.no) := by
    refine ⟨ex, fun _ _ _ e _ => e, fun _ _ e _ => e, ?_, fun i s e => ?_, fun i p w => by simp at w, fun i p o => absurd o (noOwn i p), fun i j p o => absurd o (noOwn i p)⟩
    · unfold L2.start; simp; omega
    · by_cases hi : i < ds.length
      · rw [List.getElem?_append_left (by simp [hi]), List.getElem?_map] at e
        cases e1 : ds[i]? with
        | none => rw [e1] at e; cases e
        | some d =>
          rw [e1] at e; cases e
          obtain ⟨v, e2, a⟩ := al.get e1
          refine ⟨some v, ?_, v, rfl, a⟩
          unfold L2.start
          rw [List.getElem?_append_left (by simp; omega), List.getElem?_map, e2]; rfl
      · rw [List.getElem?_append_right (by simp; omega), List.getElem?_replicate] at e
        split at e
        · rename_i h1
          cases e
          refine ⟨none, ?_, trivial⟩
          unfold L2.start
          rw [List.getElem?_append_right (by simp; omega), List.getElem?_replicate, if_pos (by simp at h1 ⊢; omega)]
        · cases e
  have fin : ∀ M' H' σ' δ', I3 Z ⟨H, M⟩ [] M' H' σ' δ' → Ex H H' := fun M' H' σ' δ' J a o e => J.keep a o e fun i hi => by simp at hi
  refine hx ⟨H, M⟩ [] M H _ _ rfl I ⟨fun M' H' σ' δ' p e J => q M' H' .non (.d .non) p e J.ex (fin _ _ _ _ J) J.mg .non, fun M' H' σ' δ' v s p e J r => q M' H' v s p e J.ex (fin _ _ _ _ J) J.mg r, fun _ _ _ _ f => f.elim, fun _ _ _ _ f => f.elim, fun M2 x => ⟨rfl, rfl, x⟩⟩
theorem entBX {ts : TS} {N : List Str} {ws : List V} {p : Addr} {ho : HO} {y : OD} {Q : VK} {n : Nat} {ds : List D} {Φ : S → OD → Prop} (hp : H p = some ho) (hm : M p = none) (hy : ODAt Z M ho y) (ex : Ex M H) (al : AtL Z M ws ds) (hn : N.length = ds.length + 1 + n)
    (q : ∀ M' H' v s ho' y', Φ s y' → Ex M M' → Ex M' H' → (∀ a o, a ≠ p → H a = some o → H' a = some o) → (∀ p o, H p = some o → M p = none → NT o → M' p = none) → H' p = some ho' → ODAt Z M' ho' y' → RetOk Z ⟨H, M⟩ M' H' v s → Q v H')
    (hx : XS Z [0] ts (.own y :: (ds.map .d ++ List.replicate n .no)) { N := fun δ' => ∃ y', δ'[0]? = some (.own y') ∧ Φ (.d .non) y', R := fun s δ' => ∃ y', δ'[0]? = some (.own y') ∧ Φ s y', X := XB0 H M p }) : ts { nx := fun _ H' => Q .non H', rt := Q } (L2.start N (.ref p :: ws)) H := by
  have hlen := al.len
  have only : ∀ i q, Own (L2.start N (V.ref p :: ws)) (S.own y :: (ds.map S.d ++ List.replicate n S.no)) i q → i = 0 ∧ q = p := fun i q o => by
    obtain ⟨r, y', e0, e, c⟩ := o
    cases i with
    | zero =>
      have : some (some (V.ref p)) = some (some (V.ref r)) := e0
      cases this
      cases e; exact ⟨rfl, c⟩
    | succ i =>
      rw [List.getElem?_cons_succ] at e
      exact (plain_no e _ _ c).elim
  have I : I3 Z ⟨H, M⟩ [(0, p)] M H (L2.start N (V.ref p :: ws)) (S.own y :: (ds.map S.d ++ List.replicate n S.no)) := by
    refine ⟨ex, fun _ _ _ e _ => e, fun _ _ e _ => e, ?_, fun i s e => ?_, fun i q w => ?_, fun i q o => ?_, fun i j q o o' => ?_⟩
    · unfold L2.start; simp; omega
    · cases i with
      | zero => cases e; exact ⟨some (.ref p), rfl, p, ho, rfl, hp, hy, hm⟩
      | succ i =>
        rw [List.getElem?_cons_succ] at e
        have es : (L2.start N (V.ref p :: ws))[i + 1]? = (ws.map some ++ List.replicate n (none : Option V))[i]? := by
          unfold L2.start
          have : N.length - (V.ref p :: ws).length = n := by simp; omega
          rw [this]; rfl
        rw [es]
        by_cases hi : i < ds.length
        · rw [List.getElem?_append_left (by simp [hi]), List.getElem?_map] at e
          cases e1 : ds[i]? with
          | none => rw [e1] at e; cases e
          | some d =>
            rw [e1] at e; cases e
            obtain ⟨v, e2, a⟩ := al.get e1
            refine ⟨some v, ?_, v, rfl, a⟩
            rw [List.getElem?_append_left (by simp; omega), List.getElem?_map, e2]; rfl
        · rw [List.getElem?_append_right (by simp; omega), List.getElem?_replicate] at e
          split at e
          · rename_i h1
            cases e
            refine ⟨none, ?_, trivial⟩
            rw [List.getElem?_append_right (by simp; omega), List.getElem?_replicate, if_pos (by simp at h1 ⊢; omega)]
          · cases e
    · have := List.mem_singleton.mp w
      cases this
      exact Own.mk rfl rfl
    · obtain ⟨rfl, rfl⟩ := only i q o
      exact .inl List.mem_cons_self
    · rw [(only i q o).1, (only j q o').1]
  have fin : ∀ M' H' σ' δ' y', I3 Z ⟨H, M⟩ [(0, p)] M' H' σ' δ' → δ'[0]? = some (.own y') → (∀ a o, a ≠ p → H a = some o → H' a = some o) ∧ ∃ ho', H' p = some ho' ∧ ODAt Z M' ho' y' := fun M' H' σ' δ' y' J e => by
    refine ⟨fun a o hne e => J.keep a o e fun i hi => ?_, ?_⟩
    · have := List.mem_singleton.mp hi
      cases this; exact hne rfl
    · have hO := J.bor 0 p List.mem_cons_self
      obtain ⟨ho', h2, h3, _⟩ := J.ownO hO e
      exact ⟨ho', h2, h3⟩
  refine hx ⟨H, M⟩ [(0, p)] M H _ _ rfl I ⟨fun M' H' σ' δ' f e J => ?_, fun M' H' σ' δ' v s f e J r => ?_, fun _ _ _ _ f => f.elim, fun _ _ _ _ f => f.elim, fun M2 x => ⟨rfl, rfl, x⟩⟩
  · obtain ⟨y', hy', f⟩ := f
    obtain ⟨k1, ho', k2, k3⟩ := fin _ _ _ _ _ J hy'
    exact q M' H' .non (.d .non) ho' y' f e J.ex k1 J.mg k2 k3 .non
  · obtain ⟨y', hy', f⟩ := f
    obtain ⟨k1, ho', k2, k3⟩ := fin _ _ _ _ _ J hy'
    exact q M' H' v s ho' y' f e J.ex k1 J.mg k2 k3 r
/-! ### try: .. except C as n: .. -/
/-- what the suite is in, behind a caught error -/
def caught (P : Po) (i : Nat) : Po := { N := fun δ => P.N (δ.set i .no), R := P.R, B := fun δ => P.B (δ.set i .no), C := fun δ => P.C (δ.set i .no) }
theorem xw_as {c : Nat} {i : Nat} {cc : Value} {tu : Addr → Value → Option Addr → TS} {Wout : WX} {D : Ends} {x : G.D} (em : PySem.W.exmOne Z.K (.ref (Z.er c).1) cc = some true) (hi : i ∉ bs)
    (h : ∀ a dd, XS Z bs (tu a (.ref (Z.er c).1) (some dd)) (δ.set i (.d (.exc a dd (Z.er c).2 x))) (caught P i)) : XW Z (wAs Z.K cc i tu Wout D) (fun B W M => W.map (·.1) = bs ∧ EndsOk Z B W M P D) c x δ := fun B W M H σ d v ⟨hb, e⟩ I hd a => by
  refine ⟨true, em, fun _ p hp => ?_, nofun⟩
  have nb := not_bor hb hi
  have put : ∀ {M' H' σ' δ'}, I3 Z B W M' H' σ' δ' → I3 Z B W M' H' (σ'.set i none) (δ'.set i .no) := fun I' => I'.put nb hol_no trivial
  exact h p d B W M H _ _ hb (I.put nb (hol_d _) (slotD (At.exc hd a))) ⟨fun _ _ _ _ q x I' => e.nx _ _ _ _ q x (put I'), fun _ _ _ _ _ _ q x I' r => e.rt _ _ _ _ _ _ q x I' r, fun _ _ _ _ q x I' => e.bk _ _ _ _ q x (put I'), fun _ _ _ _ q x I' => e.ct _ _ _ _ q x (put I'), fun _ _ => trivial⟩
/-- e.f in the suite -/
theorem xe_xf {a : Addr} {C : Addr} {dd : Addr} {f : Str} (h : XE Z te δ fun y δ1 => ∃ x, y = .exc a dd f x ∧ Φ x δ1) : XE Z (tXf a (.ref C) (some dd) C f te) δ Φ := XE.mk fun B W M H σ Q I q =>
  h.run I fun M1 H1 δ1 v y h1 e1 I1 at1 => by
    obtain ⟨x, rfl, g⟩ := h1
    cases at1 with
    | exc hd a => exact ⟨rfl, rfl, dd, _, _, rfl, I1.ex _ _ hd, by simp [List.lookup], q M1 H1 δ1 _ _ g e1 I1 a⟩
/-- isinstance(e, c) in the suite -/
theorem xe_isED {a : Addr} {C L : Addr} {dd : Addr} {b : Bool} (k : PySem.W.kitOne Z.K (.ref C) (.ref L) = some b) (h : XE Z te δ fun y δ1 => ∃ f x, y = .exc a dd f x ∧ Φ (.bl b) δ1) : XE Z (tCB (GX.rIsED Z.K a (.ref C) (some dd) C) (tCons te (tCons (tC (.ref L)) tNil))) δ Φ := XE.mk fun B W M H σ Q I q =>
  h.run I fun M1 H1 δ1 v y h1 e1 I1 at1 => by
    obtain ⟨f, x, rfl, g⟩ := h1
    cases at1 with
    | exc hd a => exact ⟨rfl, dd, _, .ref L, .ref L, b, rfl, I1.ex _ _ hd, rfl, fun u r => r, k, q M1 H1 δ1 _ _ g e1 I1 .bl⟩
end
end G
set_option Elab.async false
set_option linter.all false
set_option maxRecDepth 100000
set_option maxHeartbeats 4000000
/-! in, not in: signs, data in tuples; lists of data compared with none -/
namespace GX
open PySem PySem.Spec PyProof.Rows L2
def rInTup (K : PySem.W.Frag) (neg : Bool) : R2 := fun x y H Q => ∃ d ds, Dp K H x d ∧ Dp K H y (.tuple ds) ∧ SeqAt.shaped d = true ∧ SeqAt.shaped (.tuple ds) = true ∧ Q (.bl (if neg then !ds.any (fun z => PyData.eqv z d) else ds.any fun z => PyData.eqv z d)) H
section
variable {X : Cx}
theorem lay_items {ds : List PyData} (h : SeqAt.shaped (.tuple ds) = true) : PyData.canLayAll0 ds = true := by
  have := SeqAt.canLay_of_shaped h
  simpa [PyData.canLay0] using this
theorem op_inTup (room : X.A.units + 65 < cLine) : OpR X (compareOp .In) (rInTup X.K false) := fun pins s σ H x y v u Q I rx ry ⟨d, ds, hd, he, sd, se, q⟩ => by
  obtain ⟨_, read1⟩ := Dp.reads I d x v hd rx
  obtain ⟨_, read2⟩ := Dp.reads I (.tuple ds) y u he ry
  exact SeqAt.in_tuple_reads read2 read1 (lay_items se) (SeqAt.canLay_of_shaped sd) (room_in_shaped sd room) ⟨.bl _, H, I, rfl, q⟩
end
theorem kit_ref {K : PySem.W.Frag} {C L : Addr} {b : Bool} (h1 : PySem.W.isClsIn K L = true) (h2 : PySem.W.typeIn K (.ref L) = some (.type "type")) (h3 : PySem.W.subIn K (.ref C) (.ref L) = some b) (h4 : PySem.W.subIn K (.ref C) (.ref C) = some true) : PySem.W.kitOne K (.ref C) (.ref L) = some b := by
  have h1' : (PySem.W.clsIn K L).isSome = true := h1
  unfold PySem.W.kitOne
  by_cases e : C = L
  · subst e
    rw [h3] at h4
    cases h4
    simp
  · rw [if_neg (by simpa using e)]
    unfold PySem.W.kitCls
    simp [h1', h2, h3]
/-- try: .. except c as n: .. -/
def tTry (K : PySem.W.Frag) (c : Value) (i : Nat) (tb : WX → TS) (tu : Addr → Value → Option Addr → TS) (Wout : WX) : TS := fun D σ H => tb (wAs K c i tu Wout D) D σ H
theorem ps_tryT {X : Cx} {x n : Str} {c : Value} {i : Nat} {body suite : List Stmt} {b₀ : Stmt} {np pos pos' : Pos} {tb : WX → TS} {tu : Addr → Value → Option Addr → TS} {Wout : WX} (hs : X.stack = X.env :: X.outer) (hf : X.env.frame = some X.env.locals) (hN : X.N.Nodup) (hi : X.N[i]? = some n) (hl : X.env.kindOf n = some .local) (hc : Names X x c) (tk : Takes X Wout)
    (b : ∀ (W : WX) (pn : List (Addr × Obj)) (xe : Value → Shared → Prop), Takes (X.tr pn xe) W → PassesOwn (model X.prog X.w) X.A X.env xe → PSs (X.tr pn xe) body (tb W))
    (u : ∀ (a : Addr) (oe : Obj) (cls : Value) (d : Option Addr) (pn : List (Addr × Obj)), Zc cls d oe → (∃ vs, oe.data = .fields vs) → PSs (X.suite a ((a, oe) :: pn)) (b₀ :: suite) (tu a cls d)) :
    PS X (.Try body [.ExceptHandler (some (.Name x np)) (some n) (b₀ :: suite) pos'] [] [] pos) (tTry X.K c i tb tu Wout) := ps_try_as hs hf hN hi hl hc tk b u
end GX
namespace G
open PySem L2
theorem xs_tryT {bs : List Nat} {P : Po} {i : Nat} {cc : Value} {tb : WX → TS} {tu : Addr → Value → Option Addr → TS} {Wout : WX} {Z : Wd} {δ : List S} (h : ∀ D : Ends, XS Z bs (tb (wAs Z.K cc i tu Wout D)) δ { P with X := fun B W M => W.map (·.1) = bs ∧ EndsOk Z B W M P D }) :
    XS Z bs (GX.tTry Z.K cc i tb tu Wout) δ P := fun B W M H σ E hb I e => h E B W M H σ E hb I ⟨e.nx, e.rt, e.bk, e.ct, fun M' x => ⟨hb, e.mono x⟩⟩
theorem eqv_nil (xs : List D) : PyData.eqv (py (.lst xs)) (py (.lst [])) = xs.isEmpty := by
  cases xs with
  | nil => exact (eqv_lst [] []).trans (decide_eq_true rfl)
  | cons x xs => rfl
end G
set_option Elab.async false
set_option linter.all false
set_option maxRecDepth 100000
set_option maxHeartbeats 4000000
/-! isinstance of anything; repr of ints, of None -/
namespace GX
open PySem PySem.Spec PyProof.Rows L2
theorem kit_tyref {K : PySem.W.Frag} {L : Addr} {n : String} {b : Bool} (h1 : PySem.W.isClsIn K L = true) (h2 : PySem.W.typeIn K (.ref L) = some (.type "type")) (h3 : PySem.W.subIn K (.type n) (.ref L) = some b) : PySem.W.kitOne K (.type n) (.ref L) = some b := by
  have h1' : (PySem.W.clsIn K L).isSome = true := h1
  unfold PySem.W.kitOne
  rw [if_neg (by simp)]
  unfold PySem.W.kitCls
  simp [h1', h2, h3]
theorem kit_refty {K : PySem.W.Frag} {C : Addr} {n : String} {b : Bool} (hm : PySem.W.kitMeta n = true) (h3 : PySem.W.subIn K (.ref C) (.type n) = some b) : PySem.W.kitOne K (.ref C) (.type n) = some b := by
  unfold PySem.W.kitOne
  rw [if_neg (by simp)]
  unfold PySem.W.kitCls
  simp [hm, h3]
theorem kit_seqref {K : PySem.W.Frag} {C : Addr} (h1 : PySem.W.subIn K (.ref C) (.type "list") = some false) (h2 : PySem.W.subIn K (.ref C) (.type "tuple") = some false) : PySem.W.kitAny K (.ref C) [.type "list", .type "tuple"] = some false := by
  have e1 := kit_refty (n := "list") (by decide +kernel) h1
  have e2 := kit_refty (n := "tuple") (by decide +kernel) h2
  unfold PySem.W.kitAny
  rw [e1]
  show PySem.W.kitAny K (.ref C) [.type "tuple"] = _
  unfold PySem.W.kitAny
  rw [e2]; rfl
section
variable {X : Cx}
/-- repr of an int, of None -/
def rRepI : List V → Hp → VK → Prop := fun vs H Q => (∃ i : Int, vs = [.int i] ∧ i.natAbs.log2 < 1920 ∧ Q (.str (toString i)) H) ∨ (vs = [.non] ∧ Q (.str "None") H)
theorem cr_repI : CallR X (.builtin "repr") rRepI := fun pins s σ H vs us Q I r h => by
  rcases h with ⟨i, e, hz, q⟩ | ⟨e, q⟩
  · exact SkE.call_repr_int pins s σ H vs us Q I r ⟨i, e, hz, q⟩
  · subst e
    match us, r with
    | [_], .cons ra .nil =>
      cases ra
      exact PySem.P.repr_of_none ⟨.str _, H, I.tok _, ⟨_, rfl⟩, q⟩
/-- a def that may raise, called where it does not -/
theorem calm {P : Program} {w : World} {K : PySem.W.Frag} {mg : Str → Option Value} {base : Heap} {k : Nat} {f : Addr} {fd : FuncData} {ps : List Str} {sp sp0 : Sp} (F : FnOk P w K mg base (L2.CX P w) k f fd ps sp) (h : ∀ vs H Q E, sp0 vs H Q E → sp vs H Q fun _ _ _ => False) : FnOk P w K mg base CX0 k f fd ps sp0 :=
  ⟨fun vs H Q E x => F.len _ _ _ _ (h vs H Q E x), fun A outer s H args us vs Q E hr e0 hb r hsp => codeAny_mono (F.run A outer s H args us vs Q _ hr e0 hb r (h _ _ _ _ hsp)) fun res s' c => by
    match res, c with
    | .ok (.ret u), c => exact c
    | .ok .next, c => exact c
    | .ok .brk, c => exact c
    | .ok .cont, c => exact c
    | .error e, c =>
      obtain ⟨_, _, _, _, _, _, _, _, _, _, _, _, z⟩ := c
      exact z.elim⟩
end
end GX
namespace G
open PySem L2
section
variable {P : Program} {w : World} {K : PySem.W.Frag} {mg : Str → Option Value} {base : Heap} {k : Nat} {f : Addr} {fd : FuncData} {ps : List Str} {Z : Wd}
theorem calmR {F : FRX} {F0 : FR} (h : FnOk P w K mg base (L2.CX P w) k f fd ps (spRX Z F)) (g : ∀ ds Φ, F0 ds Φ → F ds Φ fun _ _ => False) : FnOk P w K mg base CX0 k f fd ps (spR Z F0) :=
  GX.calm h fun vs H Q E ⟨M, ds, Φ, ex, al, f0, q⟩ => ⟨M, ds, Φ, _, ex, al, g ds Φ f0, q, fun _ _ _ _ _ _ z => z.elim⟩
theorem calmB {F : FBX} {F0 : FB} (h : FnOk P w K mg base (L2.CX P w) k f fd ps (spBX Z F)) (g : ∀ y ds Φ, F0 y ds Φ → F y ds Φ fun _ _ _ => False) : FnOk P w K mg base CX0 k f fd ps (spB Z F0) :=
  GX.calm h fun vs H Q E ⟨M, p, ws, ho, y, ds, Φ, e, hp, hm, hy, ex, al, f0, q⟩ => ⟨M, p, ws, ho, y, ds, Φ, _, e, hp, hm, hy, ex, al, g y ds Φ f0, q, fun _ _ _ _ _ _ _ _ z => z.elim⟩
end
inductive TyD (Z : Wd) : D → Value → Prop
  | ty {d : D} {n : String} : tyD d = some n → TyD Z d (.type n)
  | obj {c : Nat} {ds : List D} : C8.InsC Z.K (Z.cl c).C → TyD Z (.obj c ds) (.ref (Z.cl c).C)
section
variable {Z : Wd} {M H : Hp} {δ : List S} {ta tb te : TE} {Φ : D → List S → Prop}
theorem At.tyR {v : V} {d : D} {t : Value} (a : At Z M v d) (e : Ex M H) (h : TyD Z d t) : TyX Z.K H v t := by
  cases h with
  | ty h => exact a.tyx e h
  | obj h => cases a with
    | obj k _ _ _ => exact .base (.ins (e _ _ k) h.cl h.ha h.hn h.htk h.hm)
theorem xe_isiSeqR (h : XE Z te δ fun d δ1 => ∃ t b, TyD Z d t ∧ PySem.W.kitAny Z.K t [.type "list", .type "tuple"] = some b ∧ Φ (.bl b) δ1) : XE Z (tCB (rIsiT Z.K) (tCons te (tCons (tTup (tCons (tC (.ty "list")) (tCons (tC (.ty "tuple")) tNil))) tNil))) δ Φ := XE.mk fun B W M H σ Q I q =>
  h.run I fun M1 H1 δ1 x a h1 e1 I1 at1 => by
    obtain ⟨t, b, e, k, f⟩ := h1
    refine ⟨by show 2 ≤ sizeLine; decide, fun p hp => ?_⟩
    refine ⟨x, p, [.ty "list", .ty "tuple"], t, [.type "list", .type "tuple"], _, rfl, upd_same, .cons (.ty _) (.cons (.ty _) .nil), at1.tyR (I1.ex.tr (Ex.new hp)) e, k, ?_⟩
    exact q M1 _ δ1 _ _ f e1 (I1.other (I1.fresh hp) (I1.ex.free hp) (I1.newOwn hp)) .bl
theorem kit_seq' {K : PySem.W.Frag} {d : D} {n : String} (h : tyD d = some n) : PySem.W.kitAny K (.type n) [.type "list", .type "tuple"] = some (n == "list" || n == "tuple") := kit_seq (by cases d <;> first | (cases h; done) | (cases h; decide))
/-- repr of an int, of None -/
def repD : D → Str | .int i => toString i | _ => "None"
theorem xe_repI (h : XE Z te δ fun a δ1 => ((∃ i : Int, a = .int i ∧ i.natAbs.log2 < 1920) ∨ a = .non) ∧ Φ (.str (repD a)) δ1) : XE Z (tCB GX.rRepI (tCons te tNil)) δ Φ := XE.mk fun B W M H σ Q I q =>
  h.run I fun M1 H1 δ1 x a h1 e1 I1 at1 => by
    obtain ⟨⟨i, rfl, hi⟩ | rfl, f⟩ := h1
    · cases at1; exact .inl ⟨i, rfl, hi, q M1 H1 δ1 _ _ f e1 I1 .str⟩
    · cases at1; exact .inr ⟨rfl, q M1 H1 δ1 _ _ f e1 I1 .str⟩
end
end G
set_option Elab.async false
set_option linter.all false
set_option maxRecDepth 100000
set_option maxHeartbeats 4000000
/-! tuples whose objects are known to have no dict: made, joined, asked for a place -/
namespace GX
open PySem PySem.Spec PyProof.Rows L2
def Bare (o : Obj) : Prop := o.cls = .type "tuple" ∧ (o.dict = none ∧ o.slots = #[])
def rTupleF (K : PySem.W.Frag) : List V → Hp → VK → Prop := fun xs H Q => ∃ p ys, xs = [.ref p] ∧ SqL K H p ys ∧ ∀ l o, H l = none → Bare o → Q (.ref l) (upd H l (.frz o (.tup ys)))
def tTupIx (K : PySem.W.Frag) (to : TE) (t : TA) : TE := fun σ H Q => to σ H fun x H1 => (∃ (p : Addr) (o : Obj) (vs : List V), x = .ref p ∧ H1 p = some (.frz o (.tup vs)) ∧ Bare o) ∧
  t σ H1 fun xs H2 => ∃ p, ∃ ys : List Str, ∃ z j, x = .ref p ∧ xs = [.str z] ∧ SqT K H2 p (ys.map V.str) ∧ ys[j]? = some z ∧ (∀ m, m < j → ys[m]? ≠ some z) ∧ Q (.int (j : Nat)) H2
section
variable {X : Cx} {K : PySem.W.Frag} {es : List Expr} {e o : Expr} {t : TA} {to : TE} {pos apos cpos : Pos}
theorem call_tupleF : CallR X (.type "tuple") (rTupleF X.K) := fun pins s σ H xs us Q J rel ⟨p, ys, ex, sq, go⟩ => by
  subst ex
  match us, rel with
  | [_], .cons rx .nil =>
    cases rx
    obtain ⟨its, rv, pl, small⟩ := J.list sq
    have same := rv.length
    refine call_tuple_list pl.isList (fun h' kp => ?_) (by simp only [List.size_toArray]; omega)
    have J1 : Inv X pins σ H { s with heap := h' } := J.kept (t' := s.toks) kp
    have at' := Heap.get?_push_size h' (o := { cls := .type "tuple", data := .seq its.toArray }) rfl
    exact ⟨.ref _, _, J1.laid (t' := s.toks) (o := .frz _ (.tup ys)) (fun _ _ g => Heap.get?_push_of_some _ g) (Nat.le_refl _) ⟨at', small, its, rv, ⟨_, at', rfl, _, rfl⟩⟩, rfl, go _ _ (J1.hok.fresh (Nat.le_refl _)) ⟨rfl, rfl, rfl⟩⟩
theorem pe_tupIx (hK : X.K = K) (ho : PE X o to) (ha : PA X (e :: es) t) (base : attributeBase o "index" X.env (eval o X.env) = eval o X.env := by rfl)
    (few : ((backTo cpos (starEach (e :: es) X.env)).all (fun x => !x.1) && (backToKw cpos (keywordEach [] X.env)).all (fun x => x.1.isSome) && decide ((e :: es).length + ([] : List Keyword).length + (if ([] : List Keyword).isEmpty then 0 else 1) < 30)) = true := by rfl)
    (line : (apos.endLine == cpos.line) = true := by rfl) (hs : starEach (e :: es) X.env = (false, eval e X.env) :: starEach es X.env := by rfl) (plain : (backTo cpos (starEach es X.env)).any (·.1) = false := by rfl) :
    PE X (.Call (.Attribute o "index" apos) (e :: es) [] cpos) (tTupIx K to t) := ⟨fun pins s σ H Q J h => by
  subst hK
  refine wpAny_Call_method_late base few line rfl (thn (ho.run pins s σ H _ J h) fun v s1 ⟨x, H1, J1, r1, ⟨p, ob, vs, ex, hp, bare⟩, q1⟩ => ?_)
  subst ex
  cases r1
  obtain ⟨there, _⟩ := (show ObjOk X.prog X.w H1 s1.heap p (.frz ob (.tup vs)) from J1.hok p _ hp)
  refine ⟨"tuple", "tuple.index", PySem.F.plainAttrs_tuple, PySem.F.slot_tuple_index, PySem.F.type_tuple_index, ⟨ob, there, bare.1⟩, fun a ea => by cases ea; exact ⟨ob, there, bare.2.1⟩, ?_⟩
  have args := ha.run cpos pins s1 σ H1 _ J1 q1
  rw [hs] at args ⊢
  refine Calls.callWith_builtin (by show (false || (backTo cpos (starEach es X.env)).any (·.1)) = false; rw [plain]; rfl) (Calls.evalArgs_plain ?_)
  exact thn args fun us s2 ⟨ws, H2, J2, r2, q2⟩ => mt_tup_index pins s2 σ H2 (.ref p) ws _ us Q J2 rfl r2 q2⟩
end
end GX
namespace G
open PySem L2
section
variable {Z : Wd} {M H : Hp} {δ : List S} {ta tb te : TE} {ts : TA} {Φ : D → List S → Prop} {B : Bas} {W : List (Nat × Addr)} {σ : St}
theorem At.wk {v : V} {xs : List D} (a : At Z M v (.tupF xs)) : At Z M v (.tup xs) := by
  cases a with
  | tupF h _ _ l k => exact .tup (.inl (.inr ⟨_, h⟩)) l k
/-- as a plain tuple -/
theorem xe_wk (h : XE Z te δ fun d δ1 => ∃ xs, d = .tupF xs ∧ Φ (.tup xs) δ1) : XE Z te δ Φ := XE.mk fun B W M H σ Q I q =>
  h.run I fun M1 H1 δ1 x a h1 e1 I1 at1 => by
    obtain ⟨xs, rfl, f⟩ := h1
    exact q M1 H1 δ1 _ _ f e1 I1 at1.wk
theorem newF {p : Addr} {o : PySem.Obj} {vs : List V} {xs : List D} {δ1 : List S} {Q : VK} {M1 H1 : Hp} (I1 : I3 Z B W M1 H1 σ δ1) (hp : H1 p = none) (bo : GX.Bare o) (al : AtL Z M1 vs xs) (f : Φ (.tupF xs) δ1) (e : Ex M M1)
    (q : ∀ M' H' δ' v d, Φ d δ' → Ex M M' → I3 Z B W M' H' σ δ' → At Z M' v d → Q v H') : Q (.ref p) (upd H1 p (.frz o (.tup vs))) :=
  have hm := I1.ex.free hp
  q _ _ δ1 _ _ f (e.tr (Ex.new hm)) (I1.grow hp) (.tupF upd_same bo.1 bo.2 al.len (al.mono (Ex.new hm)).at')
theorem xe_tupleF (h : XE Z te δ fun d δ1 => ∃ xs, d = .lst xs ∧ Φ (.tupF xs) δ1) : XE Z (tCB (GX.rTupleF Z.K) (tCons te tNil)) δ Φ := XE.mk fun B W M H σ Q I q =>
  h.run I fun M1 H1 δ1 x a h1 e1 I1 at1 => by
    obtain ⟨xs, rfl, f⟩ := h1
    cases at1 with
    | lst k l c => exact ⟨_, _, rfl, SqL.of (I1.ex _ _ k), fun p o hp bo => newF I1 hp bo ⟨l, c⟩ f e1 q⟩
theorem idx_first : ∀ {l : List Str} {m : Nat} {x : Str}, m < l.idxOf x → l[m]? ≠ some x
  | [], m, x, h => by simp at h
  | a :: l, m, x, h => by
    rw [List.idxOf_cons] at h
    by_cases e : a == x
    · simp [e] at h
    · cases m with
      | zero => simpa using fun q => e (by simp [q])
      | succ m => simpa using idx_first (l := l) (by simpa [e] using h)
theorem xe_tupIx (h : XE Z ta δ fun d δ1 => ∃ ys : List Str, d = .tupF (ys.map .str) ∧ XE Z te δ1 fun b δ2 => ∃ z : Str, b = .str z ∧ z ∈ ys ∧ Φ (.int (ys.idxOf z : Nat)) δ2) : XE Z (GX.tTupIx Z.K ta (tCons te tNil)) δ Φ := XE.mk fun B W M H σ Q I q =>
  h.run I fun M1 H1 δ1 x a h1 e1 I1 at1 => by
    obtain ⟨ys, rfl, h2⟩ := h1
    cases at1 with
    | @tupF p o vs _ k c d l al =>
      refine ⟨⟨p, o, vs, rfl, I1.ex _ _ k, c, d⟩, h2.run I1 fun M2 H2 δ2 y b h3 e2 I2 at2 => ?_⟩
      obtain ⟨z, rfl, hz, f⟩ := h3
      cases at2
      have hv : vs = ys.map V.str := AtL.strs (Z := Z) (M := M1) ⟨l, al⟩
      subst hv
      refine ⟨p, ys, z, ys.idxOf z, rfl, rfl, sqT_mono I2.ex (.inl (.inr ⟨o, e2 _ _ k⟩)), ?_, fun m hm => idx_first hm, q M2 H2 δ2 _ _ f (e1.tr e2) I2 .int⟩
      rw [List.getElem?_eq_getElem (List.idxOf_lt_length_of_mem hz), List.getElem_idxOf]
end
end G
set_option Elab.async false
set_option linter.all false
set_option maxRecDepth 100000
/-! comparing by an own __eq__, `!=` by the default __ne__, str by an own __str__ -/
namespace GX
open PySem PySem.Spec L2
section
variable {X : Cx} {CX : CXT} {k : Nat} {C f : Addr} {fd : FuncData} {ps : List Str} {sp : Sp} {E : XK} {pins : List (Addr × Obj)} {σ : St} {H : Hp} {s : Shared}
/-- no __ne__ but the one of all objects -/
structure NoNe (K : PySem.W.Frag) (C : Addr) : Prop where
  find : PySem.W.findIn K (.ref C) "__ne__" = some (some (.builtin "object.__ne__"))
  sub : PySem.W.subIn K (.ref C) (.type "object") = some true
end
end GX
namespace G
open PySem L2
def er (M : Hp) (p : Addr) : Hp := fun a => if a = p then none else M a
end G
namespace GX
open PySem L2
end GX
namespace G
open PySem L2
end G
namespace G
open PySem L2
end G
set_option Elab.async false
set_option linter.all false
set_option maxRecDepth 100000
/-! == of tuples whose items are compared by an own __eq__ -/
namespace GX
open PySem PySem.Spec PySem.SeqAt L2
open AutoSeq1 (wpAny_loadPart')
open MeetsSeq MeetsSeq2 MeetsSeq3 SeqRoads2
end GX
namespace GX
open PySem PySem.Spec L2
end GX
namespace G
open PySem L2
section
variable {Z : Wd} {M H H' : Hp} {δ : List S} {ta tb : TE} {Φ : D → List S → Prop} {E : XK} {F : FR} {σ : St} {B : Bas} {W : List (Nat × Addr)}
theorem I3.ext (I : I3 Z B W M H σ δ) (x : Ex H H') : I3 Z B W M H' σ δ := I.after Ex.rfl' (I.ex.tr x) x fun _ _ _ h _ => h
end
end G
set_option Elab.async false
set_option linter.all false
set_option maxRecDepth 100000
/-! != of tuples whose items are compared by an own __eq__; len of an instance by an own __len__ -/
namespace GX
open PySem PySem.Spec PySem.SeqAt L2
open AutoSeq1 (wpAny_loadPart')
open MeetsSeq MeetsSeq2 MeetsSeq3 SeqRoads2
end GX
namespace GX
open PySem PySem.Spec L2
end GX
namespace G
open PySem L2
end G
set_option Elab.async false
set_option linter.all false
set_option maxRecDepth 100000
/-! x[i], x + y by the own methods of a class -/
namespace GX
open PySem PySem.Spec L2
open PyProof.Rows (Subscript_)
end GX
namespace G
open PySem L2
end G
set_option Elab.async false
set_option linter.all false
set_option maxRecDepth 100000
/-! x[i] and o.m(..) by own methods that may raise -/
namespace GX
open PySem PySem.Spec L2
open PyProof.Rows (Subscript_)
end GX
namespace G
open PySem L2
end G
set_option Elab.async false
set_option linter.all false
set_option maxRecDepth 100000
/-! x += y by an own __add__ of a class without an own __iadd__ -/
namespace GX
open PySem PySem.Spec L2
end GX
namespace G
open PySem L2
end G
set_option Elab.async false
set_option linter.all false
set_option maxRecDepth 100000
set_option maxHeartbeats 4000000
/-! a, *b = a list; split; class methods; classes held in a variable -/
namespace GX
open PySem PySem.Spec PyProof.Rows L2
section
variable {X : Cx} {pos : Pos}
/-- a, *b = a list -/
def gStar (K : PySem.W.Frag) (t : TGs) : TG := fun v σ H Q => ∃ a x xs, v = .ref a ∧ SqL K H a (x :: xs) ∧ xs.length < 16384 ∧ ∀ p, H p = none → t [x, .ref p] σ (upd H p (.lst xs)) Q
theorem pg_star {es es' : List Expr} {k : Nat} {t : TGs} (hc : X.calm = true) (h : PGs X es' t) (same : (assignEach es X.env).map (·.2) = (assignEach es' X.env).map (·.2) := by rfl)
    (hn : (assignEach es X.env).length = 2 := by rfl) (hst : (assignEach es X.env).findIdx? (·.1) = some 1 := by rfl) : PG X (.Tuple es k pos) (gStar X.K t) := by
  refine ⟨fun pins s σ H v u Q I r hw => ?_⟩
  obtain ⟨a, x, xs, e1, hq, hl, hw⟩ := hw
  subst e1
  cases r
  obtain ⟨its, rv, pl, hz⟩ := I.list hq
  obtain ⟨y, ys, rfl⟩ : ∃ y ys, its = y :: ys := by
    cases its with
    | nil => exact nomatch rv.length
    | cons y ys => exact ⟨y, ys, rfl⟩
  have r1 : RelV x y := by cases rv with | cons r1 r2 => exact r1
  have r2 : Vals xs ys := by cases rv with | cons r1 r2 => exact r2
  have hl2 : ys.length < 16384 := by rw [← r2.length]; exact hl
  have hL := pl.isList
  have hlt : a ≠ s.heap.objs.size := by obtain ⟨o, ho, _⟩ := hL; exact Nat.ne_of_lt (Heap.lt_size ho)
  rw [PyProof.Rows.assign_Tuple]
  refine wpAny_bind (wpAny_standAt ?_)
  unfold unpack
  rw [hn, hst]
  refine wpAny_bind (wpAny_holding ?_)
  unfold unpackItems
  refine wpAny_bind ?_
  unfold notIterableAtAll
  refine wpAny_bind (wpAny_specialOf hL.typeIs PySem.slot_list_iter.lookup ?_)
  refine wpAny_pure ?_
  simp only [Bool.false_eq_true, if_false]
  refine wpAny_bind (wpAny_holding (wpAny_pyIter_list hL ?_))
  refine wpAny_bind (wpAny_holding (PySem.W.kun_draw hlt 1 0 _ _ ⟨_, Heap.get?_push_size _ rfl, rfl, rfl⟩ (hL.push _) (by simp) fun h₁ hit₁ hs₁ => ?_))
  have hl₁ : h₁.IsList a (y :: ys).toArray := (hL.push _).extBut hs₁.extBut hlt
  rw [Nat.zero_add] at hit₁
  have hit₁' := hit₁
  obtain ⟨oi, hoi, _⟩ := hit₁'
  have hl₁' := hl₁
  obtain ⟨ol, hol, _⟩ := hl₁'
  show wpAny _ _ (if ([y] : List Value).length < 1 then _ else _) _ _ _
  rw [if_neg (by simp)]
  refine wpAny_bind (wpAny_holding (PySem.W.kun_collect (s := { s with heap := h₁ }) (T := "list_iterator") (.inr (.inr (.inl rfl))) (Walks.list (A := X.A.in1) (I.ok.hd hc) s.heap.objs.size a hlt (y :: ys).toArray) (fun j u st => st.1.typeIs) (k := 1) (by simp) ⟨hit₁, hl₁⟩ (Heap.lt_size hoi) (Heap.lt_size hol) (fun h₂ tk hk => ?_) (by rw [sizeLine_eq]; simp; omega)))
  show wpAny _ _ (if ys.length < 2 - 1 - 1 then _ else _) _ _ _
  rw [if_neg (by omega)]
  show wpAny _ _ (newList (ys.take (ys.length - (2 - 1 - 1))) >>= fun d => pure ([y] ++ [d] ++ ys.drop (ys.length - (2 - 1 - 1)))) _ _ _
  rw [show ys.take (ys.length - (2 - 1 - 1)) = ys from by simp, show ys.drop (ys.length - (2 - 1 - 1)) = [] from by simp]
  refine wpAny_bind (wpAny_newList ?_ (by rw [sizeLine_eq]; omega))
  refine wpAny_pure ?_
  have he : Heap.ExtBut s.heap.objs.size s.heap h₂ := fun b o hb e => hk b o hb (hs₁.extBut b o hb (Heap.get?_push_of_some _ e))
  have I1 : Inv X pins σ H { s with heap := h₂, toks := tk } := I.kept fun b o e => he b o (Nat.ne_of_lt (Heap.lt_size e)) e
  have hoL : (h₂.push (seqObj "list" ys.toArray 0)).get? h₂.objs.size = some (seqObj "list" ys.toArray 0) := Heap.get?_push_size _ rfl
  have I2 := I1.laid (h' := h₂.push (seqObj "list" ys.toArray 0)) (t' := tk) (a := h₂.objs.size) (o := .lst xs) (fun b u e => Heap.get?_push_of_some _ e) (Nat.le_refl _)
    (show ObjOk X.prog X.w _ _ _ (.lst xs) from ⟨by rw [sizeLine_eq]; omega, ys, 0, r2, hoL⟩)
  rw [same]
  exact h.run pins _ σ _ [x, .ref h₂.objs.size] [y, .ref h₂.objs.size] Q I2 (.cons r1 (.cons rfl .nil)) (hw _ (I1.hok.fresh (Nat.le_refl _)))
end
section
variable {X : Cx} {CX : CXT} {k i : Nat} {C f : Addr} {fd : FuncData} {ps : List Str} {ds : List Value} {dvs : List V} {sp : Sp} {E : XK} {x : Str} {e : Expr} {es : List Expr} {t : TA} {p pos : Pos}
/-- c(..), where the variable c holds the class at C -/
def tMakeV (C : Addr) (i : Nat) (sp : Sp) (dvs : List V) (E : XK) (t : TA) : TE := fun σ H Q => σ[i]? = some (some (.ref C)) ∧ tMake C sp dvs E t σ H Q
theorem pe_makeV (hv : PE X (.Name x p) (tVar i)) (M : Mk X.K C f) (F : FnOk X.prog X.w X.K X.mg X.base CX k f fd ps sp) (hr : Room (k + 1) X.A) (hb : Binds X.K fd ps ds) (hd : Vals dvs ds) (hx : Passes CX X E)
    (ha : PA X (e :: es) t) (he : starEach (e :: es) X.env = (false, eval e X.env) :: starEach es X.env := by rfl) (hpl : (backTo pos (starEach es X.env)).any (·.1) = false := by rfl) :
    PE X (.Call (.Name x p) (e :: es) [] pos) (tMakeV C i sp dvs E t) := by
  refine ⟨fun pins s σ H Q I h => ?_⟩
  refine wpAny_Call_Name_kw (thn (hv.run pins s σ H (fun v H1 => v = .ref C ∧ tMake C sp dvs E t σ H1 Q) I ⟨_, h.1, rfl, h.2⟩) fun u s1 ⟨v, H1, I1, r1, ev, q⟩ => ?_)
  subst ev
  cases r1
  refine PySem.W.callWith_K (h₀ := X.base) I.ok.mod.kin M.kp (thn (ha.run pos pins s1 σ H1 _ I1 q) fun us s2 ⟨vs, H2, I2, r, q⟩ => ⟨I2.kIn, ?_⟩) he hpl
  exact run_make M F hr hb hd hx I2 r q
end
end GX
namespace G
open PySem L2
section
variable {Z : Wd} {bs : List Nat} {δ : List S} {ta tb te : TE} {ts : TA} {P : Po} {Φ : D → List S → Prop} {Ψ : S → List S → Prop} {Ω : OD → List S → Prop} {E : XK} {i j : Nat}
theorem xs_asgStar (hi : i ∉ bs) (hj : j ∉ bs) (h : XE Z te δ fun d δ1 => ∃ x xs, d = .lst (x :: xs) ∧ xs.length < 16384 ∧ j < δ1.length ∧ P.N ((δ1.set i (.d x)).set j (.own (.lst xs)))) :
    XS Z bs (tAsg te (GX.gStar Z.K (gCons (gName i) (gCons (gName j) gNil)))) δ P := fun B W M H σ Ed hb I e => h.run I fun M1 H1 δ1 v d h1 e1 I1 at1 => by
  obtain ⟨x, xs, rfl, small, hj', f⟩ := h1
  cases at1 with
  | @lst a vs _ k l c =>
    match vs, k, l, c with
    | v0 :: vs', k, l, c =>
      have l' : vs'.length = xs.length := by simpa using l
      refine ⟨a, v0, vs', rfl, SqL.of (I1.ex _ _ k), by omega, fun p hp => ⟨_, _, rfl, _, _, rfl, rfl, ?_⟩⟩
      have a0 : At Z M1 v0 x := c 0 v0 x rfl rfl
      have al : AtL Z M1 vs' xs := ⟨l', fun i v d h1 h2 => c (i + 1) v d (by simpa using h1) (by simpa using h2)⟩
      have I2 := I1.other (o := .lst vs') (I1.fresh hp) (I1.ex.free hp) (I1.newOwn hp)
      have I3 := (I2.put (i := i) (not_bor hb hi) (hol_d _) (slotD a0)).putO (i := j) (p := p) (ho := .lst vs') (y := .lst xs) (not_bor hb hj) (by rw [List.length_set]; exact hj') upd_same al (I1.ex.free hp) (I1.fresh hp) (fun k o => I1.newOwn hp k (Own.setN (hol_d _) o).2)
      exact e.nx _ _ _ _ f e1 I3
/-- s.split(t) -/
abbrev rSplit : V → List V → Hp → VK → Prop := fun x xs H Q => ∃ a b, x = .str a ∧ xs = [.str b] ∧ (b.length == 0) = false ∧ a.length + 2 ≤ sizeLine ∧ rNewStrs (Txt.split a b) H Q
theorem xo_split (h : XE Z ta δ fun a δ1 => ∃ s, a = .str s ∧ XE Z tb δ1 fun b δ2 => ∃ t, b = .str t ∧ (t.length == 0) = false ∧ s.length + 2 ≤ sizeLine ∧ Ω (.lst ((Txt.split s t).map .str)) δ2) : XO Z (tM1 rSplit ta tb) δ Ω := XO.mk fun B W M H σ Q I q =>
  h.run I fun M1 H1 δ1 x a h1 e1 I1 at1 => by
    obtain ⟨s, rfl, h1⟩ := h1
    cases at1
    exact ⟨⟨s, rfl⟩, XE.run h1 I1 fun M2 H2 δ2 y b h2 e2 I2 at2 => by
      obtain ⟨t, rfl, t0, sz, f⟩ := h2
      cases at2
      exact ⟨s, t, rfl, rfl, t0, sz, fun p hp => newO (o := .lst _) (y := .lst _) I2 hp (AtL.ofStrs _) f (e1.tr e2) q⟩⟩
/-- C.m(..), m a classmethod: the class is the first datum -/
theorem xr_cmeth {F : FR} {C : Addr} (h : XA Z ts δ fun es δ1 => F (.ref C :: es) fun s => Ψ s δ1) : XR Z (ClX.tCMeth C (fun vs H Q E => spR Z F (vs ++ []) H Q E) E (tC (.ref C)) ts) δ Ψ := fun B W M H σ Q I q => by
  refine ⟨rfl, h B W M H σ _ I fun M2 H2 δ2 ws es h3 e2 I2 al2 => ?_⟩
  show spR Z F ((.ref C :: ws) ++ []) H2 Q E
  rw [List.append_nil]
  exact ⟨M2, _, _, I2.ex, AtL.cons .ref al2, h3, fun M' H' v s g a1 a2 a3 a4 r => q M' H' δ2 v s g (e2.tr a1) (I2.after a1 a2 a3 a4) (ret_res I2 (fun _ _ o => o) r)⟩
theorem xe_makeV {sp : Sp} {dvs : List V} {C : Addr} (h0 : δ[i]? = some (.d (.ref C))) (h : XE Z (tMake C sp dvs E ts) δ Φ) : XE Z (GX.tMakeV C i sp dvs E ts) δ Φ := XE.mk fun B W M H σ Q I q => by
  obtain ⟨o, eo, v, rfl, at0⟩ := I.sl i _ h0
  cases at0
  exact ⟨eo, h.run I q⟩
end
end G
set_option Elab.async false
set_option linter.all false
set_option maxRecDepth 100000
set_option maxHeartbeats 4000000
/-! {e for x in xs if ..}, {e for x in xs for y in ys}: sets of ints, built while other sources are walked -/
namespace GX
open PySem PySem.Spec PyProof.Rows L2 PpSet
/-- what is left to do at the set D once the source J has come: from H on, at slots σ, until Qd -/
abbrev SetJob := It → Addr → Hp → L2.St → (Hp → Prop) → Prop
/-- y joins the set at D, then go on -/
def joins (w : World) (D : Addr) (y : V) (H : Hp) (on : Hp → Prop) : Prop := ∃ (k : Int) (S : Int → Bool) (c : Nat), y = .int k ∧ H D = some (SetO w D S c) ∧ c + 1 < scanBound ∧ on (upd H D (SetO w D (fun j => S j || decide (j = k)) (if S k = true then c else c + 1)))
/-- the source J yields n times -/
def walks (J : It) (n : Nat) (Pv : Nat → Hp → Prop) (H0 : Hp) (Qd : Hp → Prop) (turn : Nat → V → Hp → Prop) : Prop := Pv 0 H0 ∧ (∀ i H, i < n → Pv i H → J.go i H ∧ ∀ x H1, J.yld i H x H1 → turn i x H1) ∧ ∀ H, Pv n H → J.stop n H ∧ Qd H
/-- the block's own loop does the job -/
def Does (X : Cx) (tg e : Expr) (scope : Scope) (job : SetJob) : Prop := ∀ (s3 : Shared) (H3 : Hp) (C : Addr) (cl : List (PySem.Str × Addr)) (fp : List Addr) (it D : Addr) (J : It) (tn : Nat → Heap → Prop) (s4 : Shared) (σ4 : L2.St) (H4 : Hp) (Qd : Hp → Prop) (post : Result → Shared → Prop),
  X.calm = true → Turn X.prog X.w X.K tg J fp it tn → (∀ (σ' : L2.St) (H' : Hp) (s' : Shared), Inv (X.blk s3 H3 scope (compEnvC scope cl C X.env) fp) [] σ' H' s' → (∀ b ∈ fp, H' b = none) → ∀ b ∈ fp, FpOk (X.blk s3 H3 scope (compEnvC scope cl C X.env) fp) [] H' b) →
  Inv (X.blk s3 H3 scope (compEnvC scope cl C X.env) fp) [] σ4 H4 s4 → tn 0 s4.heap → (∀ b ∈ fp, H4 b = none) → job J D H4 σ4 Qd → (∀ s' H', Inv (X.blk s3 H3 scope (compEnvC scope cl C X.env) fp) [] σ4 H' s' → Qd H' → post (.ok .next) s') →
  codeAny (model X.prog X.w) X.A (.compLoop e 0 (.ref it) (.ref D) (compEnvC scope cl C X.env)) post s4
section
variable {X : Cx}
theorem blk_here {s3 : Shared} {H3 : Hp} {scope : Scope} {C : Addr} {cl : List (PySem.Str × Addr)} {fp : List Addr} (σ' : L2.St) (H' : Hp) (s' : Shared) (J' : Inv (X.blk s3 H3 scope (compEnvC scope cl C X.env) fp) [] σ' H' s') (none' : ∀ b ∈ fp, H' b = none) :
    ∀ b ∈ fp, FpOk (X.blk s3 H3 scope (compEnvC scope cl C X.env) fp) [] H' b := fun b hb =>
  ⟨none' b hb, (J'.ok.exf b hb).1, J'.ok.exfs b hb, .inl hb, fun x c e => (J'.ok.exf b hb).2 x c e, fun p hp => absurd (show p ∈ ([] : List (Addr × Obj)) ++ [] from hp) (by simp)⟩
end
end GX
set_option Elab.async false
set_option linter.all false
set_option maxRecDepth 100000
set_option maxHeartbeats 4000000
/-! {e for x in xs for y in ys} -/
namespace GX
open PySem PySem.Spec PyProof.Rows L2 PpSet
section
variable {prog : Program} {w : World} {A : Around} {R : Result → Shared → Prop} {s : Shared} {elt t0 i0 t1 i1 : Expr} {scope : Scope} {pos : Pos} {it acc : Value} {env : Env}
/-- an error of the loop, noted -/
abbrev bad (M : Model) (A : Around) (env : Env) (R : Result → Shared → Prop) : Value → Shared → Prop := notedBy M A env fun e s' => R (.error e) s'
end
end GX
set_option Elab.async false
set_option linter.all false
set_option maxRecDepth 100000
set_option maxHeartbeats 4000000
/-! sorted({..}) over data -/
namespace G
open PySem L2
section
variable {Z : Wd} {M H M' H' : Hp} {B : Bas} {W : List (Nat × Addr)} {σ σ' : St} {δ : List S}
variable {te : TE} {tt : TT} {Ω : OD → List S → Prop} {bs vs vs1 : List Nat} {w : World}
theorem I3.turnO {A : Addr} {oA : HO} (I : I3 Z B W M H σ δ) (hA : H A = some oA) (hAm : M A = none) (hAo : ∀ j, ¬ Own σ δ j A) (hno : ∀ v ∈ vs, δ[v]? = some .no) (tA : NT oA := by exact fun _ e => nomatch e) :
    ∃ W2 : List (Nat × Addr), (∀ v ∈ vs, v ∉ W2.map (·.1)) ∧ I3 Z ⟨H, M⟩ W2 M H (wipe σ vs) δ ∧ ∀ M4 H4 σ4 δ4, Ex M M4 → (∀ j, j ∉ vs → σ4[j]? = (wipe σ vs)[j]?) → σ4.length = (wipe σ vs).length → I3 Z ⟨H, M⟩ W2 M4 H4 σ4 δ4 →
      (I3 Z B W M4 H4 σ (wipeS δ4 vs) ∧ H4 A = some oA ∧ M4 A = none ∧ (∀ j, ¬ Own σ (wipeS δ4 vs) j A) ∧ ∀ v ∈ vs, (wipeS δ4 vs)[v]? = some .no) ∧ I3 Z B W M4 H4 σ4 δ4 ∧ (∀ j, ¬ Own σ4 δ4 j A) ∧ ∀ v p, v ∈ vs → (v, p) ∉ W := by
  have hvlen : ∀ v ∈ vs, v < δ.length := fun v hv => (List.getElem?_eq_some_iff.mp (hno v hv)).1
  have hWv : ∀ i p, i ∈ vs → (i, p) ∉ W := fun i p hv hw => by
    exact Own.not (hno i hv) hol_no (I.bor i p hw)
  have Iw : I3 Z B W M H (wipe σ vs) δ := I.swap (fun j hj => wipe_out hj) (wipe_length _ _) (fun _ _ => rfl) (fun j hj _ => hno j hj) rfl hWv
  have hbs : ∀ v ∈ vs, v ∉ (owns 0 (wipe σ vs) δ).map (·.1) := fun v hv hm => by
    obtain ⟨⟨i, p⟩, hmem, rfl⟩ := List.mem_map.mp hm
    exact Own.not (hno _ hv) hol_no (mem_owns.mp hmem)
  have ownEq : ∀ i p, (i, p) ∈ owns 0 (wipe σ vs) δ ↔ Own σ δ i p := fun i p => by
    rw [mem_owns]
    constructor
    · intro o
      have hi' : i ∉ vs := fun hv => Own.not (hno i hv) hol_no o
      exact o.same (wipe_out hi').symm rfl
    · intro o
      have hi' : i ∉ vs := fun hv => Own.not (hno i hv) hol_no o
      exact o.same (wipe_out hi') rfl
  refine ⟨_, hbs, Iw.rebase, fun M4 H4 σ4 δ4 e4 k4 l4 J4 => ?_⟩
  have hl4 : δ4.length = δ.length := by rw [← J4.len, l4, wipe_length, I.len]
  have J5 : I3 Z ⟨H, M⟩ (owns 0 (wipe σ vs) δ) M4 H4 σ (wipeS δ4 vs) := J4.swap (vs := vs) (fun j hj => by rw [k4 j hj, wipe_out hj]) (by rw [l4, wipe_length]) (fun j hj => wipeS_out hj) (fun j hj hlt => wipeS_in (by rw [wipeS_len] at hlt; exact hlt) hj) (wipeS_len _) fun i p hv hw => hbs i hv (List.mem_map_of_mem (f := (·.1)) hw)
  obtain ⟨z1, z2, z3⟩ := J5.stays (a := A) hA hAm (fun i hi => hAo i ((ownEq i A).mp hi)) tA
  obtain ⟨_, y2, _⟩ := J4.stays (a := A) hA hAm (fun i hi => hAo i ((ownEq i A).mp hi)) tA
  exact ⟨⟨I.back ownEq J5, z1, z3, z2, fun v hv => wipeS_in (by rw [hl4]; exact hvlen v hv) hv⟩, I.back ownEq J4, y2, hWv⟩
/-- the set at A has just these members -/
def SetHas (w : World) (H : Hp) (A : Addr) (acc : List Int) : Prop := ∃ us : List Int, H A = some (SetO w A (fun k => decide (k ∈ acc)) us.length) ∧ us.Nodup ∧ ∀ k, k ∈ us ↔ k ∈ acc
theorem SetHas.new {A : Addr} : SetHas w (upd H A (SetO w A (fun _ => false) 0)) A [] := ⟨[], by rw [upd_same]; congr, .nil, by simp⟩
theorem nodup_le : ∀ {us l : List Int}, us.Nodup → (∀ k ∈ us, k ∈ l) → us.length ≤ l.length
  | [], _, _, _ => Nat.zero_le _
  | u :: us, l, n, h => by
    obtain ⟨n1, n2⟩ := List.nodup_cons.mp n
    have hu := h u List.mem_cons_self
    have := nodup_le (us := us) (l := l.erase u) n2 fun k hk => (List.mem_erase_of_ne (fun (e : k = u) => n1 (by rw [← e]; exact hk))).mpr (h k (List.mem_cons_of_mem _ hk))
    rw [List.length_erase_of_mem hu] at this
    have := List.length_pos_of_mem hu
    rw [List.length_cons]; omega
theorem SetHas.join {A : Addr} {acc : List Int} {k : Int} {on : Hp → Prop} (h : SetHas w H A acc) (room : acc.length < 4000) (go : ∀ o, SetHas w (upd H A o) A (acc ++ [k]) → on (upd H A o)) : GX.joins w A (.int k) H on := by
  obtain ⟨us, h1, h2, h3⟩ := h
  have l := nodup_le h2 fun k hk => (h3 k).mp hk
  have s4 : PySem.scanBound = 4096 := rfl
  refine ⟨k, _, _, rfl, h1, by rw [s4]; omega, go _ ?_⟩
  have e : (fun j => decide (j ∈ acc) || decide (j = k)) = fun j => decide (j ∈ acc ++ [k]) := by funext j; simp
  by_cases c : k ∈ acc
  · refine ⟨us, ?_, h2, fun j => ?_⟩
    · rw [upd_same, e, if_pos (by simpa using c)]
    · rw [h3, List.mem_append, List.mem_singleton]
      exact ⟨.inl, fun z => z.elim id fun z => z ▸ c⟩
  · refine ⟨us ++ [k], ?_, ?_, fun j => ?_⟩
    · rw [upd_same, e, if_neg (by simpa using c), List.length_append, List.length_singleton]
    · refine List.nodup_append.mpr ⟨h2, by simp, fun x hx y hy z => ?_⟩
      rw [List.mem_singleton.mp hy] at z
      exact c (z ▸ (h3 x).mp hx)
    · rw [List.mem_append, List.mem_append, h3]
/-- sorted of such a set -/
theorem sort_set {A : Addr} {acc few : List Int} {Q : VK} {M1 H1 : Hp} {δ1 : List S} (h : SetHas w H1 A acc) (lf : few.length < 64) (hf : ∀ k ∈ acc, k ∈ few) (I1 : I3 Z B W M1 H1 σ δ1) (e : Ex M M1) (f : ∀ ns : List Int, ns.Pairwise (· < ·) → (∀ k, k ∈ ns ↔ k ∈ acc) → Ω (.lst (ns.map .int)) δ1)
    (q : ∀ M' H' δ' p ho y, Ω y δ' → Ex M M' → I3 Z B W M' H' σ δ' → H' p = some ho → ODAt Z M' ho y → M' p = none → B.h p = none → (∀ i, ¬ Own σ δ' i p) → Q (.ref p) H') : rSortedSet w [.ref A] H1 Q := by
  obtain ⟨us, h1, h2, h3⟩ := h
  have l := nodup_le (l := few) h2 fun k hk => hf k ((h3 k).mp hk)
  exact ⟨A, _, _, rfl, h1, by omega, fun ns p asc mem _ hp => newO (o := .lst _) (y := .lst _) I1 hp (AtL.ofInts ns) (f ns asc fun k => (mem k).trans (by simp)) e q⟩
end
end G
set_option Elab.async false
set_option linter.all false
set_option maxRecDepth 100000
set_option maxHeartbeats 4000000
/-! own dicts with ints as keys; bits -/
namespace GX
open PySem PySem.Spec PyProof.Rows L2
end GX
namespace G
open PySem L2
theorem units1 {k : Nat} {A : PySem.Around} (r : Room k A) : A.units + 1 < cLine := by have := r.un; omega
section
variable {Z : Wd} {M H M' H' : Hp} {B : Bas} {W : List (Nat × Addr)} {σ σ' : St} {δ : List S}
variable {te ta tb ty tv : TE} {tt : TT} {s1 : TS} {Φ : D → List S → Prop} {Ω : OD → List S → Prop} {Λ : List D → List S → Prop} {bs vs : List Nat} {P : Po}
def keyD : Key → D | .inl i => .int i | .inr s => .str s
theorem key_at {v : V} {k : Key} (a : At Z M v (keyD k)) : v = kV k := by
  cases k with
  | inl i => cases (a : At Z M v (.int i)); rfl
  | inr s => cases (a : At Z M v (.str s)); rfl
theorem at_key {k : Key} : At Z M (kV k) (keyD k) := by
  cases k with
  | inl i => exact .int
  | inr s => exact .str
/-- what a dict has for a key -/
def dget (kvs : List (Key × D)) (k : Key) : Option D := (kvs.find? fun kv => decide (kv.1 = k)).map (·.2)
theorem dget_at {k : Key} : ∀ {kvs : List (Key × D)} {us : List (Key × V)}, us.map (·.1) = kvs.map (·.1) → AtL Z M (us.map (·.2)) (kvs.map (·.2)) → (dget kvs k = none → valV us k = none) ∧ ∀ d, dget kvs k = some d → ∃ v, valV us k = some v ∧ At Z M v d
  | [], [], _, _ => ⟨fun _ => rfl, nofun⟩
  | [], _ :: _, h, _ => nomatch h
  | _ :: _, [], h, _ => nomatch h
  | (k1, d1) :: kvs, (k2, v2) :: us, h, a => by
    obtain ⟨rfl, h'⟩ := List.cons.inj h
    obtain ⟨v, ws, e, a1, a2⟩ := AtL.inv (a : AtL Z M (v2 :: us.map (·.2)) (d1 :: kvs.map (·.2)))
    obtain ⟨rfl, rfl⟩ := List.cons.inj e
    have ih := dget_at (k := k) h' a2
    by_cases c : k2 = k
    · subst c
      refine ⟨fun z => by simp [dget] at z, fun d z => ⟨v2, valV_pos rfl, ?_⟩⟩
      simp [dget] at z
      exact z ▸ a1
    · have e1 : dget ((k2, d1) :: kvs) k = dget kvs k := by simp [dget, List.find?_cons, c]
      rw [e1, valV_neg c]
      exact ih
theorem xo_dnew (h : Ω (.dic []) δ) : XO Z tDNewK δ Ω := XO.mk fun B W M H σ Q I q => fun p hp => newO (o := .dK []) (y := .dic []) I hp ⟨rfl, .nil⟩ h Ex.rfl' q
/-- d[k], d an own dict -/
theorem xe_dgetO {i : Nat} (hv : ∃ y, δ[i]? = some (.own y)) (h : XE Z ty δ fun b δ2 => ∃ kvs k d, δ2[i]? = some (.own (.dic kvs)) ∧ b = keyD k ∧ dget kvs k = some d ∧ Φ d δ2) : XE Z (tDGet (tVar i) ty) δ Φ := XE.mk fun B W M H σ Q I q => by
  obtain ⟨y, hy⟩ := hv
  obtain ⟨o, e, p, ho, rfl, _⟩ := I.sl i _ hy
  refine ⟨_, e, h.run I fun M2 H2 δ2 v b h2 e2 I2 at2 => ?_⟩
  obtain ⟨kvs, k, d, hx, rfl, hd, f⟩ := h2
  obtain ⟨o', e', p', ho', rfl, hp', hy', _⟩ := I2.sl i _ hx
  rw [e] at e'; cases e'
  obtain ⟨us, rfl, ks, a⟩ := hy'.dicI
  obtain ⟨v1, hv1, a1⟩ := (dget_at ks a).2 d hd
  cases key_at at2
  exact ⟨_, v1, rfl, hv1 ▸ DGet.k hp', q M2 H2 δ2 _ _ f e2 I2 a1⟩
/-- d[k], d a datum -/
theorem xe_dget (h : XE Z ta δ fun a δ1 => XE Z ty δ1 fun b δ2 => ∃ kvs k d, a = .dic (kvs.map (·.1)) (kvs.map (·.2)) ∧ b = keyD k ∧ dget kvs k = some d ∧ Φ d δ2) : XE Z (tDGet ta ty) δ Φ := XE.mk fun B W M H σ Q I q =>
  h.run I fun M1 H1 δ1 x a h1 e1 I1 at1 => XE.run h1 I1 fun M2 H2 δ2 v b h2 e2 I2 at2 => by
    obtain ⟨kvs, k, d, rfl, rfl, hd, f⟩ := h2
    cases key_at at2
    cases at1.mono e2 with
    | dic m ks l c =>
      obtain ⟨v1, hv1, a1⟩ := (dget_at (M := M2) ks ⟨l, c⟩).2 d hd
      exact ⟨_, v1, rfl, hv1 ▸ DGet.k (I2.ex _ _ m), q M2 H2 δ2 _ _ f (e1.tr e2) I2 a1⟩
/-- list(d): the keys -/
theorem xo_listD (h : XE Z te δ fun a δ1 => ∃ kvs : List (Key × D), a = .dic (kvs.map (·.1)) (kvs.map (·.2)) ∧ Ω (.lst (kvs.map fun kv => keyD kv.1)) δ1) :
    XO Z (tCB (fun xs H Q => ∃ (a : Addr) (kvs : List (Key × V)), xs = [.ref a] ∧ Rd H a (.dK kvs) ∧ ∀ p, H p = none → Q (.ref p) (upd H p (.lst (kvs.map fun kv => kV kv.1)))) (tCons te tNil)) δ Ω := XO.mk fun B W M H σ Q I q =>
  h.run I fun M1 H1 δ1 x a h1 e1 I1 at1 => by
    obtain ⟨kvs, rfl, f⟩ := h1
    cases at1 with
    | @dic a us _ _ m ks l c =>
      refine ⟨a, us, rfl, .inl (I1.ex _ _ m), fun p hp => newO (o := .lst _) (y := .lst _) I1 hp ?_ f e1 q⟩
      have e : (us.map fun kv => kV kv.1) = (kvs.map (·.1)).map kV := by rw [← ks, List.map_map]; rfl
      show AtL Z M1 (us.map fun kv => kV kv.1) (kvs.map fun kv => keyD kv.1)
      rw [e, List.map_map]
      refine ⟨by simp, fun i v d h1 h2 => ?_⟩
      rw [List.getElem?_map] at h1 h2
      cases z : kvs[i]? with
      | none => rw [z] at h1; cases h1
      | some kv => rw [z] at h1 h2; cases h1; cases h2; exact at_key
/-- 1 << k -/
theorem xe_oneShl (h : XE Z ta δ fun a δ1 => a = .int 1 ∧ XE Z tb δ1 fun b δ2 => ∃ k : Nat, b = .int (k : Int) ∧ k ≤ 1000 ∧ Φ (.int (2 ^ k)) δ2) : XE Z (tOp (fun x y H Q => ∃ k : Nat, x = .int 1 ∧ y = .int (k : Int) ∧ k ≤ 134217727 ∧ Q (.int (2 ^ k)) H) ta tb) δ Φ := XE.mk fun B W M H σ Q I q =>
  h.run I fun M1 H1 δ1 x a h1 e1 I1 at1 => by
    obtain ⟨rfl, h1⟩ := h1
    cases at1
    exact XE.run h1 I1 fun M2 H2 δ2 y b h2 e2 I2 at2 => by
      obtain ⟨k, rfl, l, f⟩ := h2
      cases at2
      exact ⟨k, rfl, rfl, by omega, q M2 H2 δ2 _ _ f (e1.tr e2) I2 .int⟩
end
end G
namespace G
open PySem L2
theorem pi_listK {X : L2.Cx} {K : PySem.W.Frag} {tg l : PySem.Expr} {tl : L2.TE} (hK : X.K = K) (h : L2.PE X l tl) : L2.PI X tg l (L2.iList K tl) := hK ▸ L2.pi_list h
theorem pt_truthK {X : L2.Cx} {K : PySem.W.Frag} {e : PySem.Expr} {te : L2.TE} (hK : X.K = K) (h : L2.PE X e te) (he : ∀ whole, isTrue e X.env whole = (do let v ← whole; standAt e.pos; holding [v] (truthy v))) : L2.PT X e (fun σ H Q => te σ H fun x H' => ∃ k, TruV K x H' k ∧ Q k H') := by
  subst hK; exact L2.pt_truth h he
end G
namespace G
open PySem L2
section
variable {Z : Wd} {δ : List S} {te : TE} {Φ : D → List S → Prop} {bs : List Nat} {P : Po}
/-- an own dict that is handed on -/
theorem xe_ofOD (h : XO Z te δ fun y δ' => ∃ kvs : List (Key × D), y = .dic kvs ∧ Φ (.dic (kvs.map (·.1)) (kvs.map (·.2))) δ') : XE Z te δ Φ := XE.mk fun B W M H σ Q I k =>
  h.run I fun M' H' δ' p ho y f e I' a b c d g => by
    obtain ⟨kvs, rfl, f⟩ := f
    obtain ⟨vs, rfl, ak, l⟩ := b.dicI
    have ex : Ex M' (upd M' p (.dK vs)) := Ex.new c
    exact k _ _ δ' _ _ f (e.tr ex) (I'.hold a c d g) (.dic upd_same ak l.len (l.mono ex).at')
end
end G
set_option Elab.async false
set_option linter.all false
set_option maxRecDepth 100000
/-! list.extend by a bare tuple -/
namespace GX
open PySem PySem.Spec PyProof.Rows L2
end GX
namespace G
open PySem L2
section
variable {Z : Wd} {δ : List S} {te : TE} {Φ : D → List S → Prop}
/-- xs[::-1], a list -/
theorem xo_revL {Ω : OD → List S → Prop} (h : XE Z te δ fun d δ1 => ∃ xs, d = .lst xs ∧ Ω (.lst xs.reverse) δ1) : XO Z (tRevL Z.K te) δ Ω := XO.mk fun B W M H σ Q I q =>
  h.run I fun M1 H1 δ1 x a h1 e1 I1 at1 => by
    obtain ⟨xs, rfl, f⟩ := h1
    cases at1 with
    | lst k l c => exact ⟨_, _, rfl, SqL.of (I1.ex _ _ k), fun p hp => newO (o := .lst _) (y := .lst _) I1 hp (AtL.rev ⟨l, c⟩) f e1 q⟩
end
end G
set_option Elab.async false
set_option linter.all false
set_option maxRecDepth 100000
set_option maxHeartbeats 4000000
/-! tuples of texts: t < u, and sorted of a list of them, the first of which is empty -/
namespace GX
open PySem PySem.Spec PySem.W PySem.SeqAt PyProof.Rows L2
theorem toks_S : ∀ {l m : List Str}, keyToksAll (l.map .str) = keyToksAll (m.map .str) → l = m
  | [], [], _ => rfl
  | [], y :: m, h => by rw [List.map_cons, toks_all_cons] at h; simp [keyToksAll] at h
  | x :: l, [], h => by rw [List.map_cons, toks_all_cons] at h; simp [keyToksAll] at h
  | x :: l, y :: m, h => by
    rw [List.map_cons, List.map_cons, toks_all_cons, toks_all_cons] at h
    have h := (List.cons.inj h).2
    have h1 : Sum.inr x.cps.toList :: keyToksAll (l.map .str) = Sum.inr y.cps.toList :: keyToksAll (m.map .str) := by simpa [keyToks] using h
    obtain ⟨e1, e2⟩ := List.cons.inj h1
    rw [str_of_cps (Sum.inr.inj e1), toks_S e2]
end GX
namespace GX
open PySem PySem.Spec PySem.W PySem.SeqAt PyProof.Rows L2
section
variable {X : Cx}
/-- a dict that nobody else holds, from here on as it is -/
def tLk (td : TE) : TE := fun σ H Q => td σ H fun x H1 => ∃ d kvs, x = .ref d ∧ H1 d = some (.dK kvs) ∧ ∀ o, Q x (upd H1 d (.frz o (.dK kvs)))
end
end GX
namespace G
open PySem L2
section
variable {Z : Wd} {M : Hp} {δ : List S} {te ta tb : TE} {Φ : D → List S → Prop} {Ω : OD → List S → Prop} {Λ : List D → List S → Prop}
theorem py_S : ∀ l : List Str, pyL (l.map .str) = l.map .str
  | [] => rfl
  | x :: l => by rw [List.map_cons, List.map_cons, ← py_S l]; rfl
end
end G
set_option Elab.async false
set_option linter.all false
set_option maxRecDepth 100000
set_option maxHeartbeats 4000000
/-! calls whose arguments all have names -/
namespace GX
open PySem PySem.Spec PyProof.Rows L2 ClX
end GX
namespace G
open PySem L2
end G
set_option Elab.async false
set_option linter.all false
set_option maxRecDepth 100000
set_option maxHeartbeats 4000000
/-! where nothing is being shown: repr and str of tuples and lists, defs that use them, the law's own call -/
namespace GG
open PySem PySem.Spec PyProof.Rows L2
/-- what a def promises where nothing is being shown -/
structure FnG (P : Program) (w : World) (K : PySem.W.Frag) (mg : Str → Option Value) (base : Heap) (CX : CXT) (k : Nat) (f : Addr) (fd : FuncData) (ps : List Str) (sp : Sp) : Prop where
  wide : ∀ {vs H Q E}, sp vs H Q E → vs.length = ps.length
  go : ∀ {A outer s H args us vs Q E}, A.guards = some [] → Room k A → Env0 P w K mg base A outer s H → BindsTo s fd args (ps.zip us) → Vals vs us → sp vs H Q E →
    codeAny (model P w) A (.call (.ref f) args) (CR CX outer P w H s Q E) s
section
variable {P : Program} {w : World} {K : PySem.W.Frag} {mg : Str → Option Value} {base : Heap} {k : Nat} {f : Addr} {fd : FuncData} {ps : List Str} {sp : Sp}
theorem FnG.of {CX : CXT} (F : FnOk P w K mg base CX k f fd ps sp) : FnG P w K mg base CX k f fd ps sp :=
  ⟨fun h => F.len _ _ _ _ h, fun _ hr e0 hb r hs => F.run _ _ _ _ _ _ _ _ _ hr e0 hb r hs⟩
theorem FnG.imp {CX : CXT} {sp' : Sp} (F : FnG P w K mg base CX k f fd ps sp) (h : ∀ vs H Q E, sp' vs H Q E → sp vs H Q E) : FnG P w K mg base CX k f fd ps sp' :=
  ⟨fun q => F.wide (h _ _ _ _ q), fun g hr e0 hb r hs => F.go g hr e0 hb r (h _ _ _ _ hs)⟩
theorem FnG.made {CX : CXT} {name qual : Str} {params : Arguments} {body : List Stmt} {scope : Scope} {dV kV doc pm cdv ct oc : Value} {an od : Option Addr} {osl : Array (Option Value)} {N : List Str}
    (lk : K.lookup f = some ⟨oc, od, .func (PySem.W.fnOf name qual params body scope dV kV doc pm an cdv ct), osl⟩) (hcd : PySem.W.codeIn K cdv qual = true) (S : FnScope N ps scope) (len : ∀ vs H Q E, sp vs H Q E → vs.length = ps.length)
    (bd : ∀ (A : Around) (outer : List Env) (s : Shared) (H : Hp) (vs : List V) (Q : VK) (E : XK), A.guards = some [] → Room k (A.deeper (envOfC qual scope s.heap.objs.size f cdv)) → sp vs H Q E →
      ∃ t, PSs (cxOf CX P w K mg base N qual scope f cdv A outer s H E) body t ∧ t { nx := fun _ H' => Q .non H', rt := Q } (start N vs) H) : FnG P w K mg base CX (k + 1) f (PySem.W.fnOf name qual params body scope dV kV doc pm an cdv ct) ps sp := by
  refine ⟨fun h => len _ _ _ _ h, fun {A outer s H args us vs Q E} g hr e0 hb rv hs => ?_⟩
  have kept : ∀ b o, base.get? b = some o → s.heap.get? b = some o := fun b o e => (e0.bs b o e).1
  have kin : K.In s.heap := e0.mod.kin.keeps kept
  have hkind : ∀ y ∈ ps.zip us, scope.names.lookup y.1 = some .local ∨ (scope.names.lookup y.1 = some .cell ∧ ((cellsFrom (s.heap.objs.size + 1) scope.names []).lookup y.1).isSome = true) := by
    rintro ⟨n, v⟩ hy
    exact (S.par n (List.of_mem_zip hy).1).imp id fun q => ⟨q, PySem.W.cellsFrom_some _ _ _ (.inl q)⟩
  have body := codeAny_call_function (prog := P) (w := w) (args := args) (R := CR CX outer P w H s Q E) hr.depth (kin _ _ lk) rfl S.co S.gen rfl
    (PySem.W.codeRec_of kin hcd)
  refine body (hb _ _ _ _ (wpAny_newFunctionEnv_cells S.kind hkind fun env he s1 x => ?_))
  cases he
  refine ⟨(e0.mod.nolimit.keeps kept).keeps x.toInCall.keep, codeAny_func ?_⟩
  obtain ⟨t, ht, hq⟩ := bd A outer s H vs Q E g (hr.deeper _) hs
  refine wpAny_mono (ht.run [] s1 (start N vs) H _ (inv_start S hr.hd e0 (len _ _ _ _ hs) rv x) hq) (fun fl s' z => ?_) fun _ _ z => z
  have close : ∀ {σ2 : L2.St} {H2 : Hp} {v : V} {u : Value}, Inv (cxOf CX P w K mg base N qual scope f cdv A outer s H E) [] σ2 H2 s' → RelV v u → Q v H2 → CE outer P w H s Q u s' := fun J ru q => ⟨_, _, J.os, J.bare, J.base, J.hok, ru, q⟩
  cases fl with
  | ret u => exact let ⟨_, _, _, J, ru, q⟩ := z; close J ru q
  | next => exact let ⟨_, _, J, q⟩ := z; close (v := V.non) J rfl q
  | brk => exact let ⟨_, _, _, q⟩ := z; False.elim q
  | cont => exact let ⟨_, _, _, q⟩ := z; False.elim q
end
/-! ### repr, str -/
end GG
namespace G
open PySem L2
end G
set_option Elab.async false
set_option linter.all false
set_option maxRecDepth 100000
set_option maxHeartbeats 4000000
/-! instances that one def alone holds: made, their methods called; slices of the script -/
namespace G
open PySem L2
section
variable {Z : Wd} {B : Bas} {W : List (Nat × Addr)} {M H : Hp} {σ : St} {δ : List S} {ta te : TE} {tl th : TO} {ts : TA} {Ψ : S → List S → Prop} {Ω : OD → List S → Prop} {Φ : D → List S → Prop} {C : Addr} {c i : Nat} {m : Str}
/-- a slice of the script -/
theorem xo_slScr (h : XE Z te δ fun a δ1 => XP Z tl δ1 fun lo δ2 => XP Z th δ2 fun hi δ3 => ∃ ns : List Int, a = .scr ns ∧ Ω (.lst (cut (ns.map .int) lo hi)) δ3) : XO Z (tSl (rSlL Z.K) te tl th) δ Ω := XO.mk fun B W M H σ Q I q =>
  h.run I fun M1 H1 δ1 x a h1 e1 I1 at1 => h1 B W M1 H1 σ _ I1 fun M2 H2 δ2 lo h2 e2 I2 => h2 B W M2 H2 σ _ I2 fun M3 H3 δ3 hi h3 e3 I3' => by
    obtain ⟨ns, rfl, f⟩ := h3
    cases at1 with
    | scr hs =>
      exact ⟨_, _, rfl, sqL_mono (I3'.ex) (sqL_mono (e2.tr e3) hs), fun p hp => newO I3' hp (show ODAt Z M3 (.lst _) (.lst _) from AtL.cut lo hi (AtL.ofInts ns)) f (e1.tr (e2.tr e3)) q⟩
end
end G
set_option Elab.async false
set_option linter.all false
set_option maxRecDepth 100000
set_option maxHeartbeats 4000000
/-! calls within comprehensions within comprehensions: their rules know K -/
namespace G
open PySem L2
end G
set_option Elab.async false
set_option linter.all false
set_option maxRecDepth 100000
set_option maxHeartbeats 4000000
/-! defs that borrow their first two arguments, each an object that the caller alone holds -/
namespace G
open PySem L2
end G
set_option Elab.async false
set_option linter.all false
set_option maxRecDepth 100000
set_option maxHeartbeats 4000000
/-! tuples known to be plain ones; own dicts whose keys are such tuples -/
namespace G
open PySem L2
end G
set_option Elab.async false
set_option linter.all false
set_option maxRecDepth 100000
set_option maxHeartbeats 4000000
/-! dicts of lists that grow; dict comprehensions; dicts that are walked; sorted of any alike data -/
namespace GX
open PySem PySem.Spec PySem.W PySem.SeqAt PyProof.Rows L2
/-- a name and a lot -/
def encP (p : Str × List Str) : PyData := .tuple [.str p.1, .tuple (p.2.map .str)]
end GX
namespace G
open PySem L2
section
variable {Z : Wd} {M H M' H' : Hp} {B : Bas} {W : List (Nat × Addr)} {σ σ' : St} {δ δ' : List S}
variable {te ta tb ty tv tk : TE} {tt : TT} {s1 s2 : TS} {Φ : D → List S → Prop} {Ω : OD → List S → Prop} {Λ : List D → List S → Prop} {bs vs : List Nat} {P : Po} {wi : TI} {g : TG}
/-! ### dicts that are walked -/
/-- a dict that a call has given, from here on as it is -/
theorem xe_lk (h : XO Z te δ fun y δ' => ∃ kvs : List (Key × D), y = .dic kvs ∧ Φ (.dicF (kvs.map (·.1)) (kvs.map (·.2))) δ') : XE Z (GX.tLk te) δ Φ := XE.mk fun B W M H σ Q I q =>
  h.run I fun M' H' δ' p ho y f e I' a b c d g => by
    obtain ⟨kvs, rfl, f⟩ := f
    obtain ⟨us, rfl, ks, al⟩ := b.dicI
    refine ⟨p, us, rfl, a, fun o => ?_⟩
    have J1 : I3 Z B W M' (upd H' p (.frz o (.dK us))) σ δ' := I'.other d c g
    have ex : Ex M' (upd M' p (.frz o (.dK us))) := Ex.new c
    exact q _ _ δ' _ _ f (e.tr ex) (J1.hold upd_same c d g) (.dicF upd_same ks al.len (al.mono ex).at')
/-- for k, v in d.items() -/
theorem xi_itemsF (h : XE Z te δ fun d δ1 => ∃ kvs : List (Key × D), d = .dicF (kvs.map (·.1)) (kvs.map (·.2)) ∧ Λ (kvs.map fun kv => .tup [keyD kv.1, kv.2]) δ1) : XI Z (iItems te) δ Λ := fun B W M H σ R I q =>
  h.run I fun M1 H1 δ1 x a h1 e1 I1 at1 => by
    obtain ⟨kvs, rfl, f⟩ := h1
    cases at1 with
    | @dicF p o us _ _ m ks l c =>
      have len : us.length = kvs.length := by simpa using congrArg List.length ks
      refine ⟨p, o, us, rfl, I1.ex _ _ m, q _ _ δ1 _ _ f e1 I1 ⟨fun i H hi eH => ?_, fun H eH => ?_, fun i H x H' M2 hi e1 e2 yl => ?_⟩⟩
      · rw [List.length_map] at hi
        exact ⟨eH _ _ m, by omega⟩
      · rw [List.length_map]
        exact ⟨eH _ _ m, by omega⟩
      · obtain ⟨T, k, v, hk, rfl, hT, rfl⟩ := yl
        have k1 : (us.map (·.1))[i]? = some k := by rw [List.getElem?_map, hk]; rfl
        rw [ks, List.getElem?_map] at k1
        obtain ⟨kv, h1, rfl⟩ := Option.map_eq_some_iff.mp k1
        have a2 : At Z M2 v kv.2 := (c i v kv.2 (by rw [List.getElem?_map, hk]; rfl) (by rw [List.getElem?_map, h1]; rfl)).mono e1
        exact ⟨_, by rw [List.getElem?_map, h1]; rfl, .inr ⟨T, [kV kv.1, v], [keyD kv.1, kv.2], hT, rfl, rfl, .cons at_key (.one a2), rfl⟩⟩
/-- d[k], d such a dict -/
theorem xe_dgetF (h : XE Z ta δ fun a δ1 => XE Z ty δ1 fun b δ2 => ∃ kvs k d, a = .dicF (kvs.map (·.1)) (kvs.map (·.2)) ∧ b = keyD k ∧ dget kvs k = some d ∧ Φ d δ2) : XE Z (tDGet ta ty) δ Φ := XE.mk fun B W M H σ Q I q =>
  h.run I fun M1 H1 δ1 x a h1 e1 I1 at1 => XE.run h1 I1 fun M2 H2 δ2 v b h2 e2 I2 at2 => by
    obtain ⟨kvs, k, d, rfl, rfl, hd, f⟩ := h2
    cases key_at at2
    cases at1.mono e2 with
    | @dicF p o us _ _ m ks l c =>
      obtain ⟨v1, hv1, a1⟩ := (dget_at (M := M2) ks ⟨l, c⟩).2 d hd
      exact ⟨_, v1, rfl, .inl ⟨us, k, .inr ⟨o, I2.ex _ _ m⟩, rfl, hv1.symm⟩, q M2 H2 δ2 _ _ f (e1.tr e2) I2 a1⟩
/-! ### {k: v for ..} -/
theorem xo_dc (h : XI Z wi δ fun xs δ0 => (∀ v ∈ vs, δ0[v]? = some .no) ∧ xs.length ≤ 1000000 ∧ ∃ J : Nat → List (Key × D) → List S → Prop, J 0 [] δ0 ∧
      (∀ i d acc δ1 bs, (∀ v ∈ vs, v ∉ bs) → xs[i]? = some d → J i acc δ1 → XG Z vs bs g d δ1 fun δ2 => XT Z tt δ2 fun b δ3 => if b = true then XE Z tk δ3 fun y δ4 => XE Z tv δ4 fun z δ5 => ∃ k, y = keyD k ∧ dget acc k = none ∧ J (i + 1) (acc ++ [(k, z)]) (wipeS δ5 vs) else J (i + 1) acc (wipeS δ3 vs)) ∧
      ∀ acc δ1, J xs.length acc δ1 → Ω (.dic acc) δ1) : XO Z (tDc wi g tt tk tv vs) δ Ω := XO.mk fun B W M H σ Q I q =>
  h B W M H σ _ I fun M' H1 δ' J xs f e1 I1 wd A hA => by
    obtain ⟨hno, hxs, Jv, j0, js, jn⟩ := f
    have hAB := I1.fresh hA
    have hAm := I1.ex.free hA
    refine ⟨fun i m H => m = xs.length - i ∧ i ≤ xs.length ∧ ∃ M'' δ'' acc us, Ex M' M'' ∧ I3 Z B W M'' H σ δ'' ∧ Jv i acc δ'' ∧ H A = some (.dK us) ∧ us.map (·.1) = acc.map (·.1) ∧ AtL Z M'' (us.map (·.2)) (acc.map (·.2)) ∧ M'' A = none ∧ (∀ j, ¬ Own σ δ'' j A) ∧ (∀ v ∈ vs, δ''[v]? = some .no) ∧ acc.length ≤ i,
      ⟨_, rfl, Nat.zero_le _, M', δ', [], [], Ex.rfl', I1.other hAB hAm (I1.newOwn hA), j0, upd_same, rfl, .nil, hAm, I1.newOwn hA, hno, Nat.le_refl _⟩, ?_⟩
    rintro i m Ha ⟨rfl, hi, M'', δ'', acc, us, a, Ia, ja, hA1, ks, al, hAm1, hAo, hno1, hacc⟩
    by_cases lt : i < xs.length
    · refine .inr ⟨wd.go i Ha lt (a.tr Ia.ex), fun Hn => i + 1 ≤ xs.length ∧ ∃ M'' δ'' acc us, Ex M' M'' ∧ I3 Z B W M'' Hn σ δ'' ∧ Jv (i + 1) acc δ'' ∧ Hn A = some (.dK us) ∧ us.map (·.1) = acc.map (·.1) ∧ AtL Z M'' (us.map (·.2)) (acc.map (·.2)) ∧ M'' A = none ∧ (∀ j, ¬ Own σ δ'' j A) ∧ (∀ v ∈ vs, δ''[v]? = some .no) ∧ acc.length ≤ i + 1,
        fun H' z => ⟨xs.length - (i + 1), by omega, rfl, z⟩, fun x Hb yl => ?_⟩
      obtain ⟨d, M2, hd, e2, I2, at2, k2, m2⟩ := YD.use (wd.walk.yields i Ha x Hb lt (a.tr Ia.ex) yl) a Ia
      obtain ⟨W2, hbs, Iw, fin⟩ := I2.turnO (vs := vs) (k2 _ _ hA1) (m2 _ _ hA1 hAm1) hAo hno1
      refine js i d acc δ'' _ hbs hd ja _ _ M2 Hb (wipe σ vs) x _ rfl Iw at2 fun M3 H3 σ3 δ3 h3 e3 J3 k3 l3 => ⟨(wipe_eq k3 l3).trans (wipe_eq (fun j hj => wipe_out hj) (wipe_length _ _)), ?_⟩
      refine h3 _ _ M3 H3 σ3 _ J3 fun M4 H4 δ4 b h4 e4 J4 => ?_
      cases b with
      | false =>
        rw [if_neg Bool.false_ne_true] at h4 ⊢
        obtain ⟨⟨z1, z2, z3, z4, z5⟩, _⟩ := fin M4 H4 σ3 δ4 (e3.tr e4) k3 l3 J4
        exact ⟨lt, M4, _, _, _, a.tr (e2.tr (e3.tr e4)), z1, h4, z2, ks, al.mono (e2.tr (e3.tr e4)), z3, z4, z5, Nat.le_succ_of_le hacc⟩
      | true =>
        rw [if_pos rfl] at h4 ⊢
        refine XE.run h4 J4 fun M5 H5 δ5 y' d' h5 e5 J5 at5 => XE.run h5 J5 fun M6 H6 δ6 z' d6 h6 e6 J6 at6 => ?_
        obtain ⟨k, rfl, hk, h6⟩ := h6
        cases key_at at5
        have ex6 : Ex M2 M6 := e3.tr (e4.tr (e5.tr e6))
        obtain ⟨⟨z1, z2, z3, z4, z5⟩, _⟩ := fin M6 H6 σ3 δ6 ex6 k3 l3 J6
        have lu : us.length = acc.length := by simpa using congrArg List.length ks
        have no := (dget_at (M := M'') ks al).1 hk
        have put : putK us k z' = us ++ [(k, z')] := by unfold putK; rw [valV_any, no]; rfl
        refine ⟨us, k, rfl, z2, Nat.lt_of_lt_of_le (by omega : us.length < 1000001) (by decide), lt, M6, _, _, us ++ [(k, z')], a.tr (e2.tr ex6), z1.other hAB z3 z4, h6, by rw [put, upd_same], by simp [ks], ?_, z3, z4, z5, by rw [List.length_append, List.length_singleton]; omega⟩
        rw [List.map_append, List.map_append]
        exact AtL.app (al.mono (e2.tr ex6)) (.one at6)
    · obtain rfl : i = xs.length := by omega
      exact .inl ⟨wd.stop Ha (a.tr Ia.ex), q M'' Ha δ'' A _ (.dic acc) (jn _ _ ja) (e1.tr a) Ia hA1 ⟨ks, al⟩ hAm1 hAB hAo⟩
/-! ### a dict of lists that grow: held loosely -/
structure Fr (B : Bas) (M : Hp) (σ : St) (δ : List S) (q : Addr) : Prop where
  m : M q = none
  b : B.h q = none
  o : ∀ i, ¬ Own σ δ i q
structure Lo (Z : Wd) (B : Bas) (M H : Hp) (σ : St) (δ : List S) (p : Addr) (gs : List (Key × List D)) (qs : List Addr) : Prop where
  hp : H p = some (.dK ((gs.map (·.1)).zip (qs.map V.ref)))
  len : qs.length = gs.length
  nd : (p :: qs).Nodup
  fr : ∀ q ∈ p :: qs, Fr B M σ δ q
  ls : ∀ (i : Nat) q x, qs[i]? = some q → gs[i]? = some x → ∃ vs, H q = some (.lst vs) ∧ AtL Z M vs x.2
  kn : (gs.map (·.1)).Nodup
variable {p : Addr} {gs : List (Key × List D)} {qs : List Addr}
theorem Lo.here (L : Lo Z B M H σ δ p gs qs) {q : Addr} (hq : q ∈ p :: qs) : ∃ o, H q = some o := by
  rcases List.mem_cons.mp hq with rfl | hq
  · exact ⟨_, L.hp⟩
  · obtain ⟨i, hi⟩ := List.mem_iff_getElem?.mp hq
    have : i < gs.length := by rw [← L.len]; exact (List.getElem?_eq_some_iff.mp hi).1
    obtain ⟨vs, e, _⟩ := L.ls i q _ hi (List.getElem?_eq_getElem this)
    exact ⟨_, e⟩
theorem Lo.nt (L : Lo Z B M H σ δ p gs qs) {q : Addr} {o : HO} (hq : q ∈ p :: qs) (e : H q = some o) : NT o := by
  rcases List.mem_cons.mp hq with rfl | hq
  · rw [L.hp] at e; cases e; exact fun _ e => nomatch e
  · obtain ⟨i, hi⟩ := List.mem_iff_getElem?.mp hq
    have : i < gs.length := by rw [← L.len]; exact (List.getElem?_eq_some_iff.mp hi).1
    obtain ⟨vs, e2, _⟩ := L.ls i q _ hi (List.getElem?_eq_getElem this)
    rw [e2] at e; cases e; exact fun _ e => nomatch e
theorem Lo.move (L : Lo Z B M H σ δ p gs qs) (ex : Ex M M') (st : ∀ q o, q ∈ p :: qs → H q = some o → H' q = some o ∧ Fr B M' σ' δ' q) : Lo Z B M' H' σ' δ' p gs qs := by
  refine ⟨(st p _ (by simp) L.hp).1, L.len, L.nd, fun q hq => ?_, fun i q x hi hx => ?_, L.kn⟩
  · obtain ⟨o, e⟩ := L.here hq
    exact (st q o hq e).2
  · obtain ⟨vs, e, a⟩ := L.ls i q x hi hx
    exact ⟨vs, (st q _ (List.mem_cons_of_mem _ (List.mem_of_getElem? hi)) e).1, a.mono ex⟩
/-- code that runs in between does not touch it -/
theorem Lo.keep {W2 : List (Nat × Addr)} (L : Lo Z B M H σ δ p gs qs) (hW : ∀ i a, (i, a) ∈ W2 ↔ Own σ δ i a) (ex : Ex M M') (J : I3 Z ⟨H, M⟩ W2 M' H' σ' δ') : Lo Z B M' H' σ' δ' p gs qs :=
  L.move ex fun q o hq e => by
    have f := L.fr q hq
    obtain ⟨a, b, c⟩ := J.stays e f.m (fun i hi => f.o i ((hW i q).mp hi)) (L.nt hq e)
    exact ⟨a, c, f.b, b⟩
theorem Lo.same (L : Lo Z B M H σ δ p gs qs) (ex : Ex M M') (k : ∀ a o, H a = some o → H' a = some o) (m : ∀ a o, H a = some o → M a = none → M' a = none) : Lo Z B M' H' σ δ p gs qs :=
  L.move ex fun q o hq e => by
    have f := L.fr q hq
    exact ⟨k q o e, m q o e f.m, f.b, f.o⟩
variable {N : List S → List (Key × List D) → Prop}
/-- the list at place i grows -/
theorem Lo.grow {i : Nat} {q : Addr} {k : Key} {xs : List D} {d : D} {vs : List V} {v : V} (L : Lo Z B M H σ δ p gs qs) (hq : qs[i]? = some q) (hg : gs[i]? = some (k, xs)) (hv : H q = some (.lst vs)) (ha : AtL Z M vs xs) (hd : At Z M v d) :
    Lo Z B M (upd H q (.lst (vs ++ [v]))) σ δ p (gs.set i (k, xs ++ [d])) qs := by
  have nd := List.nodup_cons.mp L.nd
  have hp : p ≠ q := fun e => nd.1 (e ▸ List.mem_of_getElem? hq)
  have ks : (gs.set i (k, xs ++ [d])).map (·.1) = gs.map (·.1) := by
    apply List.ext_getElem?
    intro j
    rw [List.getElem?_map, List.getElem?_map, List.getElem?_set]
    by_cases e : i = j
    · subst e
      rw [if_pos rfl, if_pos (List.getElem?_eq_some_iff.mp hg).1, hg]; rfl
    · rw [if_neg e]
  refine ⟨by rw [upd_ne hp, ks]; exact L.hp, by rw [List.length_set]; exact L.len, L.nd, L.fr, fun j r x hj hx => ?_, by rw [ks]; exact L.kn⟩
  by_cases e : i = j
  · subst e
    rw [hq] at hj; cases hj
    rw [List.getElem?_set_self (List.getElem?_eq_some_iff.mp hg).1] at hx; cases hx
    exact ⟨_, upd_same, AtL.app ha (.one hd)⟩
  · rw [List.getElem?_set_ne e] at hx
    have hr : r ≠ q := fun z => by
      subst z
      obtain ⟨l1, e1⟩ := List.getElem?_eq_some_iff.mp hq
      obtain ⟨l2, e2⟩ := List.getElem?_eq_some_iff.mp hj
      exact e ((List.getElem_inj nd.2).mp (e1.trans e2.symm))
    rw [upd_ne hr]
    exact L.ls j r x hj hx
def pairD (p : Str × List Str) : D := .tup [.str p.1, .tup (p.2.map .str)]
theorem pair_py (p : Str × List Str) : pla (pairD p) = true ∧ py (pairD p) = GX.encP p := by
  unfold pairD GX.encP
  constructor
  · simp [pla, plaL, pla_strs]
  · simp [py, pyL, py_S]
end
end G
set_option Elab.async false
set_option linter.all false
set_option maxRecDepth 100000
set_option maxHeartbeats 4000000
/-! min(xs, key=len, default=None) -/
namespace GX
open PySem PySem.Spec PySem.W PyProof.Rows L2
end GX
namespace G
open PySem L2
end G
set_option Elab.async false
set_option linter.all false
set_option maxRecDepth 100000
set_option maxHeartbeats 4000000
/-! sorted of ints; lots in tuples, compared; an int in a tuple of ints -/
namespace G
open PySem L2
end G
set_option Elab.async false
set_option linter.all false
set_option maxRecDepth 100000
set_option maxHeartbeats 4000000
/-! bit_length; a dict locked where a comprehension of two clauses walks it -/
namespace G
open PySem L2
section
variable {Z : Wd} {δ : List S} {te : TE} {Φ : D → List S → Prop} {g g1 : TG} {tt tt1 : TT} {wi1 : TI} {vs vs1 : List Nat}
theorem xe_bits (h : XE Z te δ fun d δ1 => ∃ i, d = .int i ∧ Φ (.int ((PySem.Builtin.Int.intBits i : Nat) : Int)) δ1) : XE Z (tBits te) δ Φ := XE.mk fun B W M H σ Q I q =>
  h.run I fun M1 H1 δ1 x a h1 e1 I1 at1 => by
    obtain ⟨i, rfl, f⟩ := h1
    cases at1
    exact ⟨i, rfl, q M1 H1 δ1 _ _ f e1 I1 .int⟩
end
end G
set_option Elab.async false
set_option linter.all false
set_option maxRecDepth 100000
set_option maxHeartbeats 4000000
/-! min of alike data -/
namespace GX
open PySem PySem.Spec PySem.W PySem.SeqAt PyProof.Rows L2
end GX
namespace G
open PySem L2
end G
namespace GX
open PySem PySem.Spec PySem.W PySem.SeqAt PyProof.Rows L2
end GX
namespace G
open PySem L2
end G
set_option Elab.async false
set_option linter.all false
set_option maxRecDepth 100000
set_option maxHeartbeats 4000000
/-! {k: v} with a tuple as its key -/
namespace GX
open PySem PySem.Spec PyProof.Rows L2
end GX
namespace G
open PySem L2
end G
set_option Elab.async false
set_option linter.all false
set_option maxRecDepth 100000
set_option maxHeartbeats 4000000
/-! deals: a list of a list of ints and an int, which one slot alone holds -/
namespace G
open PySem L2
/-- what a deal holds -/
structure Dl where
  cs : List Int
  n : Int
abbrev FD := Dl → List D → (S → Dl → Prop) → Prop
/-- the first argument is a deal, borrowed -/
def spD (Z : Wd) (F : FD) : Sp := fun vs H Q _ => ∃ M p q y ws ds Φ, vs = .ref p :: ws ∧ SlotOk Z M H (some (.ref p)) (.deal q y.cs y.n) ∧ Ex M H ∧ AtL Z M ws ds ∧ F y ds Φ ∧
  ∀ M' H' v s y', Φ s y' → Ex M M' → Ex M' H' → (∀ a o, a ≠ p → a ≠ q → H a = some o → H' a = some o) → (∀ p o, H p = some o → M p = none → NT o → M' p = none) → SlotOk Z M' H' (some (.ref p)) (.deal q y'.cs y'.n) → RetOk Z ⟨H, M⟩ M' H' v s → Q v H'
section
variable {Z : Wd} {B : Bas} {W : List (Nat × Addr)} {M H M' H' : Hp} {σ : St} {δ : List S} {ts : TA} {te ta tb : TE} {Ψ : S → List S → Prop} {Φ : D → List S → Prop} {bs : List Nat} {P : Po}
theorem I3.dealAt (I : I3 Z B W M H σ δ) {i : Nat} {q : Addr} {cs : List Int} {n : Int} (h : δ[i]? = some (.deal q cs n)) : ∃ p, σ[i]? = some (some (.ref p)) ∧ H p = some (.lst [.ref q, .int n]) ∧ H q = some (.lst (cs.map V.int)) ∧ M p = none ∧ M q = none ∧ p ≠ q := by
  obtain ⟨o, e, p, rfl, k⟩ := I.sl i _ h
  exact ⟨p, e, k⟩
theorem hol_deal {q : Addr} {cs cs' : List Int} {n n' : Int} : ∀ p a, Hol p (.deal q cs n) a ↔ Hol p (.deal q cs' n') a := fun _ _ => Iff.rfl
/-- a call that borrows the deal of slot i -/
theorem xr_callD {F : FD} {dvs : List V} {dds : List D} {E : XK} {i : Nat} (hd : ∀ M : Hp, AtL Z M dvs dds) (hv : ∃ q cs n, δ[i]? = some (.deal q cs n)) (h : XA Z ts δ fun ds δ1 => ∃ q y, δ1[i]? = some (.deal q y.cs y.n) ∧ F y (ds ++ dds) fun s y' => Ψ s (δ1.set i (.deal q y'.cs y'.n))) : XR Z (tCall (spD Z F) dvs E (tCons (tVar i) ts)) δ Ψ := fun B W M H σ Q I k => by
  obtain ⟨q, cs, n, hy⟩ := hv
  obtain ⟨p, e, _⟩ := I.dealAt hy
  refine ⟨_, e, h B W M H σ _ I fun M1 H1 δ1 vs ds h1 e1 I1 al => ?_⟩
  obtain ⟨q1, y, hy1, ff⟩ := h1
  obtain ⟨p1, e', d1, d2, d3, d4, d5⟩ := I1.dealAt hy1
  rw [e] at e'; cases e'
  refine ⟨M1, p, q1, y, vs ++ dvs, ds ++ dds, _, rfl, ⟨p, rfl, d1, d2, d3, d4, d5⟩, I1.ex, al.app (hd M1), ff, fun M' H' v s y' g a1 a2 a3 a4 a5 r => ?_⟩
  exact k M' H' _ v s g (e1.tr a1) (I1.afterS e hy1 hol_deal a1 a2 (fun a o no => a3 a o (fun z => no ⟨p, _, e, hy1, .inl z⟩) (fun z => no ⟨p, _, e, hy1, .inr z⟩)) a4 a5) (ret_res I1 (fun j z o => (Own.setS hy1 hol_deal).mp o) r)
/-- a def's body whose first argument is a deal -/
theorem entD {ts : TS} {N : List Str} {ws : List V} {p q : Addr} {y : Dl} {Q : VK} {n : Nat} {ds : List D} {Φ : S → Dl → Prop} (so : SlotOk Z M H (some (.ref p)) (.deal q y.cs y.n)) (ex : Ex M H) (al : AtL Z M ws ds) (hn : N.length = ds.length + 1 + n)
    (k : ∀ M' H' v s y', Φ s y' → Ex M M' → Ex M' H' → (∀ a o, a ≠ p → a ≠ q → H a = some o → H' a = some o) → (∀ p o, H p = some o → M p = none → NT o → M' p = none) → SlotOk Z M' H' (some (.ref p)) (.deal q y'.cs y'.n) → RetOk Z ⟨H, M⟩ M' H' v s → Q v H')
    (hx : XS Z [0, 0] ts (.deal q y.cs y.n :: (ds.map .d ++ List.replicate n .no)) { N := fun δ' => ∃ y', δ'[0]? = some (.deal q y'.cs y'.n) ∧ Φ (.d .non) y', R := fun s δ' => ∃ y', δ'[0]? = some (.deal q y'.cs y'.n) ∧ Φ s y' }) : ts { nx := fun _ H' => Q .non H', rt := Q } (L2.start N (.ref p :: ws)) H := by
  have hlen := al.len
  have only : ∀ i a, Own (L2.start N (V.ref p :: ws)) (S.deal q y.cs y.n :: (ds.map S.d ++ List.replicate n S.no)) i a → i = 0 ∧ (a = p ∨ a = q) := fun i a o => by
    obtain ⟨r, y', e0, e, c⟩ := o
    cases i with
    | zero =>
      have : some (some (V.ref p)) = some (some (V.ref r)) := e0
      cases this
      cases e; exact ⟨rfl, c⟩
    | succ i =>
      rw [List.getElem?_cons_succ] at e
      exact (plain_no e _ _ c).elim
  have mem : ∀ i a, (i, a) ∈ [(0, p), (0, q)] ↔ i = 0 ∧ (a = p ∨ a = q) := fun i a => by
    simp only [List.mem_cons, Prod.mk.injEq, List.not_mem_nil, or_false]
    constructor
    · rintro (⟨h, r⟩ | ⟨h, r⟩)
      · exact ⟨h, .inl r⟩
      · exact ⟨h, .inr r⟩
    · rintro ⟨h, r | r⟩
      · exact .inl ⟨h, r⟩
      · exact .inr ⟨h, r⟩
  have I : I3 Z ⟨H, M⟩ [(0, p), (0, q)] M H (L2.start N (V.ref p :: ws)) (S.deal q y.cs y.n :: (ds.map S.d ++ List.replicate n S.no)) := by
    refine ⟨ex, fun _ _ _ e _ => e, fun _ _ e _ => e, ?_, fun i s e => ?_, fun i a w => ?_, fun i a o => ?_, fun i j a o o' => ?_⟩
    · unfold L2.start; simp; omega
    · cases i with
      | zero => cases e; exact ⟨some (.ref p), rfl, so⟩
      | succ i =>
        rw [List.getElem?_cons_succ] at e
        have es : (L2.start N (V.ref p :: ws))[i + 1]? = (ws.map some ++ List.replicate n (none : Option V))[i]? := by
          unfold L2.start
          have : N.length - (V.ref p :: ws).length = n := by simp; omega
          rw [this]; rfl
        rw [es]
        by_cases hi : i < ds.length
        · rw [List.getElem?_append_left (by simp [hi]), List.getElem?_map] at e
          cases e1 : ds[i]? with
          | none => rw [e1] at e; cases e
          | some d =>
            rw [e1] at e; cases e
            obtain ⟨v, e2, a⟩ := al.get e1
            refine ⟨some v, ?_, v, rfl, a⟩
            rw [List.getElem?_append_left (by simp; omega), List.getElem?_map, e2]; rfl
        · rw [List.getElem?_append_right (by simp; omega), List.getElem?_replicate] at e
          split at e
          · rename_i h1
            cases e
            refine ⟨none, ?_, trivial⟩
            rw [List.getElem?_append_right (by simp; omega), List.getElem?_replicate, if_pos (by simp at h1 ⊢; omega)]
          · cases e
    · obtain ⟨rfl, h⟩ := (mem i a).mp w
      exact ⟨p, _, rfl, rfl, h⟩
    · exact .inl ((mem i a).mpr (only i a o))
    · rw [(only i a o).1, (only j a o').1]
  have fin : ∀ M' H' σ' δ' y', I3 Z ⟨H, M⟩ [(0, p), (0, q)] M' H' σ' δ' → δ'[0]? = some (.deal q y'.cs y'.n) → (∀ a o, a ≠ p → a ≠ q → H a = some o → H' a = some o) ∧ SlotOk Z M' H' (some (.ref p)) (.deal q (Dl.cs y') y'.n) := fun M' H' σ' δ' y' J e => by
    refine ⟨fun a o h1 h2 e => J.keep a o e fun i hi => ?_, ?_⟩
    · rcases ((mem i a).mp hi).2 with z | z
      · exact h1 z
      · exact h2 z
    · obtain ⟨p', e0, d1, d2, d3, d4, d5⟩ := J.dealAt e
      obtain ⟨r, s, f1, f2, f3⟩ := J.bor 0 p (by simp)
      rw [e] at f2; cases f2
      rw [e0] at f1; cases f1
      have hp : p' = p := by
        rcases f3 with z | z
        · exact z.symm
        · obtain ⟨r2, s2, g1, g2, g3⟩ := J.bor 0 q (by simp)
          rcases so with ⟨_, z0, _, _, _, _, z5⟩
          cases z0
          exact absurd z z5
      subst hp
      exact ⟨p', rfl, d1, d2, d3, d4, d5⟩
  refine hx ⟨H, M⟩ [(0, p), (0, q)] M H _ _ rfl I ⟨fun M' H' σ' δ' f e J => ?_, fun M' H' σ' δ' v s f e J r => ?_, fun _ _ _ _ f => f.elim, fun _ _ _ _ f => f.elim, fun _ _ => trivial⟩
  · obtain ⟨y', hy', f⟩ := f
    obtain ⟨k1, k2⟩ := fin _ _ _ _ _ J hy'
    exact k M' H' .non (.d .non) y' f e J.ex k1 J.mg k2 .non
  · obtain ⟨y', hy', f⟩ := f
    obtain ⟨k1, k2⟩ := fin _ _ _ _ _ J hy'
    exact k M' H' v s y' f e J.ex k1 J.mg k2 r
/-! ### what is in a deal -/
theorem ix0 {K : PySem.W.Frag} {p q : Addr} {n : Int} {Q : VK} (h : H p = some (.lst [.ref q, .int n])) (k : Q (.ref q) H) : rIx K (.ref p) (.int 0) H Q := .inl ⟨p, _, 0, _, rfl, rfl, SqL.of h, rfl, k⟩
theorem ix1 {K : PySem.W.Frag} {p q : Addr} {n : Int} {Q : VK} (h : H p = some (.lst [.ref q, .int n])) (k : Q (.int n) H) : rIx K (.ref p) (.int 1) H Q := .inl ⟨p, _, 1, _, rfl, rfl, SqL.of h, rfl, k⟩
theorem dp_ints {K : PySem.W.Frag} : ∀ cs : List Int, DpAll K H (cs.map V.int) (cs.map PyData.int)
  | [] => .nil
  | c :: cs => .cons (.int c) (dp_ints cs)
theorem lay_ints : ∀ cs : List Int, PyData.canLayAll0 (cs.map PyData.int) = true ∧ PyData.depthAll (cs.map PyData.int) = 0
  | [] => ⟨rfl, rfl⟩
  | c :: cs => by
    have := lay_ints cs
    refine ⟨?_, ?_⟩
    · show PyData.canLayAll0 (PyData.int c :: cs.map PyData.int) = true
      rw [PyData.canLayAll0.eq_2, this.1]
      unfold PyData.canLay0; rfl
    · show PyData.depthAll (PyData.int c :: cs.map PyData.int) = 0
      rw [PyData.depthAll.eq_2, this.2]; rfl
theorem shaped_ints (cs : List Int) : SeqAt.shaped (.list (cs.map PyData.int)) = true := by
  have := lay_ints cs
  show (PyData.canLay0 (PyData.list (cs.map PyData.int)) && decide ((PyData.list (cs.map PyData.int)).depth ≤ 64)) = true
  rw [PyData.canLay0.eq_5, this.1]
  unfold PyData.depth
  rw [this.2]; decide
theorem neq_ints (cs : List Int) : (!PyData.eqv (.list (cs.map PyData.int)) (.list [])) = !cs.isEmpty := by
  cases cs with
  | nil => rfl
  | cons c cs => rfl
variable {i : Nat} {q : Addr} {cs : List Int} {n : Int}
/-- d[0] != [] -/
theorem xe_dealNe (h : δ[i]? = some (.deal q cs n)) (k : Φ (.bl (!cs.isEmpty)) δ) : XE Z (tOp (rNeD Z.K) (tOp (rIx Z.K) (tVar i) (tC (.int 0))) (tLst tNil)) δ Φ := XE.mk fun B W M H σ Q I f => by
  obtain ⟨p, e, d1, d2, d3, d4, d5⟩ := I.dealAt h
  refine ⟨_, e, ix0 d1 ⟨Nat.zero_le _, fun r hr => ?_⟩⟩
  have hq : (upd H r (.lst [])) q = some (.lst (cs.map V.int)) := by rw [upd_ne (ne_of_none d2 hr)]; exact d2
  refine ⟨.list (cs.map .int), .list [], .lst (SqL.of hq) (dp_ints cs), .lst (SqL.of upd_same) .nil, shaped_ints cs, rfl, ?_⟩
  rw [neq_ints]
  exact f M _ δ _ _ k Ex.rfl' (I.other (I.fresh hr) (I.ex.free hr) (I.newOwn hr)) .bl
/-- d[0][k] -/
theorem xe_dealIx (h : δ[i]? = some (.deal q cs n)) (k : XE Z tb δ fun b δ1 => δ1 = δ ∧ ∃ j c, b = .int j ∧ atI cs j = some c ∧ Φ (.int c) δ) : XE Z (tOp (rIx Z.K) (tOp (rIx Z.K) (tVar i) (tC (.int 0))) tb) δ Φ := XE.mk fun B W M H σ Q I f => by
  obtain ⟨p, e, d1, d2, d3, d4, d5⟩ := I.dealAt h
  refine ⟨_, e, ix0 d1 (XE.run k I fun M1 H1 δ1 x b h1 e1 I1 at1 => ?_)⟩
  obtain ⟨rfl, j, c, rfl, hc, g⟩ := h1
  cases at1
  obtain ⟨p', e', f1, f2, f3, f4, f5⟩ := I1.dealAt h
  refine .inl ⟨q, _, j, .int c, rfl, rfl, SqL.of f2, by rw [atI_map, hc]; rfl, f M1 H1 _ _ _ g e1 I1 .int⟩
/-- d[1] -/
theorem xe_dealN (h : δ[i]? = some (.deal q cs n)) (k : Φ (.int n) δ) : XE Z (tOp (rIx Z.K) (tVar i) (tC (.int 1))) δ Φ := XE.mk fun B W M H σ Q I f => by
  obtain ⟨p, e, d1, d2, d3, d4, d5⟩ := I.dealAt h
  exact ⟨_, e, ix1 d1 (f M H δ _ _ k Ex.rfl' I .int)⟩
theorem I3.dealWrite (I : I3 Z B W M H σ δ) {cs' : List Int} {p : Addr} (h : δ[i]? = some (.deal q cs n)) (e : σ[i]? = some (some (.ref p))) : I3 Z B W M (upd H q (.lst (cs'.map V.int))) σ (δ.set i (.deal q cs' n)) := by
  obtain ⟨p', e', d1, d2, d3, d4, d5⟩ := I.dealAt h
  rw [e] at e'; cases e'
  exact I.writeS e h hol_deal (fun a no => upd_ne fun z => no ⟨p, _, e, h, .inr z⟩) ⟨p, rfl, by rw [upd_ne d5]; exact d1, upd_same, d3, d4, d5⟩
/-- d[0].pop() -/
theorem xe_dealPop {c : Int} (h : δ[i]? = some (.deal q (cs ++ [c]) n)) (k : Φ (.int c) (δ.set i (.deal q cs n))) : XE Z (tBM0 Z.K "list" rPop (tOp (rIx Z.K) (tVar i) (tC (.int 0)))) δ Φ := XE.mk fun B W M H σ Q I f => by
  obtain ⟨p, e, d1, d2, d3, d4, d5⟩ := I.dealAt h
  refine ⟨_, e, ix0 d1 ⟨.inl ⟨rfl, _, SqL.of d2⟩, q, _, .int c, rfl, rfl, d2, by simp, ?_⟩⟩
  have : ((cs ++ [c]).map V.int).dropLast = cs.map V.int := by simp
  rw [this]
  exact f M _ _ _ _ k Ex.rfl' (I.dealWrite h e) .int
/-- d[0].append(e) -/
theorem xe_dealApp (hv : ∃ q cs n, δ[i]? = some (.deal q cs n)) (h : XE Z te δ fun d δ1 => ∃ q cs n c, δ1[i]? = some (.deal q cs n) ∧ δ1 = δ ∧ d = .int c ∧ cs.length < 1000000 ∧ Φ .non (δ1.set i (.deal q (cs ++ [c]) n))) : XE Z (tBM Z.K "list" rAppend (tOp (rIx Z.K) (tVar i) (tC (.int 0))) (tCons te tNil)) δ Φ := XE.mk fun B W M H σ Q I f => by
  obtain ⟨q0, cs0, n0, h0⟩ := hv
  obtain ⟨p, e, d1, d2, d3, d4, d5⟩ := I.dealAt h0
  refine ⟨_, e, ix0 d1 ⟨.inl ⟨rfl, _, SqL.of d2⟩, XE.run h I fun M1 H1 δ1 x d h1 e1 I1 at1 => ?_⟩⟩
  obtain ⟨q, cs, n, c, hy, rfl, rfl, hl, g⟩ := h1
  cases at1
  rw [h0] at hy; cases hy
  obtain ⟨p', e', f1, f2, f3, f4, f5⟩ := I1.dealAt h0
  rw [e] at e'; cases e'
  refine ⟨q0, _, _, rfl, rfl, f2, Nat.lt_of_lt_of_le (by rw [List.length_map]; exact hl) (by decide), ?_⟩
  have : cs0.map V.int ++ [V.int c] = (cs0 ++ [c]).map V.int := by simp
  rw [this]
  exact f M1 _ _ _ _ g e1 (I1.dealWrite h0 e) .non
/-- d[1] = e -/
theorem xs_deal1 (h : XE Z te δ fun d δ1 => ∃ q cs n c, δ1[i]? = some (.deal q cs n) ∧ d = .int c ∧ P.N (δ1.set i (.deal q cs c))) : XS Z bs (tAsg te (gSub (tVar i) (tC (.int 1)) rSetL)) δ P := fun B W M H σ E hb I f =>
  h.run I fun M1 H1 δ1 x d h1 e1 I1 at1 => by
    obtain ⟨q, cs, n, c, hy, rfl, g⟩ := h1
    cases at1
    obtain ⟨p, e, d1, d2, d3, d4, d5⟩ := I1.dealAt hy
    refine ⟨_, e, p, _, 1, 1, rfl, rfl, d1, rfl, f.nx _ _ _ _ g e1 (I1.writeS e hy hol_deal (fun a no => upd_ne fun z => no ⟨p, _, e, hy, .inl z⟩) ⟨p, rfl, upd_same, by rw [upd_ne d5.symm]; exact d2, d3, d4, d5⟩)⟩
/-- [xs, n], xs a new list of ints -/
theorem xr_deal (h : XO Z ta δ fun y δ1 => ∃ cs : List Int, y = .lst (cs.map .int) ∧ XE Z tb δ1 fun b δ2 => ∃ n, b = .int n ∧ ∀ q, Ψ (.deal q cs n) δ2) : XR Z (tLst (tCons ta (tCons tb tNil))) δ Ψ := fun B W M H σ Q I f => by
  show ta σ H _
  exact XO.run h I fun M1 H1 δ1 p ho y h1 e1 I1 a1 a2 a3 a4 a5 => by
    obtain ⟨cs, rfl, h1⟩ := h1
    obtain ⟨vs, rfl, al⟩ := a2.lstI
    have := al.ints
    subst this
    refine XE.run h1 I1.rebase fun M2 H2 δ2 x b h2 e2 J at2 => ?_
    obtain ⟨n, rfl, g⟩ := h2
    cases at2
    obtain ⟨k1, k2, k3⟩ := J.stays a1 a3 (fun i hi => a5 i (mem_owns.mp hi)) (.own a2)
    have I2 := I1.back (fun _ _ => mem_owns) J
    refine ⟨by show 2 ≤ sizeLine; decide, fun r hr => ?_⟩
    have hpr : p ≠ r := ne_of_none k1 hr
    have I3' := I2.other (o := .lst [.ref p, .int n]) (I2.fresh hr) (I2.ex.free hr) (I2.newOwn hr)
    refine f _ _ _ _ _ (g p) (e1.tr e2) I3' ⟨r, rfl, ⟨r, rfl, upd_same, by rw [upd_ne hpr]; exact k1, I2.ex.free hr, k3, hpr.symm⟩, fun a ha => ?_⟩
    rcases ha with rfl | rfl
    · exact ⟨I2.fresh hr, I2.newOwn hr⟩
    · exact ⟨a4, k2⟩
theorem xs_retS (h : XR Z te δ fun s δ' => P.R s δ') : XS Z bs (tRet te) δ P := fun B W M H σ E hb I e =>
  h B W M H σ _ I fun M1 H1 δ1 v s h1 e1 I1 r => e.rt _ _ _ _ _ s h1 e1 I1 (by
    cases s with
    | no => exact r
    | d x => exact r
    | own y => obtain ⟨p, ho, a, b, c, d, f, _⟩ := r; exact ⟨p, ho, a, b, c, d, f⟩
    | deal q cs n => obtain ⟨p, a, b, c⟩ := r; exact ⟨p, a, b, fun x hx => (c x hx).1⟩)
/-- x = e, e a new deal -/
theorem xs_setD (hi : i ∉ bs) (h : XR Z te δ fun s δ' => ∃ q cs n, s = .deal q cs n ∧ i < δ'.length ∧ P.N (δ'.set i (.deal q cs n))) : XS Z bs (tAsg te (gName i)) δ P := fun B W M H σ E hb I e =>
  h B W M H σ _ I fun M1 H1 δ1 v s h1 e1 I1 r => by
    obtain ⟨q, cs, n, rfl, hl, g⟩ := h1
    obtain ⟨p, rfl, so, k⟩ := r
    exact e.nx _ _ _ _ g e1 (I1.putS (not_bor hb hi) hl so (fun a ha => (k a ha).1) fun a ha => (k a ha).2)
end
end G
set_option Elab.async false
set_option linter.all false
set_option maxRecDepth 100000
set_option maxHeartbeats 4000000
namespace GX
open PySem PySem.Spec PySem.W PyProof.Rows L2
/-- a text times a number -/
def rMulS : R2 := fun x y H Q => ∃ z i, x = .str z ∧ y = .int i ∧ z.length ≤ 16 ∧ 0 ≤ i ∧ i ≤ 1000 ∧ Q (.str (Txt.mul z i)) H
theorem op_mulS {X : Cx} : OpR X (binaryOp .Mult) rMulS := by
  intro pins s σ H x y v u Q I rx ry h
  obtain ⟨z, i, rfl, rfl, hz, h0, h1, q⟩ := h
  obtain ⟨t, rfl⟩ := rx
  obtain ⟨t', rfl⟩ := ry
  exact KXi.mul rfl hz (by omega) (by omega) fun t' k _ _ => ⟨.str (Txt.mul z i), H, I.tok _, ⟨_, rfl⟩, q⟩
end GX
namespace G
open PySem L2
variable {Z : Wd} {ta tb tc : TE} {δ : List S} {Φ : D → List S → Prop} {bs : List Nat} {P : Po}
theorem xe_mulS (h : XE Z ta δ fun a δ1 => XE Z tb δ1 fun b δ2 => ∃ z i, a = .str z ∧ b = .int i ∧ z.length ≤ 16 ∧ 0 ≤ i ∧ i ≤ 1000 ∧ Φ (.str (Txt.mul z i)) δ2) : XE Z (tOp GX.rMulS ta tb) δ Φ := XE.mk fun B W M H σ Q I q =>
  h.run I fun M1 H1 δ1 x a h1 e1 I1 at1 => XE.run h1 I1 fun M2 H2 δ2 y b h2 e2 I2 at2 => by
    obtain ⟨z, i, rfl, rfl, l0, l1, l2, f⟩ := h2
    cases at1; cases at2
    exact ⟨z, i, rfl, rfl, l0, l1, l2, q M2 H2 δ2 _ _ f (e1.tr e2) I2 .str⟩
end G
set_option Elab.async false
set_option linter.all false
set_option maxRecDepth 100000
set_option maxHeartbeats 4000000
namespace G
open PySem L2
end G
set_option Elab.async false
set_option linter.all false
set_option maxRecDepth 100000
set_option maxHeartbeats 4000000
namespace GX
open PySem PySem.Spec PySem.W PySem.SeqAt PyProof.Rows L2
variable {X : Cx}
/-- x < y, any data that are alike -/
def rLtAny (K : PySem.W.Frag) : R2 := fun x y H Q => ∃ a b : PyData, Dp K H x a ∧ Dp K H y b ∧ alike a b = true ∧ a ≠ .none ∧ a.depth ≤ 3 ∧ Q (.bl (dataLt a b)) H
theorem op_ltAny (hu : X.A.units + 65 < cLine) : OpR X (compareOp .Lt) (rLtAny X.K) := fun pins s σ H x y v u Q I rx ry ⟨l, m, dx, dy, al, hn, de, q⟩ => by
  obtain ⟨as, ra⟩ := Dp.reads I _ _ _ dx rx
  obtain ⟨bs, rb⟩ := Dp.reads I _ _ _ dy ry
  have e : min l.depth m.depth ≤ 3 := Nat.le_trans (Nat.min_le_left _ _) de
  exact lt_data ra rb al hn (by omega) ⟨.bl (dataLt l m), H, I, rfl, q⟩
end GX
namespace G
open PySem L2
section
variable {Z : Wd} {M : Hp} {ta tb tc : TE} {δ : List S} {Φ : D → List S → Prop} {Λ : List D → List S → Prop} {bs : List Nat} {P : Po}
theorem xe_ltAny (h : XE Z ta δ fun a δ1 => XE Z tb δ1 fun b δ2 => pla a = true ∧ pla b = true ∧ PySem.W.alike (py a) (py b) = true ∧ py a ≠ .none ∧ (py a).depth ≤ 3 ∧ Φ (.bl (PySem.W.dataLt (py a) (py b))) δ2) : XE Z (tOp (GX.rLtAny Z.K) ta tb) δ Φ := XE.mk fun B W M H σ Q I q =>
  h.run I fun M1 H1 δ1 x a h1 e1 I1 at1 => XE.run h1 I1 fun M2 H2 δ2 y b h2 e2 I2 at2 => by
    obtain ⟨pa, pb, al, hn, de, f⟩ := h2
    exact ⟨_, _, At.dp a x (at1.mono e2) I2.ex pa, At.dp b y at2 I2.ex pb, al, hn, de, q M2 H2 δ2 _ _ f (e1.tr e2) I2 .bl⟩
end
end G
set_option Elab.async false
set_option linter.all false
set_option maxRecDepth 100000
set_option maxHeartbeats 4000000
namespace G
open PySem L2
end G
set_option Elab.async false
set_option linter.all false
set_option maxRecDepth 100000
set_option maxHeartbeats 4000000
/-! a comprehension that walks an own list, which stays as it is -/
namespace G
open PySem L2
end G
set_option Elab.async false
set_option linter.all false
set_option maxRecDepth 100000
set_option maxHeartbeats 4000000
/-! dict(list of pairs) whose keys are tuples of texts and whole numbers -/
namespace GX
open PySem PySem.Spec PyProof.Rows L2
end GX
namespace G
open PySem L2
end G
set_option Elab.async false
set_option linter.all false
set_option maxRecDepth 100000
set_option maxHeartbeats 4000000
/-! sorted lots that are keys afterwards -/
namespace G
open PySem L2
end G
set_option Elab.async false
set_option linter.all false
set_option maxRecDepth 100000
set_option maxHeartbeats 4000000
/-! dicts as data: d.get(k), isinstance, dict(pairs); max of ints -/
namespace G
open PySem L2
section
variable {Z : Wd} {M H : Hp} {δ : List S} {ta te ty : TE} {Φ : D → List S → Prop} {Ω : OD → List S → Prop}
theorem xe_maxI (h : XE Z te δ fun d δ1 => ∃ ns : List Int, d = .lst (ns.map .int) ∧ ns ≠ [] ∧ ∀ m ∈ ns, (∀ y ∈ ns, y ≤ m) → Φ (.int m) δ1) : XE Z (tCB (rMax Z.K) (tCons te tNil)) δ Φ := XE.mk fun B W M H σ Q I q =>
  h.run I fun M1 H1 δ1 x d h1 e1 I1 at1 => by
    obtain ⟨ns, rfl, ne, f1⟩ := h1
    cases at1 with
    | @lst a us _ k l c =>
      have := AtL.ints (Z := Z) (M := M1) ⟨l, c⟩
      subst this
      exact ⟨a, ns, rfl, SqL.of (I1.ex _ _ k), List.length_pos_iff.mpr ne, fun m hm hi => q M1 H1 δ1 _ _ (f1 m hm hi) e1 I1 .int⟩
end
end G
set_option Elab.async false
set_option linter.all false
set_option maxRecDepth 100000
set_option maxHeartbeats 4000000
/-! list(d.values()); dicts looked at, changed, popped, handed on -/
namespace GX
open PySem PySem.Spec PySem.W PySem.SeqAt PyProof.Rows L2
end GX
set_option Elab.async false
set_option linter.all false
set_option maxRecDepth 100000
set_option maxHeartbeats 4000000
/-! own dicts: looked at, changed, popped, lent, locked where they are returned -/
namespace G
open PySem L2
section
variable {Z : Wd} {M M' H H' : Hp} {σ : St} {δ : List S} {B : Bas} {W : List (Nat × Addr)}
variable {te ta tb tc ty tv : TE} {ts : TA} {s1 s2 : TS} {Φ : D → List S → Prop} {Ψ : S → List S → Prop} {Ω : OD → List S → Prop} {bs : List Nat} {P : Po}
/-! ### k in d -/
/-! ### d[k] = v, new or not -/
def dputK (kvs : List (Key × D)) (k : Key) (d : D) : List (Key × D) := if (kvs.any fun kv => decide (kv.1 = k)) = true then kvs.map (fun kv => if kv.1 = k then (kv.1, d) else kv) else kvs ++ [(k, d)]
theorem dputK_at {k : Key} {v : V} {d : D} (av : At Z M v d) {kvs : List (Key × D)} {us : List (Key × V)} (h : us.map (·.1) = kvs.map (·.1)) (a : AtL Z M (us.map (·.2)) (kvs.map (·.2))) : (putK us k v).map (·.1) = (dputK kvs k d).map (·.1) ∧ AtL Z M ((putK us k v).map (·.2)) ((dputK kvs k d).map (·.2)) := by
  have any : (us.any fun kv => decide (kv.1 = k)) = kvs.any fun kv => decide (kv.1 = k) := by
    have h1 : (us.any fun kv => decide (kv.1 = k)) = (us.map (·.1)).any fun x => decide (x = k) := by rw [List.any_map]; rfl
    have h2 : (kvs.any fun kv => decide (kv.1 = k)) = (kvs.map (·.1)).any fun x => decide (x = k) := by rw [List.any_map]; rfl
    rw [h1, h2, h]
  unfold putK dputK
  rw [any]
  split
  · rename_i hh; clear any hh
    induction us generalizing kvs with
    | nil => cases kvs with
      | nil => exact ⟨rfl, .nil⟩
      | cons x y => cases h
    | cons u us ih => cases kvs with
      | nil => cases h
      | cons x kvs =>
        obtain ⟨k1, v1⟩ := u
        obtain ⟨k2, d2⟩ := x
        obtain ⟨e, h'⟩ := List.cons.inj h
        obtain rfl : k1 = k2 := e
        obtain ⟨v0, ws, e2, a1, a2⟩ := AtL.inv (a : AtL Z M (v1 :: us.map (·.2)) (d2 :: kvs.map (·.2)))
        obtain ⟨rfl, rfl⟩ := List.cons.inj e2
        obtain ⟨i1, i2⟩ := ih h' a2
        by_cases c : k1 = k
        · simp only [List.map_cons, if_pos c]
          exact ⟨by rw [i1], .cons av i2⟩
        · simp only [List.map_cons, if_neg c]
          exact ⟨by rw [i1], .cons a1 i2⟩
  · refine ⟨by rw [List.map_append, List.map_append, h]; rfl, ?_⟩
    rw [List.map_append, List.map_append]
    exact AtL.app a (.one av)
theorem xs_dputK {i : Nat} (h : XE Z tv δ fun d δ1 => (∃ y, δ1[i]? = some (.own y)) ∧ XE Z ty δ1 fun b δ2 => ∃ kvs k, δ2[i]? = some (.own (.dic kvs)) ∧ b = keyD k ∧ kvs.length < 1000000 ∧ P.N (δ2.set i (.own (.dic (dputK kvs k d))))) :
    XS Z bs (sDPut (tVar i) ty tv) δ P := fun B W M H σ E hb I e => h.run I fun M1 H1 δ1 x d h1 e1 I1 at1 => by
  obtain ⟨⟨y, hy⟩, h1⟩ := h1
  obtain ⟨o, e0, p, ho, rfl, _⟩ := I1.sl i _ hy
  refine ⟨_, e0, XE.run h1 I1 fun M2 H2 δ2 v b h2 e2 I2 at2 => ?_⟩
  obtain ⟨kvs, k, hx, rfl, hl, f⟩ := h2
  obtain ⟨o', e', p', ho', rfl, hp', hy', _⟩ := I2.sl i _ hx
  rw [e0] at e'; cases e'
  obtain ⟨us, rfl, ks, a⟩ := hy'.dicI
  cases key_at at2
  have lu : us.length = kvs.length := by simpa using congrArg List.length ks
  refine ⟨_, _, rfl, DPut.k hp' (Nat.lt_of_lt_of_le (by rw [lu]; exact hl) (by decide)), ?_⟩
  exact e.nx _ _ _ _ f (e1.tr e2) (I2.write e0 hx (ho := .dK _) (y' := .dic _) (dputK_at (at1.mono e2) ks a))
/-! ### d.pop(k) -/
/-! ### list(d.values()) -/
/-! ### an own dict that is locked where a statement first looks at it -/
end
end G
set_option Elab.async false
set_option linter.all false
set_option maxRecDepth 100000
set_option maxHeartbeats 4000000
/-! list(d) of an own dict keyed by tuples: tuples of the heap become known -/
namespace GX
open PySem L2
end GX
namespace G
open PySem L2
end G
set_option Elab.async false
set_option linter.all false
set_option maxRecDepth 100000
set_option maxHeartbeats 4000000
/-! sets whose members are tuples of texts and of such tuples: adding, and sorted of them -/
namespace GN
open PySem PySem.Spec PyProof.Rows L2
section
variable {P : Program} {w : World} {A : Around} {E : Value → Shared → Prop} {s : Shared}
/-! ### what a search asks of a key -/
/-- the tuple at a is the key k -/
abbrev Nk (P : Program) (w : World) (h : Heap) (k : NestedKey) (a : Addr) : Prop := (nestedKind P w).is h k a
/-! ### the set as it stands -/
def ent (w : World) (L : List (Addr × NestedKey)) : List (Int × Value) := L.map fun p => (p.2.hash w, Value.ref p.1)
theorem ent_get {L : List (Addr × NestedKey)} {i : Nat} {p : Addr × NestedKey} (h : L[i]? = some p) : (ent w L)[i]? = some (p.2.hash w, Value.ref p.1) := by
  unfold ent; rw [List.getElem?_map, h]; rfl
structure Ns (P : Program) (w : World) (h : Heap) (a : Addr) (L : List (Addr × NestedKey)) (es : Array (Int × Value)) (ep : Nat) (t : SetTable) : Prop where
  ob : ∃ o, h.get? a = some o ∧ o.ExactSet ∧ o.data = .set es ep t
  row : es.toList = ent w L
  tab : TabOk t (L.map fun p => p.2.hash w)
  nd : (L.map (·.2)).Nodup
  key : ∀ p ∈ L, Nk P w h p.2 p.1
  led : w.params.followText "set-order" = true ∨ t.led = true
  room : L.length * 5 < t.mask * 3
  few : L.length < 64
variable {a : Addr} {L : List (Addr × NestedKey)} {es : Array (Int × Value)} {ep : Nat} {t : SetTable}
theorem Ns.at (R : Ns P w s.heap a L es ep t) {i : Nat} {p : Addr × NestedKey} (h : L[i]? = some p) : es[i]? = some (p.2.hash w, Value.ref p.1) := by
  rw [← Array.getElem?_toList, R.row]; exact ent_get h
theorem Ns.sz (R : Ns P w s.heap a L es ep t) : es.size = L.length := by
  rw [← Array.length_toList, R.row]; exact List.length_map _
theorem fit_of {n : Nat} (dm : t.dummies = #[]) (h : t.place.size = n) (l : n ≤ t.mask) : t.fits n = true := by
  unfold SetTable.fits SetTable.fill
  rw [dm]
  simp only [Bool.and_eq_true, beq_iff_eq, decide_eq_true_eq]
  exact ⟨h, by simp; omega⟩
theorem Ns.fit (R : Ns P w s.heap a L es ep t) : t.fits es.size = true := by
  have h1 := R.tab.sz
  rw [List.length_map] at h1
  have h2 := R.room
  exact fit_of R.tab.dm (h1.trans R.sz.symm) (by rw [R.sz]; omega)
/-! ### one more member -/
theorem Nk.same {h h' : Heap} {k : NestedKey} {b : Addr} {o : Obj} (hk : Nk P w h k b) (ho : h.get? a = some o) (hd : o.data = .set es ep t) (sb : Heap.SameBut a h h') : Nk P w h' k b :=
  nestedKind_stays.stays (knd := nestedKind P w) (fun c u vs n hc hu => by
    have ne : c ≠ a := fun e => by
      subst e
      rw [ho] at hc; cases hc
      rw [hd] at hu; cases hu
    exact (sb.2 c ne).trans hc) hk
theorem fm_all {α β : Type} {f : α → Option β} {g : α → β} : ∀ {l : List α}, (∀ x ∈ l, f x = some (g x)) → l.filterMap f = l.map g
  | [], _ => rfl
  | x :: l, h => by rw [List.filterMap_cons_some (h x (by simp)), List.map_cons, fm_all fun y hy => h y (List.mem_cons_of_mem _ hy)]
theorem fm_range {α : Type} (xs : List α) : (List.range xs.length).filterMap (fun i => xs[i]?) = xs := by
  have e : (List.range xs.length).map (fun i => xs[i]?) = xs.map some := by
    refine List.ext_getElem? fun i => ?_
    rw [List.getElem?_map, List.getElem?_map]
    rcases Nat.lt_or_ge i xs.length with c | c
    · rw [List.getElem?_range c]
      show some xs[i]? = _
      rw [List.getElem?_eq_getElem c]; rfl
    · rw [List.getElem?_eq_none (by simpa using c), List.getElem?_eq_none c]; rfl
  have := congrArg (List.filterMap id) e
  rw [List.filterMap_map, List.filterMap_map] at this
  simpa [Function.comp_def] using this
theorem laid (row : es.toList = ent w L) {order : Array Nat} (hp : order.toList.Perm (List.range L.length)) :
    ∃ L2, (order.filterMap (es[·]?)).toList = ent w L2 ∧ L2.Perm L ∧ (L2.map fun p => p.2.hash w) = order.toList.map fun i => (es.map (·.1)).getD i 0 := by
  have lt : ∀ i ∈ order.toList, i < L.length := fun i hi => List.mem_range.mp (hp.mem_iff.mp hi)
  have get : ∀ i, es[i]? = (L[i]?).map fun p : Addr × NestedKey => (p.2.hash w, Value.ref p.1) := fun i => by
    rw [← Array.getElem?_toList, row, ent, List.getElem?_map]
  refine ⟨order.toList.filterMap fun i => L[i]?, ?_, ?_, ?_⟩
  · rw [Array.toList_filterMap, ent, List.map_filterMap]
    congr 1
    funext i
    exact get i
  · have := hp.filterMap fun i => L[i]?
    rwa [fm_range] at this
  · rw [List.map_filterMap]
    refine fm_all fun i hi => ?_
    have il := lt i hi
    have e1 : (es.map (·.1))[i]? = some ((L[i]).2.hash w) := by
      rw [Array.getElem?_map, get, List.getElem?_eq_getElem il]; rfl
    rw [List.getElem?_eq_getElem il, Array.getD_eq_getD_getElem?, e1]; rfl
end
end GN
set_option Elab.async false
set_option linter.all false
set_option maxRecDepth 100000
set_option maxHeartbeats 4000000
/-! sets of pairs of a name and a lot -/
namespace GN
open PySem PySem.Spec PySem.W PySem.SeqAt PyProof.Rows L2 GX
/-- a name and a lot -/
abbrev Pr := Str × List Str
def kP (p : Pr) : NestedKey := .tup [.text p.1, .tup (p.2.map .text)]
/-! ### the set's own object -/
/-- what the set's own object tells -/
def Nw (w : World) (h : Heap) (a : Addr) (L : List (Addr × NestedKey)) : Prop := ∃ (es : Array (Int × Value)) (ep : Nat) (t : SetTable), (∃ o, h.get? a = some o ∧ o.ExactSet ∧ o.data = .set es ep t) ∧ es.toList = ent w L ∧ TabOk t (L.map fun p => p.2.hash w) ∧ (L.map (·.2)).Nodup ∧
  (w.params.followText "set-order" = true ∨ t.led = true) ∧ L.length * 5 < t.mask * 3 ∧ L.length < 64
section
variable {P : Program} {w : World} {A : Around} {E : Value → Shared → Prop} {s : Shared} {a : Addr} {L : List (Addr × NestedKey)}
theorem Nw.ns (R : Nw w s.heap a L) (k : ∀ p ∈ L, Nk P w s.heap p.2 p.1) : ∃ es ep t, Ns P w s.heap a L es ep t := by
  obtain ⟨es, ep, t, ob, row, tab, nd, led, room, few⟩ := R
  exact ⟨es, ep, t, ob, row, tab, nd, k, led, room, few⟩
end
end GN
set_option Elab.async false
set_option linter.all false
set_option maxRecDepth 100000
set_option maxHeartbeats 4000000
/-! {(x, lot) for xs in .. for x in ..}, and sorted of it -/
namespace GN
open PySem PySem.Spec PySem.SeqAt PyProof.Rows L2 GX PpSet
def laidK (Lp : List (Addr × Pr)) : List (Addr × NestedKey) := Lp.map fun x => (x.1, kP x.2)
/-- a set of pairs in the layer: who its members are and where they stand -/
def SetPO (w : World) (a : Addr) (Lp : List (Addr × Pr)) : HO := .ext fun h => Nw w h a (laidK Lp)
theorem Nw.at {w : World} {h h' : Heap} {a : Addr} {L : List (Addr × NestedKey)} (R : Nw w h a L) (k : ∀ o, h.get? a = some o → h'.get? a = some o) : Nw w h' a L := by
  obtain ⟨es, ep, t, ⟨o, ho, r⟩, q⟩ := R
  exact ⟨es, ep, t, ⟨o, k o ho, r⟩, q⟩
/-- y joins the set at D, then go on -/
def joinsN (w : World) (K : PySem.W.Frag) (D : Addr) (y : V) (H : Hp) (on : Hp → Prop) : Prop := ∃ (b : Addr) (p : Pr) (Lp : List (Addr × Pr)), y = .ref b ∧ Dp K H (.ref b) (encP p) ∧ H D = some (SetPO w D Lp) ∧ (∀ x ∈ Lp, Dp K H (.ref x.1) (encP x.2)) ∧ Lp.length + 1 < 64 ∧
  ∀ Lp', (p ∈ Lp.map (·.2) → Lp' = Lp) → (p ∉ Lp.map (·.2) → Lp'.Perm ((b, p) :: Lp)) → on (upd H D (SetPO w D Lp'))
end GN
set_option Elab.async false
set_option linter.all false
set_option maxRecDepth 100000
set_option maxHeartbeats 4000000
/-! sorted({(x, lot) for xs in .. for x in ..}) -/
set_option Elab.async false
set_option linter.all false
set_option maxRecDepth 100000
set_option maxHeartbeats 4000000
namespace G
open PySem L2
section
variable {Z : Wd} {M H M' H' : Hp} {B : Bas} {W : List (Nat × Addr)} {σ σ' : St} {δ : List S}
variable {te : TE} {tt : TT} {Ω : OD → List S → Prop} {bs vs vs1 : List Nat} {w : World}
/-- the set at A has just these members -/
def SetHasP (Z : Wd) (w : World) (M H : Hp) (A : Addr) (acc : List GN.Pr) : Prop := ∃ Lp : List (Addr × GN.Pr), H A = some (GN.SetPO w A Lp) ∧ (Lp.map (·.2)).Nodup ∧ (∀ p, p ∈ Lp.map (·.2) ↔ p ∈ acc) ∧ ∀ x ∈ Lp, At Z M (.ref x.1) (pairD x.2)
theorem SetHasP.new {A : Addr} : SetHasP Z w M (upd H A (GN.SetPO w A [])) A [] := ⟨[], upd_same, .nil, by simp, fun x hx => nomatch hx⟩
theorem nodup_leP : ∀ {us l : List GN.Pr}, us.Nodup → (∀ k ∈ us, k ∈ l) → us.length ≤ l.length
  | [], _, _, _ => Nat.zero_le _
  | u :: us, l, n, h => by
    obtain ⟨n1, n2⟩ := List.nodup_cons.mp n
    have hu := h u List.mem_cons_self
    have := nodup_leP (us := us) (l := l.erase u) n2 fun k hk => (List.mem_erase_of_ne (fun (e : k = u) => n1 (by rw [← e]; exact hk))).mpr (h k (List.mem_cons_of_mem _ hk))
    rw [List.length_erase_of_mem hu] at this
    have := List.length_pos_of_mem hu
    rw [List.length_cons]; omega
theorem pair_ref {v : V} {p : GN.Pr} (a : At Z M v (pairD p)) : ∃ b, v = .ref b := by
  unfold pairD at a
  cases a with
  | tup => exact ⟨_, rfl⟩
theorem dp_P {v : V} {p : GN.Pr} (a : At Z M v (pairD p)) (e : Ex M H) : Dp Z.K H v (GX.encP p) := by
  have := At.dp _ _ a e (pair_py p).1
  rw [(pair_py p).2] at this
  exact this
theorem SetHasP.join {A : Addr} {acc few : List GN.Pr} {v : V} {p : GN.Pr} {on : Hp → Prop} (h : SetHasP Z w M H A acc) (ex : Ex M H) (lf : few.length < 63) (hf : ∀ k ∈ acc ++ [p], k ∈ few) (a : At Z M v (pairD p))
    (go : ∀ o, NT o → SetHasP Z w M (upd H A o) A (acc ++ [p]) → on (upd H A o)) : GN.joinsN w Z.K A v H on := by
  obtain ⟨Lp, h1, h2, h3, h4⟩ := h
  obtain ⟨b, rfl⟩ := pair_ref a
  have ml : ∀ q ∈ Lp.map (·.2), q ∈ few := fun q hq => hf q (List.mem_append_left _ ((h3 q).mp hq))
  have len := nodup_leP h2 ml
  rw [List.length_map] at len
  refine ⟨b, p, Lp, rfl, dp_P a ex, h1, fun x hx => dp_P (h4 x hx) ex, by omega, fun Lp' j1 j2 => go _ (fun _ e => nomatch e) ?_⟩
  by_cases c : p ∈ Lp.map (·.2)
  · obtain rfl := j1 c
    refine ⟨Lp', upd_same, h2, fun q => ?_, h4⟩
    rw [h3, List.mem_append, List.mem_singleton]
    exact ⟨.inl, fun z => z.elim id fun z => z ▸ (h3 p).mp c⟩
  · have pm := j2 c
    refine ⟨Lp', upd_same, (pm.map (·.2)).nodup_iff.mpr (by rw [List.map_cons]; exact List.nodup_cons.mpr ⟨c, h2⟩), fun q => ?_, fun x hx => ?_⟩
    · rw [(pm.map (·.2)).mem_iff, List.map_cons, List.mem_cons, h3, List.mem_append, List.mem_singleton]
      exact or_comm
    · rcases List.mem_cons.mp (pm.mem_iff.mp hx) with e | hx
      · rw [e]; exact a
      · exact h4 x hx
theorem SetHasP.mono {A : Addr} {acc : List GN.Pr} (h : SetHasP Z w M H A acc) (e : Ex M M') (k : H' A = H A) : SetHasP Z w M' H' A acc := by
  obtain ⟨Lp, h1, h2, h3, h4⟩ := h
  exact ⟨Lp, k.trans h1, h2, h3, fun x hx => (h4 x hx).mono e⟩
end
end G
set_option Elab.async false
set_option linter.all false
set_option maxRecDepth 100000
set_option maxHeartbeats 4000000
/-! sets of tuples: whether two have the same members -/
set_option Elab.async false
set_option linter.all false
set_option maxRecDepth 100000
set_option maxHeartbeats 8000000
/-! set(xs), xs a list of tuples -/
set_option Elab.async false
set_option linter.all false
set_option maxRecDepth 100000
set_option maxHeartbeats 4000000
/-! sets of texts: whether two have the same members -/
set_option Elab.async false
set_option linter.all false
set_option maxRecDepth 100000
set_option maxHeartbeats 4000000
/-! set(xs) != set(ys), lists of tuples or of texts -/
namespace G
open PySem L2
end G
set_option Elab.async false
set_option linter.all false
set_option maxRecDepth 100000
set_option maxHeartbeats 4000000
/-! zip of two lists -/
namespace G
open PySem L2
end G
namespace G
open PySem L2
end G
set_option Elab.async false
set_option linter.all false
set_option maxRecDepth 100000
set_option maxHeartbeats 4000000
/-! {k: v for x in xs for y in ys} -/
namespace GX
open PySem PySem.Spec PyProof.Rows L2 PpSet
section
variable {prog : Program} {w : World} {A : Around} {R : Result → Shared → Prop} {s : Shared} {kx vx t0 i0 t1 i1 : Expr} {scope : Scope} {pos : Pos} {it acc : Value} {env : Env} {D : Addr}
/-- {kx: vx for t0 in i0 for t1 in i1} -/
abbrev twiceD (kx vx t0 i0 t1 i1 : Expr) (scope : Scope) (pos : Pos) : Expr := .DictComp kx vx [⟨t0, i0, [], 0⟩, ⟨t1, i1, [], 0⟩] scope pos
theorem outerD_turn : compTurn (twiceD kx vx t0 i0 t1 i1 scope pos) 0 it acc env = (do
      standAt i0.pos; match ← pyNext it with
      | none => pure (.done .next)
      | some v => letOwnedTupleGo t0 it v; assign t0 env v; let mut ok := true
                  for c in ([] : List Expr) do if ok then ok ← isTrue c env (eval c env)
                  if ok then let x ← eval i1 env; standAt i1.pos; let x ← foldedSetIterable i1 env x; let _ ← runOwn (.compStart (twiceD kx vx t0 i0 t1 i1 scope pos) 1 (← holding [x] (pyIter x)) acc env) env
                  again (.compLoop (twiceD kx vx t0 i0 t1 i1 scope pos) 0 it acc env)) := by rfl
theorem innerD_turn : compTurn (twiceD kx vx t0 i0 t1 i1 scope pos) 1 it (.ref D) env = (do
      standAt i1.pos; match ← pyNext it with
      | none => pure (.done .next)
      | some v => letOwnedTupleGo t1 it v; assign t1 env v; let mut ok := true
                  for c in ([] : List Expr) do if ok then ok ← isTrue c env (eval c env)
                  if ok then (do let kv ← eval kx env; let vv ← holding [kv] (eval vx env); standAt { kx.pos with endLine := vx.pos.endLine, endCol := vx.pos.endCol }; holding [kv, vv] (dictSet D kv vv))
                  again (.compLoop (twiceD kx vx t0 i0 t1 i1 scope pos) 1 it (.ref D) env)) := by rfl
theorem outerD_loop (plain : ∀ x, foldedSetIterable i1 env x = pure x) (I : Nat → Shared → Prop)
    (turn : ∀ n s, I n s → wpAny (model prog w) A (pyNext it) (fun r s1 => match r with
      | none => R (.ok .next) s1
      | some v => wpAny (model prog w) A (letOwnedTupleGo t0 it v) (fun _ s2 => wpAny (model prog w) A (assign t0 env v) (fun _ s3 => wpAny (model prog w) A (eval i1 env) (fun x s4 => wpAny (model prog w) A (pyIter x) (fun k s5 =>
          codeAny (model prog w) A (.compStart (twiceD kx vx t0 i0 t1 i1 scope pos) 1 k acc env) (fun r s' => (∃ f, r = .ok f) ∧ ∃ m, m < n ∧ I m s') s5) (bad (model prog w) A env R) s4) (bad (model prog w) A env R) s3) (bad (model prog w) A env R) s2) (bad (model prog w) A env R) s1) (bad (model prog w) A env R) s)
    (n : Nat) (h : I n s) : codeAny (model prog w) A (.compLoop (twiceD kx vx t0 i0 t1 i1 scope pos) 0 it acc env) R s := by
  refine codeAny_loop rfl I (fun n s hI => ?_) n h
  show wpAny _ A ((compTurn (twiceD kx vx t0 i0 t1 i1 scope pos) 0 it acc env).onRaise fun x => do noteFrame x env; theTreesLotGoes x) _ _ s
  refine wpAny_noted ?_
  rw [outerD_turn]
  refine wpAny_bind (wpAny_standAt (wpAny_bind (wpAny_mono (turn n s hI) (fun r s1 h1 => ?_) fun _ _ z => z)))
  cases r with
  | none => exact wpAny_pure h1
  | some v =>
    refine wpAny_bind (wpAny_mono h1 (fun _ s2 h2 => wpAny_bind (wpAny_mono h2 (fun _ s3 h3 => ?_) fun _ _ z => z)) fun _ _ z => z)
    refine wpAny_bind (wpAny_pure ?_)
    refine wpAny_bind (wpAny_mono h3 (fun x s4 h4 => ?_) fun _ _ z => z)
    refine wpAny_bind (wpAny_standAt (wpAny_bind (wpAny_of_eq (plain x) (wpAny_bind (wpAny_holding (wpAny_mono h4 (fun k s5 h5 => ?_) fun _ _ z => z))))))
    refine wpAny_bind (wpAny_runOwn ?_)
    rw [Around.mark_none]
    refine codeAny_mono h5 fun r s6 hr => ?_
    obtain ⟨⟨f, rfl⟩, hr⟩ := hr
    first
    | exact wpAny_pure ⟨rfl, hr⟩
    | exact wpAny_bind (wpAny_pure (wpAny_pure ⟨rfl, hr⟩))
theorem innerD_loop (I : Nat → Shared → Prop)
    (turn : ∀ n s, I n s → wpAny (model prog w) A (pyNext it) (fun r s1 => match r with
      | none => R (.ok .next) s1
      | some v => wpAny (model prog w) A (letOwnedTupleGo t1 it v) (fun _ s2 => wpAny (model prog w) A (assign t1 env v) (fun _ s3 => wpAny (model prog w) A (eval kx env) (fun x s4 => wpAny (model prog w) A (eval vx env) (fun z s4' =>
          wpAny (model prog w) A (dictSet D x z) (fun _ s5 => ∃ m, m < n ∧ I m s5) (bad (model prog w) A env R) s4') (bad (model prog w) A env R) s4) (bad (model prog w) A env R) s3) (bad (model prog w) A env R) s2) (bad (model prog w) A env R) s1) (bad (model prog w) A env R) s)
    (n : Nat) (h : I n s) : codeAny (model prog w) A (.compLoop (twiceD kx vx t0 i0 t1 i1 scope pos) 1 it (.ref D) env) R s := by
  refine codeAny_loop rfl I (fun n s hI => ?_) n h
  show wpAny _ A ((compTurn (twiceD kx vx t0 i0 t1 i1 scope pos) 1 it (.ref D) env).onRaise fun x => do noteFrame x env; theTreesLotGoes x) _ _ s
  refine wpAny_noted ?_
  rw [innerD_turn]
  refine wpAny_bind (wpAny_standAt (wpAny_bind (wpAny_mono (turn n s hI) (fun r s1 h1 => ?_) fun _ _ z => z)))
  cases r with
  | none => exact wpAny_pure h1
  | some v =>
    refine wpAny_bind (wpAny_mono h1 (fun _ s2 h2 => wpAny_bind (wpAny_mono h2 (fun _ s3 h3 => ?_) fun _ _ z => z)) fun _ _ z => z)
    refine wpAny_bind (wpAny_pure ?_)
    exact wpAny_bind (wpAny_bind (wpAny_mono h3 (fun kv s4 h4 => wpAny_bind (wpAny_holding (wpAny_mono h4 (fun vv s5 h5 => wpAny_bind (wpAny_standAt (wpAny_holding (wpAny_mono h5 (fun _ s6 h6 => wpAny_pure ⟨rfl, h6⟩) fun _ _ z => z)))) fun _ _ z => z))) fun _ _ z => z))
theorem innerD_start (h0 : codeAny (model prog w) A (.compLoop (twiceD kx vx t0 i0 t1 i1 scope pos) 1 it acc env) R s)
    (h : wpAny (model prog w) A (pyIter it) (fun k s' => codeAny (model prog w) A (.compLoop (twiceD kx vx t0 i0 t1 i1 scope pos) 1 k acc env) R s') (bad (model prog w) A env R) s) : codeAny (model prog w) A (.compStart (twiceD kx vx t0 i0 t1 i1 scope pos) 1 it acc env) R s := by
  refine codeAny_of_tree ?_
  show wpAny _ _ ((compStart (twiceD kx vx t0 i0 t1 i1 scope pos) 1 it acc env).onRaise fun x => do noteFrame x env; standAt theWindowsPlace) _ _ s
  refine wpAny_notedAt ?_
  unfold compStart
  refine wpAny_bind (wpAny_askSetting (wpAny_ite ?_))
  split
  · first
    | exact wpAny_bind (wpAny_pure (wpAny_pure ⟨rfl, h0⟩))
    | exact wpAny_pure ⟨rfl, h0⟩
  · refine wpAny_bind (wpAny_rule ?_)
    first
    | exact wpAny_bind (wpAny_standAt (wpAny_bind (wpAny_mono h (fun k s' z => wpAny_pure ⟨rfl, z⟩) fun _ _ z => z)))
    | (show wpAny _ _ (standAt i1.pos >>= _) _ _ s; exact wpAny_bind (wpAny_standAt (wpAny_bind (wpAny_mono h (fun k s' z => wpAny_pure ⟨rfl, z⟩) fun _ _ z => z))))
end
/-- z for the key y in the dict at D, then go on -/
def putsD (D : Addr) (y z : V) (H : Hp) (on : Hp → Prop) : Prop := ∃ (kvs : List (Key × V)) (k : Key), y = kV k ∧ H D = some (.dK kvs) ∧ kvs.length < sizeLine ∧ on (upd H D (.dK (putK kvs k z)))
def jobD2 (g : TG) (wi1 : TI) (g1 : TG) (tk tv : TE) (vs vs1 : List Nat) : SetJob := fun J D H0 σ0 Qd => ∃ (n : Nat) (Pv : Nat → Hp → Prop), walks J n Pv H0 Qd fun i x H1 => g x σ0 H1 fun σ2 H2 => wipe σ2 vs = σ0 ∧ wi1 σ2 H2 fun J1 H3 =>
  ∃ (n1 : Nat) (Pw : Nat → Hp → Prop), walks J1 n1 Pw H3 (Pv (i + 1)) fun j x1 H4 => g1 x1 (wipe σ2 vs1) H4 fun σ3 H5 => wipe σ3 vs1 = wipe σ2 vs1 ∧ tk σ3 H5 fun y H6 => tv σ3 H6 fun z H7 => putsD D y z H7 (Pw (j + 1))
def tDcJ (wi : TI) (vs : List Nat) (job : SetJob) : TE := fun σ H Q => wi σ H fun J H1 => ∀ D, H1 D = none → job J D (upd H1 D (.dK [])) (wipe σ vs) fun H2 => Q (.ref D) H2
section
variable {X : Cx} {kx vx t0 i0 t1 i1 : Expr} {scope : Scope} {pos : Pos} {g g1 : TG} {wi1 : TI} {tk tv : TE} {vs vs1 : List Nat}
theorem doesD2 (pg : ∀ (s : Shared) (H : Hp) (C : Addr) (cl : List (PySem.Str × Addr)) (fp : List Addr), PG (X.blk s H scope (compEnvC scope cl C X.env) fp) t0 g) (pi1 : ∀ (s : Shared) (H : Hp) (C : Addr) (cl : List (PySem.Str × Addr)) (fp : List Addr), PI (X.blk s H scope (compEnvC scope cl C X.env) fp) t1 i1 wi1)
    (pg1 : ∀ (s : Shared) (H : Hp) (C : Addr) (cl : List (PySem.Str × Addr)) (fp : List Addr), PG (X.blk s H scope (compEnvC scope cl C X.env) fp) t1 g1) (pk : ∀ (s : Shared) (H : Hp) (C : Addr) (cl : List (PySem.Str × Addr)) (fp : List Addr), PE (X.blk s H scope (compEnvC scope cl C X.env) fp) kx tk) (pv : ∀ (s : Shared) (H : Hp) (C : Addr) (cl : List (PySem.Str × Addr)) (fp : List Addr), PE (X.blk s H scope (compEnvC scope cl C X.env) fp) vx tv)
    (sub : ∀ i ∈ vs1, i ∈ vs) (plain : ∀ env x, foldedSetIterable i1 env x = pure x := by intro _ _; rfl) : Does X t0 (twiceD kx vx t0 i0 t1 i1 scope pos) scope (jobD2 g wi1 g1 tk tv vs vs1) := by
  rintro s3 H3 C cl fp it D J tn s4 σ4 H4 Qd post calm T here I4 t4 none4 ⟨n, Pv, p0, turn, stop⟩ fin
  refine outerD_loop (plain _) (fun k s' => ∃ i H', k = n - i ∧ i ≤ n ∧ Inv (X.blk s3 H3 scope (compEnvC scope cl C X.env) fp) [] σ4 H' s' ∧ tn i s'.heap ∧ (∀ b ∈ fp, H' b = none) ∧ Pv i H') ?_ n ⟨0, H4, rfl, Nat.zero_le _, I4, t4, none4, p0⟩
  rintro k s5 ⟨i, H5, rfl, le, I5, t5, none5, p5⟩
  rcases Nat.eq_or_lt_of_le le with rfl | lt
  · obtain ⟨st, qd⟩ := stop H5 p5
    exact thnF (T.done (X.blk s3 H3 scope (compEnvC scope cl C X.env) fp) rfl rfl rfl calm i [] s5 _ H5 (fun _ _ => False) I5 (here _ _ _ I5 none5) t5 st) fun r s6 ⟨hr, I6⟩ => by subst hr; exact fin _ _ I6 qd
  · obtain ⟨go, step⟩ := turn i H5 lt p5
    refine thnF (T.item (X.blk s3 H3 scope (compEnvC scope cl C X.env) fp) rfl rfl rfl calm i [] s5 _ H5 (fun _ _ => False) I5 (here _ _ _ I5 none5) t5 go) fun r s6 ⟨u, hr, came⟩ => ?_
    subst hr
    refine thnF came fun _ s7 ⟨x, H7, I7, r7, y7, t7, none7⟩ => ?_
    refine thnF ((pg s3 H3 C cl fp).run _ s7 _ H7 x u _ (I7.pinned (here _ _ _ I7 none7) (T.obj _ _ t7)) r7 (step x H7 y7)) fun _ s8 ⟨σ8, H8, I8, same, q8⟩ => ?_
    refine thnF ((pi1 s3 H3 C cl fp).run _ s8 σ8 H8 _ I8 q8) fun _ s9 q9 => thnF q9 fun _ s10 came1 => ?_
    obtain ⟨it1, fp1, tn1, J1, H10, rfl, I10, T1, t10, clear1, n1, Pw, w0, turn1, stop1⟩ := came1
    have here1 : ∀ {H' : Hp}, (∀ b ∈ fp1, H' b = none) → ∀ b ∈ fp1, FpOk (X.blk s3 H3 scope (compEnvC scope cl C X.env) fp) ([] ++ pinsAt fp s7.heap) H' b := fun z b hb => ⟨z b hb, (clear1 b hb).2⟩
    have loop1 : codeAny (model X.prog X.w) X.A (.compLoop (twiceD kx vx t0 i0 t1 i1 scope pos) 1 (.ref it1) (.ref D) (compEnvC scope cl C X.env))
        (fun r s' => (∃ f, r = .ok f) ∧ ∃ m, m < n - i ∧ ∃ i' H', m = n - i' ∧ i' ≤ n ∧ Inv (X.blk s3 H3 scope (compEnvC scope cl C X.env) fp) [] σ4 H' s' ∧ tn i' s'.heap ∧ (∀ b ∈ fp, H' b = none) ∧ Pv i' H') s10 := by
      refine innerD_loop (fun k s' => ∃ j H', k = n1 - j ∧ j ≤ n1 ∧ Inv (X.blk s3 H3 scope (compEnvC scope cl C X.env) fp) ([] ++ pinsAt fp s7.heap) (wipe σ8 vs1) H' s' ∧ tn1 j s'.heap ∧ (∀ b ∈ fp1, H' b = none) ∧ Pw j H') ?_ n1 ⟨0, H10, rfl, Nat.zero_le _, I10.weak (wipe_length _ _) fun j v e => (wipe_some e).1, t10, fun b hb => (clear1 b hb).1, w0⟩
      rintro k s12 ⟨j, H12, rfl, le1, I12, t12, none12, p12⟩
      rcases Nat.eq_or_lt_of_le le1 with rfl | lt1
      · obtain ⟨st1, p'⟩ := stop1 H12 p12
        refine thnF (T1.done (X.blk s3 H3 scope (compEnvC scope cl C X.env) fp) rfl rfl rfl calm j _ s12 (wipe σ8 vs1) H12 (fun _ _ => False) I12 (here1 none12) t12 st1) fun r s13 ⟨hr, I13⟩ => ?_
        subst hr
        have stay : ∀ b ∈ fp, ∀ o, s7.heap.get? b = some o → s13.heap.get? b = some o ∧ H12 b = none := fun b hb o e => let z := I13.pin (b, o) (List.mem_append_right _ (List.mem_append_right _ (mem_pinsAt hb e))); ⟨z.1, z.2.1⟩
        refine ⟨⟨_, rfl⟩, n - (i + 1), by omega, i + 1, H12, rfl, lt, (I13.unpinned (pins := [])).weak (by rw [← same, wipe_length, wipe_length]) (fun j v e => ?_), T.keep _ _ _ t7 fun b hb o e => (stay b hb o e).1, fun b hb => ?_, p'⟩
        · rw [← same] at e
          obtain ⟨e1, e2⟩ := wipe_some e
          rw [wipe_out fun z => e2 (sub j z)]
          exact e1
        · obtain ⟨o, e, _⟩ := T.obj _ _ t7 b hb
          exact (stay b hb o e).2
      · obtain ⟨go1, step1⟩ := turn1 j H12 lt1 p12
        refine thnF (T1.item (X.blk s3 H3 scope (compEnvC scope cl C X.env) fp) rfl rfl rfl calm j _ s12 (wipe σ8 vs1) H12 (fun _ _ => False) I12 (here1 none12) t12 go1) fun r s13 ⟨u1, hr, came2⟩ => ?_
        subst hr
        refine thnF came2 fun _ s14 ⟨x1, H14, I14, r14, y14, t14, none14⟩ => ?_
        refine thnF ((pg1 s3 H3 C cl fp).run _ s14 (wipe σ8 vs1) H14 x1 u1 _ (I14.pinned (here1 none14) (T1.obj _ _ t14)) r14 (step1 x1 H14 y14)) fun _ s15 ⟨σ15, H15, I15, same1, q15⟩ => ?_
        refine thnF ((pk s3 H3 C cl fp).run _ s15 σ15 H15 _ I15 q15) fun z s16 ⟨y, H16, I16, r16, q16⟩ => ?_
        refine thnF ((pv s3 H3 C cl fp).run _ s16 σ15 H16 _ I16 q16) fun z2 s16' ⟨y2, H16', I16', r16', kvs, k, ek, hD, room, nx⟩ => ?_
        subst ek
        refine d_dictSet (X := X.blk s3 H3 scope (compEnvC scope cl C X.env) fp) I16' hD room r16 r16' fun s17 I17 => ?_
        have p17 := nx
        have stay1 : ∀ b ∈ fp1, ∀ o, s14.heap.get? b = some o → s17.heap.get? b = some o ∧ upd H16' D (.dK (putK kvs k y2)) b = none := fun b hb o e => let z := I17.pin (b, o) (List.mem_append_right _ (List.mem_append_right _ (mem_pinsAt hb e))); ⟨z.1, z.2.1⟩
        refine ⟨n1 - (j + 1), by omega, j + 1, _, rfl, lt1, I17.unpinned.weak (by rw [← same1, wipe_length]) (fun j v e => by rw [← same1] at e; exact (wipe_some e).1), T1.keep _ _ _ t14 fun b hb o e => (stay1 b hb o e).1, fun b hb => ?_, p17⟩
        obtain ⟨o, e, _⟩ := T1.obj _ _ t14 b hb
        exact (stay1 b hb o e).2
    exact innerD_start loop1 (T1.self X.A 0 _ _ _ t10 loop1)
end
end GX
set_option Elab.async false
set_option linter.all false
set_option maxRecDepth 100000
set_option maxHeartbeats 4000000
namespace G
open PySem L2
section
variable {Z : Wd} {M H M' H' : Hp} {B : Bas} {W : List (Nat × Addr)} {σ σ' : St} {δ : List S}
variable {te tk tv : TE} {tt : TT} {Ω : OD → List S → Prop} {bs vs vs1 : List Nat}
/-- in its place, or at the end -/
def dputD (kvs : List (Key × D)) (k : Key) (d : D) : List (Key × D) := if (kvs.any fun kv => decide (kv.1 = k)) = true then kvs.map (fun kv => if kv.1 = k then (kv.1, d) else kv) else kvs ++ [(k, d)]
theorem dputD_len (kvs : List (Key × D)) (k : Key) (d : D) : (dputD kvs k d).length ≤ kvs.length + 1 := by
  unfold dputD
  split
  · rw [List.length_map]; omega
  · rw [List.length_append, List.length_singleton]; omega
theorem dputD_at {k : Key} {v : V} {d : D} (av : At Z M v d) {kvs : List (Key × D)} {us : List (Key × V)} (h : us.map (·.1) = kvs.map (·.1)) (a : AtL Z M (us.map (·.2)) (kvs.map (·.2))) : (putK us k v).map (·.1) = (dputD kvs k d).map (·.1) ∧ AtL Z M ((putK us k v).map (·.2)) ((dputD kvs k d).map (·.2)) := by
  have any : (us.any fun kv => decide (kv.1 = k)) = kvs.any fun kv => decide (kv.1 = k) := by
    have h1 : (us.any fun kv => decide (kv.1 = k)) = (us.map (·.1)).any fun x => decide (x = k) := by rw [List.any_map]; rfl
    have h2 : (kvs.any fun kv => decide (kv.1 = k)) = (kvs.map (·.1)).any fun x => decide (x = k) := by rw [List.any_map]; rfl
    rw [h1, h2, h]
  unfold putK dputD
  rw [any]
  split
  · rename_i hh; clear any hh
    induction us generalizing kvs with
    | nil => cases kvs with
      | nil => exact ⟨rfl, .nil⟩
      | cons x y => cases h
    | cons u us ih => cases kvs with
      | nil => cases h
      | cons x kvs =>
        obtain ⟨k1, v1⟩ := u
        obtain ⟨k2, d2⟩ := x
        obtain ⟨e, h'⟩ := List.cons.inj h
        obtain rfl : k1 = k2 := e
        obtain ⟨v0, ws, e2, a1, a2⟩ := AtL.inv (a : AtL Z M (v1 :: us.map (·.2)) (d2 :: kvs.map (·.2)))
        obtain ⟨rfl, rfl⟩ := List.cons.inj e2
        obtain ⟨i1, i2⟩ := ih h' a2
        by_cases c : k1 = k
        · simp only [List.map_cons, if_pos c]
          exact ⟨by rw [i1], .cons av i2⟩
        · simp only [List.map_cons, if_neg c]
          exact ⟨by rw [i1], .cons a1 i2⟩
  · refine ⟨by rw [List.map_append, List.map_append, h]; rfl, ?_⟩
    rw [List.map_append, List.map_append]
    exact AtL.app a (.one av)
/-- {k: v for x in xs for y in ys} -/
theorem xo_dc2 {g g1 : TG} {wi wi1 : TI} (h : XI Z wi δ fun xs δ0 => (∀ v ∈ vs, δ0[v]? = some .no) ∧ xs.length ≤ 1000 ∧ ∃ J : Nat → List (Key × D) → List S → Prop, J 0 [] δ0 ∧
      (∀ i d acc δ1 bs, (∀ v ∈ vs, v ∉ bs) → xs[i]? = some d → J i acc δ1 → XG Z vs bs g d δ1 fun δ2 => XI Z wi1 δ2 fun zs δ4 => zs.length ≤ 100 ∧ (∀ v ∈ vs1, δ4[v]? = some .no) ∧ ∃ Jn : Nat → List (Key × D) → List S → Prop, Jn 0 acc δ4 ∧
        (∀ j e acc δ5 bs, (∀ v ∈ vs1, v ∉ bs) → zs[j]? = some e → Jn j acc δ5 → XG Z vs1 bs g1 e δ5 fun δ6 => XE Z tk δ6 fun y δ7 => XE Z tv δ7 fun z δ8 => ∃ k, y = keyD k ∧ Jn (j + 1) (dputD acc k z) (wipeS δ8 vs1)) ∧
        ∀ acc δ5, Jn zs.length acc δ5 → J (i + 1) acc (wipeS δ5 vs)) ∧
      ∀ acc δ1, J xs.length acc δ1 → Ω (.dic acc) δ1) :
    XO Z (GX.tDcJ wi vs (GX.jobD2 g wi1 g1 tk tv vs vs1)) δ Ω := XO.mk fun B W M H σ Q I q =>
  h B W M H σ _ I fun M' H1 δ' J xs f e1 I1 wd A hA => by
    obtain ⟨hno, hxs, Jv, j0, js, jn⟩ := f
    have hAB := I1.fresh hA
    have hAm := I1.ex.free hA
    refine ⟨xs.length, fun i H => i ≤ xs.length → ∃ M'' δ'' acc us, Ex M' M'' ∧ I3 Z B W M'' H σ δ'' ∧ Jv i acc δ'' ∧ H A = some (.dK us) ∧ us.map (·.1) = acc.map (·.1) ∧ AtL Z M'' (us.map (·.2)) (acc.map (·.2)) ∧ M'' A = none ∧ (∀ j, ¬ Own σ δ'' j A) ∧ (∀ v ∈ vs, δ''[v]? = some .no) ∧ acc.length ≤ 100 * i,
      fun _ => ⟨M', δ', [], [], Ex.rfl', I1.other hAB hAm (I1.newOwn hA), j0, upd_same, rfl, .nil, hAm, I1.newOwn hA, hno, Nat.le_refl _⟩, fun i Ha hi p => ?_, fun Ha p => ?_⟩
    · obtain ⟨M'', δ'', acc, us, a, Ia, ja, hA1, ks, al, hAm1, hAo, hno1, hacc⟩ := p (Nat.le_of_lt hi)
      refine ⟨wd.go i Ha hi (a.tr Ia.ex), fun x Hb yl => ?_⟩
      obtain ⟨d, M2, hd, e2, I2, at2, k2, m2⟩ := YD.use (wd.walk.yields i Ha x Hb hi (a.tr Ia.ex) yl) a Ia
      obtain ⟨W2, hbs, Iw, fin⟩ := I2.turnO (vs := vs) (k2 _ _ hA1) (m2 _ _ hA1 hAm1) hAo hno1
      refine js i d acc δ'' _ hbs hd ja _ _ M2 Hb (wipe σ vs) x _ rfl Iw at2 fun M3 H3 σ3 δ3 h3 e3 J3 k3 l3 => ⟨(wipe_eq k3 l3).trans (wipe_eq (fun j hj => wipe_out hj) (wipe_length _ _)), ?_⟩
      refine h3 _ _ M3 H3 σ3 _ J3 fun M5 H5 δ5 J1 zs h5 e5 J5 wd1 => ?_
      obtain ⟨hzs, hno5, Jn, n0, ns, nn⟩ := h5
      have ex5 : Ex M2 M5 := e3.tr e5
      obtain ⟨⟨_, y2, y3, _, _⟩, yI, yO, hWv⟩ := fin M5 H5 σ3 δ5 ex5 k3 l3 J5
      refine ⟨zs.length, fun j H => j ≤ zs.length → ∃ M6 δ6 acc6 us6, Ex M5 M6 ∧ I3 Z B W M6 H σ3 δ6 ∧ Jn j acc6 δ6 ∧ H A = some (.dK us6) ∧ us6.map (·.1) = acc6.map (·.1) ∧ AtL Z M6 (us6.map (·.2)) (acc6.map (·.2)) ∧ M6 A = none ∧ (∀ j, ¬ Own σ3 δ6 j A) ∧ (∀ v ∈ vs1, δ6[v]? = some .no) ∧ acc6.length ≤ 100 * i + j ∧ δ6.length = δ''.length,
        fun _ => ⟨M5, δ5, acc, us, Ex.rfl', yI, n0, y2, ks, al.mono (e2.tr ex5), y3, yO, hno5, by omega, by rw [← yI.len, l3, wipe_length, I2.len]⟩, fun j Hc hj p => ?_, fun Hc p => ?_⟩
      · obtain ⟨M6, δ6, acc6, us6, a6, I6, j6, hA6, ks6, al6, hAm6, hAo6, hno6, hacc6, hlen6⟩ := p (Nat.le_of_lt hj)
        refine ⟨wd1.go j Hc hj (a6.tr I6.ex), fun x1 Hd yl1 => ?_⟩
        obtain ⟨d7, M7, hd7, e7, I7, at7, k7, m7⟩ := YD.use (wd1.walk.yields j Hc x1 Hd hj (a6.tr I6.ex) yl1) a6 I6
        obtain ⟨W7, hbs7, Iw7, fin7⟩ := I7.turnO (vs := vs1) (k7 _ _ hA6) (m7 _ _ hA6 hAm6) hAo6 hno6
        refine ns j d7 acc6 δ6 _ hbs7 hd7 j6 _ _ M7 Hd (wipe σ3 vs1) x1 _ rfl Iw7 at7 fun M8 H8 σ8 δ8 h8 e8 J8 k8 l8 => ⟨(wipe_eq k8 l8).trans (wipe_eq (fun j hj => wipe_out hj) (wipe_length _ _)), ?_⟩
        refine XE.run h8 J8 fun M9 H9 δ9 y' d' h9 e9 J9 at9 => XE.run h9 J9 fun M0 H0 δ0 z' d0 h0 e0 J0 at0 => ?_
        obtain ⟨k, rfl, h0⟩ := h0
        cases key_at at9
        have ex0 : Ex M7 M0 := e8.tr (e9.tr e0)
        obtain ⟨⟨z1, z2, z3, z4, z5⟩, _⟩ := fin7 M0 H0 σ8 δ0 ex0 k8 l8 J0
        have lu : us6.length = acc6.length := by simpa using congrArg List.length ks6
        obtain ⟨p1, p2⟩ := dputD_at (k := k) at0 ks6 (al6.mono (e7.tr ex0))
        have dl := dputD_len acc6 k d0
        exact ⟨us6, k, rfl, z2, Nat.lt_of_lt_of_le (show us6.length < 1000001 by omega) (by decide), fun _ => ⟨M0, _, _, _, a6.tr (e7.tr ex0), z1.other hAB z3 z4, h0, upd_same, p1, p2, z3, z4, z5, by omega, by rw [← z1.len, I7.len, hlen6]⟩⟩
      · obtain ⟨M6, δ6, acc6, us6, a6, I6, j6, hA6, ks6, al6, hAm6, hAo6, hno6, hacc6, hlen6⟩ := p (Nat.le_refl _)
        have hvlen : ∀ v ∈ vs, v < δ6.length := fun v hv => by rw [hlen6]; exact (List.getElem?_eq_some_iff.mp (hno1 v hv)).1
        have Jb : I3 Z B W M6 Hc σ (wipeS δ6 vs) := I6.swap (vs := vs) (fun j hj => by rw [k3 j hj, wipe_out hj]) (by rw [l3, wipe_length]) (fun j hj => wipeS_out hj) (fun j hj hlt => wipeS_in (by rw [wipeS_len] at hlt; exact hlt) hj) (wipeS_len _) fun i p hv => hWv i p hv
        refine ⟨wd1.stop Hc (a6.tr I6.ex), fun _ => ⟨M6, wipeS δ6 vs, acc6, us6, a.tr (e2.tr (ex5.tr a6)), Jb, nn _ _ j6, hA6, ks6, al6, hAm6, fun j o => ?_, fun v hv => wipeS_in (hvlen v hv) hv, by omega⟩⟩
        have hj' : j ∉ vs := fun hv => Own.not (wipeS_in (hvlen j hv) hv) hol_no o
        exact hAo6 j (o.same (by rw [k3 j hj', wipe_out hj']) (wipeS_out hj').symm)
    · obtain ⟨M'', δ'', acc, us, a, Ia, ja, hA1, ks, al, hAm1, hAo, hno1, _⟩ := p (Nat.le_refl _)
      exact ⟨wd.stop Ha (a.tr Ia.ex), q M'' Ha δ'' A _ (.dic acc) (jn _ _ ja) (e1.tr a) Ia hA1 ⟨ks, al⟩ hAm1 hAB hAo⟩
end
end G
set_option Elab.async false
set_option linter.all false
set_option maxRecDepth 100000
set_option maxHeartbeats 4000000
/-! in, of a list or a tuple of data -/
namespace GX
open PySem PySem.Spec PyProof.Rows L2
section
variable {X : Cx}
def rInSeq (K : PySem.W.Frag) : R2 := fun x y H Q => rInD K x y H Q ∨ rInTup K false x y H Q
theorem op_inSeq (room : X.A.units + 65 < cLine) : OpR X (compareOp .In) (rInSeq X.K) := fun pins s σ H x y v u Q I rx ry h => by
  rcases h with h | h
  · exact op_inD room pins s σ H x y v u Q I rx ry h
  · exact op_inTup room pins s σ H x y v u Q I rx ry h
end
end GX
namespace G
open PySem L2
section
variable {Z : Wd} {δ : List S} {ta tb : TE} {Φ : D → List S → Prop}
theorem xe_inSeq (h : XE Z ta δ fun a δ1 => XE Z tb δ1 fun b δ2 => ∃ xs, (b = .lst xs ∨ b = .tup xs) ∧ pla a = true ∧ plaL xs = true ∧ SeqAt.shaped (py a) = true ∧ SeqAt.shaped (py b) = true ∧ Φ (.bl ((pyL xs).any fun z => PyData.eqv z (py a))) δ2) : XE Z (tOp (GX.rInSeq Z.K) ta tb) δ Φ := XE.mk fun B W M H σ Q I q =>
  h.run I fun M1 H1 δ1 x a h1 e1 I1 at1 => XE.run h1 I1 fun M2 H2 δ2 y b h2 e2 I2 at2 => by
    obtain ⟨xs, hb, pa, pb, sa, sb, f⟩ := h2
    rcases hb with rfl | rfl
    · exact .inl ⟨_, _, At.dp a x (at1.mono e2) I2.ex pa, At.dp _ y at2 I2.ex pb, sa, sb, q M2 H2 δ2 _ _ f (e1.tr e2) I2 .bl⟩
    · exact .inr ⟨_, _, At.dp a x (at1.mono e2) I2.ex pa, At.dp _ y at2 I2.ex pb, sa, sb, q M2 H2 δ2 _ _ f (e1.tr e2) I2 .bl⟩
end
end G
set_option Elab.async false
set_option linter.all false
set_option maxRecDepth 100000
set_option maxHeartbeats 4000000
/-! name = {k: v for ..}, locked at once -/
namespace GX
open PySem PySem.Spec PyProof.Rows L2 PpSet
section
variable {X : Cx} {kx vx t0 i0 t1 i1 : Expr} {scope : Scope} {pos : Pos} {g g1 : TG} {wi1 : TI} {tk tv : TE} {vs vs1 : List Nat}
theorem dcJ_core {pins : List (Addr × Obj)} {s : Shared} {σ : L2.St} {H : Hp} {Q : VK} {pos' : Pos} {use : Option (Value → Sem Unit)} {Qf : Value → Shared → Prop} {tg iter : Expr} {ifs : List Expr} {more : List Comprehension} {own : List (PySem.Str × Nat)} {wi : TI} {job : SetJob} (calm : X.calm = true) (nd : X.N.Nodup) (I : Inv X pins σ H s) (src : PI X tg iter wi) (blk : BlkOk X.N X.env.scope scope own)
    (does : Does X tg (.DictComp kx vx (⟨tg, iter, ifs, 0⟩ :: more) scope pos) scope job) (plain : ∀ x, foldedSetIterable iter X.env x = pure x) (want : tDcJ wi (own.map (·.2)) job σ H Q)
    (hRR : ∀ D C s' m H', Inv X pins σ H' s' → Q (.ref D) H' → s'.heap.Ns C m → FpOk X pins H' C → compPost (model X.prog X.w) X.A X.xe use Qf (.ref D) C (.ok .next) s') :
    wpAny (model X.prog X.w) X.A (comprehension (.DictComp kx vx (⟨tg, iter, ifs, 0⟩ :: more) scope pos) scope X.env pos' newDict false (eval iter X.env) use) Qf X.xe s := by
  have frees : ∀ y ∈ scope.names, y.2 = .free → ∃ c, X.env.cells.lookup y.1 = some c := fun y hy e => (blk.free y hy e).elim (fun k => I.ok.has _ (.inl k)) fun k => I.ok.has _ (.inr k)
  refine wpAny_comprehension_free (use := use) rfl plain (closure_ok frees) blk.kind (fun y hy e => by rw [blk.uniq y hy, e]) (thn (src.run pins s σ H _ I want) fun _ _ first => thn first fun _ s2 came => ?_)
  obtain ⟨it, fp, tn, J, H2, rfl, I2, T, t0, clear, job⟩ := came
  refine wpAny_newObj_type (newEnv_comp ?_)
  have dn : H2 s2.heap.objs.size = none := I2.hok.fresh (Nat.le_refl _)
  have job := job _ dn
  have I3 := I2.laid (h' := s2.heap.push { cls := .type "dict", data := .dict #[] }) (t' := s2.toks) (fun _ _ e => Heap.get?_push_of_some _ e) (Nat.le_refl _) (dk_empty s2.heap I2.big)
  have old : ∀ b ∈ fp, b < s2.heap.objs.size := fun b hb => by obtain ⟨o, e, _⟩ := T.obj _ _ t0 b hb; exact Heap.lt_size e
  have clear3 : ∀ b ∈ fp, FpOk X pins (upd H2 s2.heap.objs.size (.dK [])) b ∧ b < (s2.heap.push { cls := .type "dict", data := .dict #[] }).objs.size := fun b hb =>
    ⟨⟨by rw [upd_ne (Nat.ne_of_lt (old b hb))]; exact (clear b hb).1, (clear b hb).2⟩, by rw [Heap.size_push]; exact Nat.lt_succ_of_lt (old b hb)⟩
  have t3 : tn 0 (s2.heap.push { cls := .type "dict", data := .dict #[] }) := T.keep _ _ _ t0 fun b _ o e => Heap.get?_push_of_some _ e
  have I4 := block_start I3 blk nd clear3
  have t4 : tn 0 (pushCells ((s2.heap.push { cls := .type "dict", data := .dict #[] }).push { cls := .type "dict", data := .dict #[] }) scope.names) := T.keep _ _ _ t3 fun b _ o e => pushCells_keeps _ _ _ _ (Heap.get?_push_of_some _ e)
  refine codeAny_compStart_dict ?run (T.self X.A 0 _ _ _ t4 ?run)
  refine does _ _ _ _ fp it _ J tn _ _ _ _ _ calm T blk_here I4 t4 (fun b hb => (clear3 b hb).1.1) job fun s' H' J' done => ?_
  -- the block ends
  have I7 : Inv X pins σ H' s' := I3.call' (ch := fp) J'.os J'.base J'.hok J'.bare fun b hb => ⟨(clear3 b hb).1.2.2.2.1, (clear3 b hb).1.2.1, (clear3 b hb).1.2.2.2.2.1, (clear3 b hb).1.2.2.2.2.2⟩
  obtain ⟨m, ns, _⟩ := J'.loc
  have gap : H' (s2.heap.push { cls := .type "dict", data := .dict #[] }).objs.size = none := J'.free
  exact hRR _ _ s' m H' I7 done ns (I3.fpOk (Nat.le_refl _) gap)
theorem swD_true {gs : List Comprehension} {py : Pos} {y : PySem.Str} {l : Nat} {env : Env} (hk : env.scope.kind = .function) (hy : env.scope.names.lookup y = some .local) (hl : (py.line == pos.line) = true)
    (ha : (scope.names.any fun (n, k) => n == y && (k == .local || k == .cell)) = false) : swapsWith (.DictComp kx vx gs scope pos) (some (.Name y py)) l env = pure true := by
  have ky : env.kindOf y = some .local := hy
  have hb : env.blockKind = .function := by unfold Env.blockKind; rw [hk]; rfl
  unfold swapsWith
  simp only [hb, ky, ha, Expr.pos, hl]
  rfl
/-- what follows once the dict is there -/
theorem stored_lk {pins : List (Addr × Obj)} {s' : Shared} {σ : L2.St} {H' : Hp} {D : Ends} {i : Nat} {y : PySem.Str} {py : Pos} {L C : Addr} {m : PySem.Str → Option Value} (hN : X.N.Nodup) (hy : X.N[i]? = some y) (hyl : X.env.scope.names.lookup y = some .local)
    (I' : Inv X pins σ H' s') (q : ∃ d kvs, V.ref L = .ref d ∧ H' d = some (.dK kvs) ∧ ∀ o, gName i (.ref L) σ (upd H' d (.frz o (.dK kvs))) D.nx) (hn : s'.heap.Ns C m) (f : FpOk X pins H' C) :
    compPost (model X.prog X.w) X.A X.xe (some (assign (.Name y py) X.env)) (fun _ s' => SP X pins D .next s') (.ref L) C (.ok .next) s' := by
  obtain ⟨d, kvs, e, hd, q⟩ := q
  cases e
  obtain ⟨od, I2⟩ := I'.lock hd trivial
  obtain ⟨f0, f1, f2, f3, f4, f5⟩ := f
  have hLC : C ≠ L := fun e => by rw [e, hd] at f0; cases f0
  have f0 : upd H' L (.frz od (.dK kvs)) C = none := by rw [upd_ne hLC]; exact f0
  show wpAny _ _ (assign (.Name y py) X.env (.ref L)) _ _ _
  refine wpAny_assign_Name (store_ok2 (v := V.ref L) I2 hN hy (.inl hyl) rfl (fun s2 I3 ⟨a, sb, ha⟩ => ?_) (.inr hyl))
  have haC : C ≠ a := by
    rcases ha with z | z
    · rw [z]; exact f1
    · exact fun e => f4 y a z e.symm
  refine ⟨m, hn.sameBut sb haC, fun h3 sb3 => ?_⟩
  exact ⟨_, _, I3.turned (t' := s2.toks) (fun b o hb e => (sb3.2 b hb).trans e) f0 f1 f3 f4 f5, q od⟩
theorem ps_setDcL {i : Nat} {y : PySem.Str} {py : Pos} {tg iter : Expr} {ifs : List Expr} {own : List (PySem.Str × Nat)} {spos : Pos} {wi : TI} {tt : TT} (hc : X.calm = true) (hN : X.N.Nodup) (hy : X.N[i]? = some y) (hyl : X.env.scope.names.lookup y = some .local)
    (hsw : swapsWith (.DictComp kx vx [⟨tg, iter, ifs, 0⟩] scope pos) (some (.Name y py)) spos.line X.env = pure true) (hi : PI X tg iter wi) (ok : BlkOk X.N X.env.scope scope own)
    (hg : ∀ (s : Shared) (H : Hp) (C : Addr) (cl : List (PySem.Str × Addr)) (fp : List Addr), PG (X.blk s H scope (compEnvC scope cl C X.env) fp) tg g) (ht : ∀ (s : Shared) (H : Hp) (C : Addr) (cl : List (PySem.Str × Addr)) (fp : List Addr), PTs (X.blk s H scope (compEnvC scope cl C X.env) fp) ifs tt)
    (hk : ∀ (s : Shared) (H : Hp) (C : Addr) (cl : List (PySem.Str × Addr)) (fp : List Addr), PE (X.blk s H scope (compEnvC scope cl C X.env) fp) kx tk) (he : ∀ (s : Shared) (H : Hp) (C : Addr) (cl : List (PySem.Str × Addr)) (fp : List Addr), PE (X.blk s H scope (compEnvC scope cl C X.env) fp) vx tv) (hs : ∀ x, foldedSetIterable iter X.env x = pure x := by intro _; rfl) :
    PS X (.Assign [.Name y py] (.DictComp kx vx [⟨tg, iter, ifs, 0⟩] scope pos) spos) (tAsg (tLk (tDc wi g tt tk tv (own.map (·.2)))) (gName i)) := by
  refine ⟨fun pins s σ H D I h => ?_⟩
  rw [exec_Assign_Name_used _ _ _ _ hsw]
  refine wpAny_bind (wpAny_standAt (wpAny_bind ?_))
  show wpAny _ X.A (do let _ ← comprehension (.DictComp kx vx [⟨tg, iter, ifs, 0⟩] scope pos) scope X.env (firstIterPos [⟨tg, iter, ifs, 0⟩] pos) newDict false (eval iter X.env) (some (assign (.Name y py) X.env))) _ _ s
  have h : tDc wi g tt tk tv (own.map (·.2)) σ H (fun x H1 => ∃ d kvs, x = .ref d ∧ H1 d = some (.dK kvs) ∧ ∀ o, gName i x σ (upd H1 d (.frz o (.dK kvs))) D.nx) := h
  refine wpAny_bind (thn (dc_core (Qf := fun _ s' => SP X pins D .next s') hc hN I hi ok hg ht hk he hs h fun L C s' m H' I' q hn f => stored_lk hN hy hyl I' q hn f) fun _ s' hq => wpAny_pure (wpAny_pure hq))
theorem ps_setDc2L {i : Nat} {y : PySem.Str} {py : Pos} {own : List (PySem.Str × Nat)} {spos : Pos} {wi : TI} (hc : X.calm = true) (hN : X.N.Nodup) (hy : X.N[i]? = some y) (hyl : X.env.scope.names.lookup y = some .local)
    (hsw : swapsWith (.DictComp kx vx [⟨t0, i0, [], 0⟩, ⟨t1, i1, [], 0⟩] scope pos) (some (.Name y py)) spos.line X.env = pure true) (src : PI X t0 i0 wi) (blk : BlkOk X.N X.env.scope scope own) (sub : ∀ i ∈ vs1, i ∈ own.map (·.2)) (pg : ∀ (s : Shared) (H : Hp) (C : Addr) (cl : List (PySem.Str × Addr)) (fp : List Addr), PG (X.blk s H scope (compEnvC scope cl C X.env) fp) t0 g)
    (pi1 : ∀ (s : Shared) (H : Hp) (C : Addr) (cl : List (PySem.Str × Addr)) (fp : List Addr), PI (X.blk s H scope (compEnvC scope cl C X.env) fp) t1 i1 wi1) (pg1 : ∀ (s : Shared) (H : Hp) (C : Addr) (cl : List (PySem.Str × Addr)) (fp : List Addr), PG (X.blk s H scope (compEnvC scope cl C X.env) fp) t1 g1)
    (pk : ∀ (s : Shared) (H : Hp) (C : Addr) (cl : List (PySem.Str × Addr)) (fp : List Addr), PE (X.blk s H scope (compEnvC scope cl C X.env) fp) kx tk) (pv : ∀ (s : Shared) (H : Hp) (C : Addr) (cl : List (PySem.Str × Addr)) (fp : List Addr), PE (X.blk s H scope (compEnvC scope cl C X.env) fp) vx tv) (plain : ∀ x, foldedSetIterable i0 X.env x = pure x := by intro _; rfl) (plain1 : ∀ env x, foldedSetIterable i1 env x = pure x := by intro _ _; rfl) :
    PS X (.Assign [.Name y py] (.DictComp kx vx [⟨t0, i0, [], 0⟩, ⟨t1, i1, [], 0⟩] scope pos) spos) (tAsg (tLk (tDcJ wi (own.map (·.2)) (jobD2 g wi1 g1 tk tv (own.map (·.2)) vs1))) (gName i)) := by
  refine ⟨fun pins s σ H D I h => ?_⟩
  rw [exec_Assign_Name_used _ _ _ _ hsw]
  refine wpAny_bind (wpAny_standAt (wpAny_bind ?_))
  show wpAny _ X.A (do let _ ← comprehension (.DictComp kx vx [⟨t0, i0, [], 0⟩, ⟨t1, i1, [], 0⟩] scope pos) scope X.env (firstIterPos [⟨t0, i0, [], 0⟩, ⟨t1, i1, [], 0⟩] pos) newDict false (eval i0 X.env) (some (assign (.Name y py) X.env))) _ _ s
  have h : tDcJ wi (own.map (·.2)) (jobD2 g wi1 g1 tk tv (own.map (·.2)) vs1) σ H (fun x H1 => ∃ d kvs, x = .ref d ∧ H1 d = some (.dK kvs) ∧ ∀ o, gName i x σ (upd H1 d (.frz o (.dK kvs))) D.nx) := h
  refine wpAny_bind (thn (dcJ_core (Qf := fun _ s' => SP X pins D .next s') hc hN I src blk (doesD2 pg pi1 pg1 pk pv sub plain1) plain h fun L C s' m H' I' q hn f => stored_lk hN hy hyl I' q hn f) fun _ s' hq => wpAny_pure (wpAny_pure hq))
end
end GX
set_option Elab.async false
set_option linter.all false
set_option maxRecDepth 100000
set_option maxHeartbeats 4000000
/-! a list within a dict (keys tuples) that grows there: held loosely until it is full -/
namespace G
open PySem L2
section
variable {Z : Wd} {M H M' H' : Hp} {B : Bas} {W : List (Nat × Addr)} {σ σ' : St} {δ δ' : List S}
variable {te ta tb ty tv tk : TE} {tt : TT} {s1 s2 : TS} {Φ : D → List S → Prop} {bs vs : List Nat} {P : Po} {wi : TI} {g : TG} {q : Addr} {xs : List D}
structure L1 (Z : Wd) (B : Bas) (M H : Hp) (σ : St) (δ : List S) (q : Addr) (xs : List D) : Prop where
  ls : ∃ vs, H q = some (.lst vs) ∧ AtL Z M vs xs
  fr : Fr B M σ δ q
theorem L1.keep {W2 : List (Nat × Addr)} (L : L1 Z B M H σ δ q xs) (hW : ∀ i a, (i, a) ∈ W2 ↔ Own σ δ i a) (ex : Ex M M') (J : I3 Z ⟨H, M⟩ W2 M' H' σ' δ') : L1 Z B M' H' σ' δ' q xs := by
  obtain ⟨vs, e, al⟩ := L.ls
  obtain ⟨a, b, c⟩ := J.stays e L.fr.m (fun i hi => L.fr.o i ((hW i q).mp hi)) (fun _ e => nomatch e)
  exact ⟨⟨vs, a, al.mono ex⟩, c, L.fr.b, b⟩
theorem L1.same (L : L1 Z B M H σ δ q xs) (ex : Ex M M') (k : ∀ a o, H a = some o → H' a = some o) (m : ∀ a o, H a = some o → M a = none → M' a = none) : L1 Z B M' H' σ δ q xs := by
  obtain ⟨vs, e, al⟩ := L.ls
  exact ⟨⟨vs, k _ _ e, al.mono ex⟩, m _ _ e L.fr.m, L.fr.b, L.fr.o⟩
variable {N : List S → List D → Prop}
end
end G
set_option Elab.async false
set_option linter.all false
set_option maxRecDepth 100000
set_option maxHeartbeats 4000000
/-! a dict keyed by tuples that is locked: a datum (D.dicT) -/
namespace GX
open PySem PySem.Spec PySem.W PySem.SeqAt PyProof.Rows L2
end GX
namespace G
open PySem L2
end G
set_option Elab.async false
set_option linter.all false
set_option maxRecDepth 100000
set_option maxHeartbeats 4000000
/-! the place of a text in a text -/
namespace GX
open PySem PySem.Spec PySem.W PySem.SeqAt PyProof.Rows L2
end GX
namespace G
open PySem L2
end G
set_option Elab.async false
set_option linter.all false
set_option maxRecDepth 100000
set_option maxHeartbeats 4000000
namespace GK
open PySem L2 G
def top (i : Nat) : Stmt := PySem.Challenge.pw_leavelots_k42_drawings_refused.main.body.getD i (.Pass ⟨0, 0, 0, 0⟩)
abbrev s_is_int : Stmt := (top 2)
abbrev N_is_int : List Str := ["value"]
theorem sc_is_int : FnScope N_is_int ["value"] (defScope s_is_int) := ⟨rfl, rfl, rfl, by decide +kernel, rfl, by decide +kernel, by decide +kernel⟩
abbrev s_is_index : Stmt := (top 3)
abbrev s_is_name : Stmt := (top 4)
abbrev N_is_name : List Str := ["value", "letter"]
theorem sc_is_name : FnScope N_is_name ["value"] (defScope s_is_name) := ⟨rfl, rfl, rfl, by decide +kernel, rfl, by decide +kernel, by decide +kernel⟩
abbrev s_is_sequence : Stmt := (top 5)
abbrev N_is_sequence : List Str := ["value"]
theorem sc_is_sequence : FnScope N_is_sequence ["value"] (defScope s_is_sequence) := ⟨rfl, rfl, rfl, by decide +kernel, rfl, by decide +kernel, by decide +kernel⟩
abbrev s_are_names : Stmt := (top 6)
abbrev N_are_names : List Str := ["value", "thing"]
theorem sc_are_names : FnScope N_are_names ["value"] (defScope s_are_names) := ⟨rfl, rfl, rfl, by decide +kernel, rfl, by decide +kernel, by decide +kernel⟩
abbrev s_are_unlike : Stmt := (top 7)
abbrev N_are_unlike : List Str := ["value"]
theorem sc_are_unlike : FnScope N_are_unlike ["value"] (defScope s_are_unlike) := ⟨rfl, rfl, rfl, by decide +kernel, rfl, by decide +kernel, by decide +kernel⟩
abbrev s_lot_of : Stmt := (top 8)
abbrev N_lot_of : List Str := ["names"]
theorem sc_lot_of : FnScope N_lot_of ["names"] (defScope s_lot_of) := ⟨rfl, rfl, rfl, by decide +kernel, rfl, by decide +kernel, by decide +kernel⟩
abbrev s_bits_of : Stmt := (top 9)
abbrev N_bits_of : List Str := ["names", "some", "name"]
theorem sc_bits_of : FnScope N_bits_of ["names", "some"] (defScope s_bits_of) := ⟨rfl, rfl, rfl, by decide +kernel, rfl, by decide +kernel, by decide +kernel⟩
abbrev s_names_of : Stmt := (top 10)
abbrev N_names_of : List Str := ["names", "bits", "at", "name"]
theorem sc_names_of : FnScope N_names_of ["names", "bits"] (defScope s_names_of) := ⟨rfl, rfl, rfl, by decide +kernel, rfl, by decide +kernel, by decide +kernel⟩
abbrev s_InvalidRule_init : Stmt := (inClass (top 13) 0)
abbrev N_InvalidRule_init : List Str := ["self", "word"]
theorem sc_InvalidRule_init : FnScope N_InvalidRule_init ["self", "word"] (defScope s_InvalidRule_init) := ⟨rfl, rfl, rfl, by decide +kernel, rfl, by decide +kernel, by decide +kernel⟩
abbrev s_InvalidDrawing_init : Stmt := (inClass (top 17) 0)
abbrev N_InvalidDrawing_init : List Str := ["self", "at"]
theorem sc_InvalidDrawing_init : FnScope N_InvalidDrawing_init ["self", "at"] (defScope s_InvalidDrawing_init) := ⟨rfl, rfl, rfl, by decide +kernel, rfl, by decide +kernel, by decide +kernel⟩
abbrev s_Rule_init : Stmt := (inClass (top 20) 0)
abbrev N_Rule_init : List Str := ["self", "name", "gone"]
theorem sc_Rule_init : FnScope N_Rule_init ["self", "name", "gone"] (defScope s_Rule_init) := ⟨rfl, rfl, rfl, by decide +kernel, rfl, by decide +kernel, by decide +kernel⟩
abbrev s_Rule_eq : Stmt := (inClass (top 20) 1)
abbrev s_Rule_str : Stmt := (inClass (top 20) 2)
abbrev s_read_rule : Stmt := (top 21)
abbrev N_read_rule : List Str := ["line", "name", "rest"]
theorem sc_read_rule : FnScope N_read_rule ["line"] (defScope s_read_rule) := ⟨rfl, rfl, rfl, by decide +kernel, rfl, by decide +kernel, by decide +kernel⟩
abbrev s_Room_init : Stmt := (inClass (top 23) 0)
abbrev N_Room_init : List Str := ["self", "rules", "at", "rule", "name"]
theorem sc_Room_init : FnScope N_Room_init ["self", "rules"] (defScope s_Room_init) := ⟨rfl, rfl, rfl, by decide +kernel, rfl, by decide +kernel, by decide +kernel⟩
abbrev s_Room_read : Stmt := (inClass (top 23) 1)
abbrev N_Room_read : List Str := ["cls", "text", "lines", "rules", "at", "line"]
theorem sc_Room_read : FnScope N_Room_read ["cls", "text"] (defScope s_Room_read) := ⟨rfl, rfl, rfl, by decide +kernel, rfl, by decide +kernel, by decide +kernel⟩
abbrev s_Room_without : Stmt := (inClass (top 23) 2)
abbrev s_Room_len : Stmt := (inClass (top 23) 3)
abbrev s_Room_getitem : Stmt := (inClass (top 23) 4)
abbrev s_Room_add : Stmt := (inClass (top 23) 6)
abbrev s_Room_eq : Stmt := (inClass (top 23) 7)
abbrev s_Room_str : Stmt := (inClass (top 23) 8)
abbrev s_least_meeting : Stmt := (top 25)
abbrev N_least_meeting : List Str := ["parts", "found", "part", "meeting", "wider", "lot", "one"]
theorem sc_least_meeting : FnScope N_least_meeting ["parts"] (defScope s_least_meeting) := ⟨rfl, rfl, rfl, by decide +kernel, rfl, by decide +kernel, by decide +kernel⟩
abbrev s_ones_of : Stmt := (top 26)
abbrev N_ones_of : List Str := ["bits", "at"]
theorem sc_ones_of : FnScope N_ones_of ["bits"] (defScope s_ones_of) := ⟨rfl, rfl, rfl, by decide +kernel, rfl, by decide +kernel, by decide +kernel⟩
abbrev s_has_one_of : Stmt := (top 27)
abbrev N_has_one_of : List Str := ["bits", "lots", "lot"]
theorem sc_has_one_of : FnScope N_has_one_of ["bits", "lots"] (defScope s_has_one_of) := ⟨rfl, rfl, rfl, by decide +kernel, rfl, by decide +kernel, by decide +kernel⟩
abbrev s_tree : Stmt := (top 29)
abbrev N_tree : List Str := ["edges", "at"]
theorem sc_tree : FnScope N_tree ["edges"] (defScope s_tree) := ⟨rfl, rfl, rfl, by decide +kernel, rfl, by decide +kernel, by decide +kernel⟩
abbrev s_taken_down : Stmt := (top 30)
abbrev N_taken_down : List Str := ["edges", "names", "edge", "name"]
theorem sc_taken_down : FnScope N_taken_down ["edges"] (defScope s_taken_down) := ⟨rfl, rfl, rfl, by decide +kernel, rfl, by decide +kernel, by decide +kernel⟩
abbrev s_check_edges : Stmt := (top 31)
abbrev N_check_edges : List Str := ["edges", "at", "edge"]
theorem sc_check_edges : FnScope N_check_edges ["edges"] (defScope s_check_edges) := ⟨rfl, rfl, rfl, by decide +kernel, rfl, by decide +kernel, by decide +kernel⟩
abbrev s_is_tuple_of : Stmt := (top 32)
abbrev N_is_tuple_of : List Str := ["value", "many"]
theorem sc_is_tuple_of : FnScope N_is_tuple_of ["value", "many"] (defScope s_is_tuple_of) := ⟨rfl, rfl, rfl, by decide +kernel, rfl, by decide +kernel, by decide +kernel⟩
abbrev s_ring_at : Stmt := (top 33)
abbrev N_ring_at : List Str := ["edges", "marks", "at", "one", "other", "kept", "lost", "edge", "name", "mark"]
theorem sc_ring_at : FnScope N_ring_at ["edges"] (defScope s_ring_at) := ⟨rfl, rfl, rfl, by decide +kernel, rfl, by decide +kernel, by decide +kernel⟩
abbrev s_are_joined : Stmt := (top 34)
abbrev N_are_joined : List Str := ["edges", "one", "other"]
theorem sc_are_joined : FnScope N_are_joined ["edges", "one", "other"] (defScope s_are_joined) := ⟨rfl, rfl, rfl, by decide +kernel, rfl, by decide +kernel, by decide +kernel⟩
abbrev s_unjoined_beside : Stmt := (top 35)
abbrev N_unjoined_beside : List Str := ["edges", "names", "corner", "beside", "name", "one", "other"]
theorem sc_unjoined_beside : FnScope N_unjoined_beside ["edges", "names", "corner"] (defScope s_unjoined_beside) := ⟨rfl, rfl, rfl, by decide +kernel, rfl, by decide +kernel, by decide +kernel⟩
abbrev s_room_kept_by : Stmt := (top 36)
abbrev N_room_kept_by : List Str := ["parts", "names", "rules", "name", "ways", "part", "way"]
theorem sc_room_kept_by : FnScope N_room_kept_by ["parts"] (defScope s_room_kept_by) := ⟨rfl, rfl, rfl, by decide +kernel, rfl, by decide +kernel, by decide +kernel⟩
abbrev s_peeled : Stmt := (top 37)
abbrev N_peeled : List Str := ["points", "point"]
theorem sc_peeled : FnScope N_peeled ["points"] (defScope s_peeled) := ⟨rfl, rfl, rfl, by decide +kernel, rfl, by decide +kernel, by decide +kernel⟩
abbrev s_check_points : Stmt := (top 38)
abbrev N_check_points : List Str := ["points", "at", "point", "name", "x", "y"]
theorem sc_check_points : FnScope N_check_points ["points"] (defScope s_check_points) := ⟨rfl, rfl, rfl, by decide +kernel, rfl, by decide +kernel, by decide +kernel⟩
abbrev s_is_point : Stmt := (top 39)
abbrev N_is_point : List Str := ["value"]
theorem sc_is_point : FnScope N_is_point ["value"] (defScope s_is_point) := ⟨rfl, rfl, rfl, by decide +kernel, rfl, by decide +kernel, by decide +kernel⟩
abbrev s_around : Stmt := (top 40)
abbrev N_around : List Str := ["points", "point", "rest", "found", "at", "first", "place", "second", "other", "third"]
theorem sc_around : FnScope N_around ["points", "point"] (defScope s_around) := ⟨rfl, rfl, rfl, by decide +kernel, rfl, by decide +kernel, by decide +kernel⟩
abbrev s_is_between : Stmt := (top 41)
abbrev N_is_between : List Str := ["point", "first", "second"]
theorem sc_is_between : FnScope N_is_between ["point", "first", "second"] (defScope s_is_between) := ⟨rfl, rfl, rfl, by decide +kernel, rfl, by decide +kernel, by decide +kernel⟩
abbrev s_is_inside : Stmt := (top 42)
abbrev N_is_inside : List Str := ["point", "first", "second", "third", "turns"]
theorem sc_is_inside : FnScope N_is_inside ["point", "first", "second", "third"] (defScope s_is_inside) := ⟨rfl, rfl, rfl, by decide +kernel, rfl, by decide +kernel, by decide +kernel⟩
abbrev s_turn : Stmt := (top 43)
abbrev N_turn : List Str := ["point", "first", "second"]
theorem sc_turn : FnScope N_turn ["point", "first", "second"] (defScope s_turn) := ⟨rfl, rfl, rfl, by decide +kernel, rfl, by decide +kernel, by decide +kernel⟩
abbrev s_opened : Stmt := (top 44)
abbrev N_opened : List Str := ["point", "first", "second"]
theorem sc_opened : FnScope N_opened ["point", "first", "second"] (defScope s_opened) := ⟨rfl, rfl, rfl, by decide +kernel, rfl, by decide +kernel, by decide +kernel⟩
abbrev s_lw_graph : Stmt := (top 46)
abbrev N_lw_graph : List Str := ["_law_deal_here", "_law_names_here", "_law_most", "_law_found", "_law_turn", "_law_one", "_law_other"]
theorem sc_lw_graph : FnScope N_lw_graph ["_law_deal_here", "_law_names_here", "_law_most"] (defScope s_lw_graph) := ⟨rfl, rfl, rfl, by decide +kernel, rfl, by decide +kernel, by decide +kernel⟩
abbrev s_lw_forest : Stmt := (top 47)
abbrev N_lw_forest : List Str := ["_law_deal_here", "_law_names_here", "_law_found", "_law_at", "_law_pair"]
theorem sc_lw_forest : FnScope N_lw_forest ["_law_deal_here", "_law_names_here"] (defScope s_lw_forest) := ⟨rfl, rfl, rfl, by decide +kernel, rfl, by decide +kernel, by decide +kernel⟩
abbrev s_lw_points : Stmt := (top 48)
abbrev N_lw_points : List Str := ["_law_deal_here", "_law_bound", "_law_wide", "_law_found", "_law_places", "_law_name", "_law_place"]
theorem sc_lw_points : FnScope N_lw_points ["_law_deal_here", "_law_bound", "_law_wide"] (defScope s_lw_points) := ⟨rfl, rfl, rfl, by decide +kernel, rfl, by decide +kernel, by decide +kernel⟩
abbrev s_lw_refused : Stmt := (top 49)
abbrev N_lw_refused : List Str := ["_law_form", "_law_value", "_law_found", "e"]
theorem sc_lw_refused : FnScope N_lw_refused ["_law_form", "_law_value"] (defScope s_lw_refused) := ⟨rfl, rfl, rfl, by decide +kernel, rfl, by decide +kernel, by decide +kernel⟩
abbrev s_lw_closing : Stmt := (top 50)
abbrev N_lw_closing : List Str := ["_law_edges", "_law_part", "_law_at", "_law_one", "_law_other", "_law_here", "_law_there", "_law_name"]
theorem sc_lw_closing : FnScope N_lw_closing ["_law_edges"] (defScope s_lw_closing) := ⟨rfl, rfl, rfl, by decide +kernel, rfl, by decide +kernel, by decide +kernel⟩
abbrev s_lw_odd : Stmt := (top 51)
abbrev N_lw_odd : List Str := ["_law_deal_here", "_law_form", "_law_some"]
theorem sc_lw_odd : FnScope N_lw_odd ["_law_deal_here", "_law_form"] (defScope s_lw_odd) := ⟨rfl, rfl, rfl, by decide +kernel, rfl, by decide +kernel, by decide +kernel⟩
abbrev s_lw_deal : Stmt := (top 52)
abbrev N_lw_deal : List Str := ["_law_script", "_law_base", "_law_cells", "_law_cell", "_law_blend"]
theorem sc_lw_deal : FnScope N_lw_deal ["_law_script", "_law_base"] (defScope s_lw_deal) := ⟨rfl, rfl, rfl, by decide +kernel, rfl, by decide +kernel, by decide +kernel⟩
abbrev s_lw_draw : Stmt := (top 53)
abbrev N_lw_draw : List Str := ["_law_deal_here", "_law_bound", "_law_left"]
theorem sc_lw_draw : FnScope N_lw_draw ["_law_deal_here", "_law_bound"] (defScope s_lw_draw) := ⟨rfl, rfl, rfl, by decide +kernel, rfl, by decide +kernel, by decide +kernel⟩
abbrev s_lw_pick : Stmt := (top 54)
abbrev N_lw_pick : List Str := ["_law_deal_here", "_law_some"]
theorem sc_lw_pick : FnScope N_lw_pick ["_law_deal_here", "_law_some"] (defScope s_lw_pick) := ⟨rfl, rfl, rfl, by decide +kernel, rfl, by decide +kernel, by decide +kernel⟩
abbrev s_lw_mixed : Stmt := (top 55)
abbrev N_lw_mixed : List Str := ["_law_deal_here", "_law_some", "_law_left", "_law_found"]
theorem sc_lw_mixed : FnScope N_lw_mixed ["_law_deal_here", "_law_some"] (defScope s_lw_mixed) := ⟨rfl, rfl, rfl, by decide +kernel, rfl, by decide +kernel, by decide +kernel⟩
abbrev s_lw_names : Stmt := (top 56)
abbrev N_lw_names : List Str := ["_law_deal_here", "_law_bound", "_law_letters", "_law_spot", "_law_tail", "_law_k"]
theorem sc_lw_names : FnScope N_lw_names ["_law_deal_here", "_law_bound"] (defScope s_lw_names) := ⟨rfl, rfl, rfl, by decide +kernel, rfl, by decide +kernel, by decide +kernel⟩
abbrev s_lw_main : Stmt := (top 57)
abbrev N_lw_main : List Str := ["_law_script", "_law_base", "_law_deal_here", "_law_turn", "_law_names_here", "_law_edges", "_law_forest_here", "_law_points_here", "_law_form", "_law_good", "_law_at", "_law_odd_here", "_law_value", "_law_name", "_law_x", "_law_y", "_law_other"]
theorem sc_lw_main : FnScope N_lw_main ["_law_script"] (defScope s_lw_main) := ⟨rfl, rfl, rfl, by decide +kernel, rfl, by decide +kernel, by decide +kernel⟩
/-- where what the text needs stands -/
structure Ads where
  C_Rule : Addr
  C_Room : Addr
  C_InvalidDrawing : Addr
  C_InvalidRule : Addr
  C_InvalidOrder : Addr
  C_LeaveError : Addr
  f_is_int : Addr
  fd_is_int : FuncData
  f_is_index : Addr
  fd_is_index : FuncData
  f_is_name : Addr
  fd_is_name : FuncData
  f_is_sequence : Addr
  fd_is_sequence : FuncData
  f_are_names : Addr
  fd_are_names : FuncData
  f_are_unlike : Addr
  fd_are_unlike : FuncData
  f_lot_of : Addr
  fd_lot_of : FuncData
  f_bits_of : Addr
  fd_bits_of : FuncData
  f_names_of : Addr
  fd_names_of : FuncData
  f_InvalidRule_init : Addr
  fd_InvalidRule_init : FuncData
  f_InvalidDrawing_init : Addr
  fd_InvalidDrawing_init : FuncData
  f_Rule_init : Addr
  fd_Rule_init : FuncData
  e_Rule_init : Addr
  f_Rule_eq : Addr
  fd_Rule_eq : FuncData
  f_Rule_str : Addr
  fd_Rule_str : FuncData
  f_read_rule : Addr
  fd_read_rule : FuncData
  f_Room_init : Addr
  fd_Room_init : FuncData
  e_Room_init : Addr
  f_Room_read : Addr
  fd_Room_read : FuncData
  p_Room_read : Addr
  f_Room_without : Addr
  fd_Room_without : FuncData
  f_Room_len : Addr
  fd_Room_len : FuncData
  f_Room_getitem : Addr
  fd_Room_getitem : FuncData
  f_Room_add : Addr
  fd_Room_add : FuncData
  f_Room_eq : Addr
  fd_Room_eq : FuncData
  f_Room_str : Addr
  fd_Room_str : FuncData
  f_least_meeting : Addr
  fd_least_meeting : FuncData
  f_ones_of : Addr
  fd_ones_of : FuncData
  f_has_one_of : Addr
  fd_has_one_of : FuncData
  f_tree : Addr
  fd_tree : FuncData
  f_taken_down : Addr
  fd_taken_down : FuncData
  f_check_edges : Addr
  fd_check_edges : FuncData
  f_is_tuple_of : Addr
  fd_is_tuple_of : FuncData
  f_ring_at : Addr
  fd_ring_at : FuncData
  f_are_joined : Addr
  fd_are_joined : FuncData
  f_unjoined_beside : Addr
  fd_unjoined_beside : FuncData
  f_room_kept_by : Addr
  fd_room_kept_by : FuncData
  f_peeled : Addr
  fd_peeled : FuncData
  f_check_points : Addr
  fd_check_points : FuncData
  f_is_point : Addr
  fd_is_point : FuncData
  f_around : Addr
  fd_around : FuncData
  f_is_between : Addr
  fd_is_between : FuncData
  f_is_inside : Addr
  fd_is_inside : FuncData
  f_turn : Addr
  fd_turn : FuncData
  f_opened : Addr
  fd_opened : FuncData
  f_lw_graph : Addr
  fd_lw_graph : FuncData
  f_lw_forest : Addr
  fd_lw_forest : FuncData
  f_lw_points : Addr
  fd_lw_points : FuncData
  f_lw_refused : Addr
  fd_lw_refused : FuncData
  f_lw_closing : Addr
  fd_lw_closing : FuncData
  f_lw_odd : Addr
  fd_lw_odd : FuncData
  f_lw_deal : Addr
  fd_lw_deal : FuncData
  f_lw_draw : Addr
  fd_lw_draw : FuncData
  f_lw_pick : Addr
  fd_lw_pick : FuncData
  f_lw_mixed : Addr
  fd_lw_mixed : FuncData
  f_lw_names : Addr
  fd_lw_names : FuncData
  f_lw_main : Addr
  fd_lw_main : FuncData
structure Txt (K : PySem.W.Frag) (mg : Str → Option Value) (a : Ads) : Prop where
  cl_Rule : Cls K a.C_Rule
  m_Rule : mg "Rule" = some (.ref a.C_Rule)
  mk_Rule : Mk K a.C_Rule a.f_Rule_init
  isC_Rule : C8.InsC K a.C_Rule
  no_Rule_name : NoAttr K a.C_Rule "name"
  no_Rule_gone : NoAttr K a.C_Rule "gone"
  nn_Rule : GX.NoNe K a.C_Rule
  nf_Rule_str : PySem.W.notFirst K a.C_Rule (.type "str") = true
  nf_Rule_Room : PySem.W.notFirst K a.C_Rule (.ref a.C_Room) = true
  cl_Room : Cls K a.C_Room
  m_Room : mg "Room" = some (.ref a.C_Room)
  mk_Room : Mk K a.C_Room a.f_Room_init
  isC_Room : C8.InsC K a.C_Room
  no_Room_rules : NoAttr K a.C_Room "rules"
  no_Room_names : NoAttr K a.C_Room "names"
  m_InvalidDrawing : mg "InvalidDrawing" = some (.ref a.C_InvalidDrawing)
  oe_InvalidDrawing : OexC K a.C_InvalidDrawing
  ei_InvalidDrawing : PySem.W.findIn K (.ref a.C_InvalidDrawing) "__init__" = some (some (.ref a.f_InvalidDrawing_init))
  et_InvalidDrawing : PySem.W.typeIn K (.ref a.f_InvalidDrawing_init) = some (.type "function")
  en_InvalidDrawing : PySem.W.findIn K (.ref a.C_InvalidDrawing) "at" = some none
  xf_InvalidDrawing : XfC K a.C_InvalidDrawing
  xc_InvalidDrawing : ExcC K a.C_InvalidDrawing
  em_InvalidDrawing : PySem.W.exmOne K (.ref a.C_InvalidDrawing) (.ref a.C_InvalidDrawing) = some true
  m_InvalidRule : mg "InvalidRule" = some (.ref a.C_InvalidRule)
  oe_InvalidRule : OexC K a.C_InvalidRule
  ei_InvalidRule : PySem.W.findIn K (.ref a.C_InvalidRule) "__init__" = some (some (.ref a.f_InvalidRule_init))
  et_InvalidRule : PySem.W.typeIn K (.ref a.f_InvalidRule_init) = some (.type "function")
  en_InvalidRule : PySem.W.findIn K (.ref a.C_InvalidRule) "word" = some none
  xf_InvalidRule : XfC K a.C_InvalidRule
  xc_InvalidRule : ExcC K a.C_InvalidRule
  em_InvalidRule : PySem.W.exmOne K (.ref a.C_InvalidRule) (.ref a.C_InvalidRule) = some true
  m_InvalidOrder : mg "InvalidOrder" = some (.ref a.C_InvalidOrder)
  m_LeaveError : mg "LeaveError" = some (.ref a.C_LeaveError)
  kl_InvalidDrawing_InvalidOrder : PySem.W.kitOne K (.ref a.C_InvalidDrawing) (.ref a.C_InvalidOrder) = some false
  kl_InvalidDrawing_LeaveError : PySem.W.kitOne K (.ref a.C_InvalidDrawing) (.ref a.C_LeaveError) = some true
  kt_Room : ∀ n ∈ ["NoneType", "bool", "int", "str", "list", "tuple"], PySem.W.kitOne K (.type n) (.ref a.C_Room) = some false
  ko_Rule_Room : PySem.W.kitOne K (.ref a.C_Rule) (.ref a.C_Room) = some false
  ko_Room_Room : PySem.W.kitOne K (.ref a.C_Room) (.ref a.C_Room) = some true
  kt_Rule : ∀ n ∈ ["NoneType", "bool", "int", "str", "list", "tuple"], PySem.W.kitOne K (.type n) (.ref a.C_Rule) = some false
  ko_Rule_Rule : PySem.W.kitOne K (.ref a.C_Rule) (.ref a.C_Rule) = some true
  ko_Room_Rule : PySem.W.kitOne K (.ref a.C_Room) (.ref a.C_Rule) = some false
  ks_Rule : PySem.W.kitAny K (.ref a.C_Rule) [.type "list", .type "tuple"] = some false
  ks_Room : PySem.W.kitAny K (.ref a.C_Room) [.type "list", .type "tuple"] = some false
  ku_Rule_tuple : PySem.W.kitOne K (.ref a.C_Rule) (.type "tuple") = some false
  ku_Room_tuple : PySem.W.kitOne K (.ref a.C_Room) (.type "tuple") = some false
  F_is_int : Fun K "is_int" "is_int" s_is_int a.f_is_int a.fd_is_int
  b_is_int : Binds K a.fd_is_int ["value"] []
  m_is_int : mg "is_int" = some (.ref a.f_is_int)
  F_is_index : Fun K "is_index" "is_index" s_is_index a.f_is_index a.fd_is_index
  b_is_index : Binds K a.fd_is_index ["value", "many"] []
  m_is_index : mg "is_index" = some (.ref a.f_is_index)
  F_is_name : Fun K "is_name" "is_name" s_is_name a.f_is_name a.fd_is_name
  b_is_name : Binds K a.fd_is_name ["value"] []
  m_is_name : mg "is_name" = some (.ref a.f_is_name)
  F_is_sequence : Fun K "is_sequence" "is_sequence" s_is_sequence a.f_is_sequence a.fd_is_sequence
  b_is_sequence : Binds K a.fd_is_sequence ["value"] []
  m_is_sequence : mg "is_sequence" = some (.ref a.f_is_sequence)
  F_are_names : Fun K "are_names" "are_names" s_are_names a.f_are_names a.fd_are_names
  b_are_names : Binds K a.fd_are_names ["value"] []
  m_are_names : mg "are_names" = some (.ref a.f_are_names)
  F_are_unlike : Fun K "are_unlike" "are_unlike" s_are_unlike a.f_are_unlike a.fd_are_unlike
  b_are_unlike : Binds K a.fd_are_unlike ["value"] []
  m_are_unlike : mg "are_unlike" = some (.ref a.f_are_unlike)
  F_lot_of : Fun K "lot_of" "lot_of" s_lot_of a.f_lot_of a.fd_lot_of
  b_lot_of : Binds K a.fd_lot_of ["names"] []
  m_lot_of : mg "lot_of" = some (.ref a.f_lot_of)
  F_bits_of : Fun K "bits_of" "bits_of" s_bits_of a.f_bits_of a.fd_bits_of
  b_bits_of : Binds K a.fd_bits_of ["names", "some"] []
  m_bits_of : mg "bits_of" = some (.ref a.f_bits_of)
  F_names_of : Fun K "names_of" "names_of" s_names_of a.f_names_of a.fd_names_of
  b_names_of : Binds K a.fd_names_of ["names", "bits"] []
  m_names_of : mg "names_of" = some (.ref a.f_names_of)
  F_InvalidRule_init : Fun K "__init__" "InvalidRule.__init__" s_InvalidRule_init a.f_InvalidRule_init a.fd_InvalidRule_init
  b_InvalidRule_init : Binds K a.fd_InvalidRule_init ["self", "word"] []
  F_InvalidDrawing_init : Fun K "__init__" "InvalidDrawing.__init__" s_InvalidDrawing_init a.f_InvalidDrawing_init a.fd_InvalidDrawing_init
  b_InvalidDrawing_init : Binds K a.fd_InvalidDrawing_init ["self", "at"] []
  F_Rule_init : FunD K "__init__" "Rule.__init__" (defArgs s_Rule_init) (defBody s_Rule_init) (defScope s_Rule_init) [V.ref a.e_Rule_init] [] a.f_Rule_init a.fd_Rule_init
  b_Rule_init : Binds K a.fd_Rule_init ["self", "name", "gone"] []
  b1_Rule_init : ∃ ds, Vals [V.ref a.e_Rule_init] ds ∧ Binds K a.fd_Rule_init ["self", "name", "gone"] ds
  t_Rule_init : ∀ M : Hp, SqT K M a.e_Rule_init []
  F_Rule_eq : Fun K "__eq__" "Rule.__eq__" s_Rule_eq a.f_Rule_eq a.fd_Rule_eq
  b_Rule_eq : Binds K a.fd_Rule_eq ["self", "other"] []
  mt_Rule_eq : Meth K a.C_Rule "__eq__" a.f_Rule_eq
  F_Rule_str : Fun K "__str__" "Rule.__str__" s_Rule_str a.f_Rule_str a.fd_Rule_str
  b_Rule_str : Binds K a.fd_Rule_str ["self"] []
  mt_Rule_str : Meth K a.C_Rule "__str__" a.f_Rule_str
  F_read_rule : Fun K "read_rule" "read_rule" s_read_rule a.f_read_rule a.fd_read_rule
  b_read_rule : Binds K a.fd_read_rule ["line"] []
  m_read_rule : mg "read_rule" = some (.ref a.f_read_rule)
  F_Room_init : FunD K "__init__" "Room.__init__" (defArgs s_Room_init) (defBody s_Room_init) (defScope s_Room_init) [V.ref a.e_Room_init] [] a.f_Room_init a.fd_Room_init
  b_Room_init : Binds K a.fd_Room_init ["self", "rules"] []
  b1_Room_init : ∃ ds, Vals [V.ref a.e_Room_init] ds ∧ Binds K a.fd_Room_init ["self", "rules"] ds
  t_Room_init : ∀ M : Hp, SqT K M a.e_Room_init []
  F_Room_read : Fun K "read" "Room.read" s_Room_read a.f_Room_read a.fd_Room_read
  b_Room_read : Binds K a.fd_Room_read ["cls", "text"] []
  cm_Room_read : ClX.CMet K a.C_Room (.type "type") "read" a.p_Room_read a.f_Room_read
  cr_Room : ClX.CRead K a.C_Room (.type "type")
  F_Room_without : Fun K "without" "Room.without" s_Room_without a.f_Room_without a.fd_Room_without
  b_Room_without : Binds K a.fd_Room_without ["self", "at"] []
  mt_Room_without : Meth K a.C_Room "without" a.f_Room_without
  F_Room_len : Fun K "__len__" "Room.__len__" s_Room_len a.f_Room_len a.fd_Room_len
  b_Room_len : Binds K a.fd_Room_len ["self"] []
  mt_Room_len : Meth K a.C_Room "__len__" a.f_Room_len
  F_Room_getitem : Fun K "__getitem__" "Room.__getitem__" s_Room_getitem a.f_Room_getitem a.fd_Room_getitem
  b_Room_getitem : Binds K a.fd_Room_getitem ["self", "at"] []
  mt_Room_getitem : Meth K a.C_Room "__getitem__" a.f_Room_getitem
  F_Room_add : Fun K "__add__" "Room.__add__" s_Room_add a.f_Room_add a.fd_Room_add
  b_Room_add : Binds K a.fd_Room_add ["self", "other"] []
  mt_Room_add : Meth K a.C_Room "__add__" a.f_Room_add
  F_Room_eq : Fun K "__eq__" "Room.__eq__" s_Room_eq a.f_Room_eq a.fd_Room_eq
  b_Room_eq : Binds K a.fd_Room_eq ["self", "other"] []
  mt_Room_eq : Meth K a.C_Room "__eq__" a.f_Room_eq
  F_Room_str : Fun K "__str__" "Room.__str__" s_Room_str a.f_Room_str a.fd_Room_str
  b_Room_str : Binds K a.fd_Room_str ["self"] []
  mt_Room_str : Meth K a.C_Room "__str__" a.f_Room_str
  F_least_meeting : Fun K "least_meeting" "least_meeting" s_least_meeting a.f_least_meeting a.fd_least_meeting
  b_least_meeting : Binds K a.fd_least_meeting ["parts"] []
  m_least_meeting : mg "least_meeting" = some (.ref a.f_least_meeting)
  F_ones_of : Fun K "ones_of" "ones_of" s_ones_of a.f_ones_of a.fd_ones_of
  b_ones_of : Binds K a.fd_ones_of ["bits"] []
  m_ones_of : mg "ones_of" = some (.ref a.f_ones_of)
  F_has_one_of : Fun K "has_one_of" "has_one_of" s_has_one_of a.f_has_one_of a.fd_has_one_of
  b_has_one_of : Binds K a.fd_has_one_of ["bits", "lots"] []
  m_has_one_of : mg "has_one_of" = some (.ref a.f_has_one_of)
  F_tree : Fun K "tree" "tree" s_tree a.f_tree a.fd_tree
  b_tree : Binds K a.fd_tree ["edges"] []
  m_tree : mg "tree" = some (.ref a.f_tree)
  F_taken_down : Fun K "taken_down" "taken_down" s_taken_down a.f_taken_down a.fd_taken_down
  b_taken_down : Binds K a.fd_taken_down ["edges"] []
  m_taken_down : mg "taken_down" = some (.ref a.f_taken_down)
  F_check_edges : Fun K "check_edges" "check_edges" s_check_edges a.f_check_edges a.fd_check_edges
  b_check_edges : Binds K a.fd_check_edges ["edges"] []
  m_check_edges : mg "check_edges" = some (.ref a.f_check_edges)
  F_is_tuple_of : Fun K "is_tuple_of" "is_tuple_of" s_is_tuple_of a.f_is_tuple_of a.fd_is_tuple_of
  b_is_tuple_of : Binds K a.fd_is_tuple_of ["value", "many"] []
  m_is_tuple_of : mg "is_tuple_of" = some (.ref a.f_is_tuple_of)
  F_ring_at : Fun K "ring_at" "ring_at" s_ring_at a.f_ring_at a.fd_ring_at
  b_ring_at : Binds K a.fd_ring_at ["edges"] []
  m_ring_at : mg "ring_at" = some (.ref a.f_ring_at)
  F_are_joined : Fun K "are_joined" "are_joined" s_are_joined a.f_are_joined a.fd_are_joined
  b_are_joined : Binds K a.fd_are_joined ["edges", "one", "other"] []
  m_are_joined : mg "are_joined" = some (.ref a.f_are_joined)
  F_unjoined_beside : Fun K "unjoined_beside" "unjoined_beside" s_unjoined_beside a.f_unjoined_beside a.fd_unjoined_beside
  b_unjoined_beside : Binds K a.fd_unjoined_beside ["edges", "names", "corner"] []
  m_unjoined_beside : mg "unjoined_beside" = some (.ref a.f_unjoined_beside)
  F_room_kept_by : Fun K "room_kept_by" "room_kept_by" s_room_kept_by a.f_room_kept_by a.fd_room_kept_by
  b_room_kept_by : Binds K a.fd_room_kept_by ["parts"] []
  m_room_kept_by : mg "room_kept_by" = some (.ref a.f_room_kept_by)
  F_peeled : Fun K "peeled" "peeled" s_peeled a.f_peeled a.fd_peeled
  b_peeled : Binds K a.fd_peeled ["points"] []
  m_peeled : mg "peeled" = some (.ref a.f_peeled)
  F_check_points : Fun K "check_points" "check_points" s_check_points a.f_check_points a.fd_check_points
  b_check_points : Binds K a.fd_check_points ["points"] []
  m_check_points : mg "check_points" = some (.ref a.f_check_points)
  F_is_point : Fun K "is_point" "is_point" s_is_point a.f_is_point a.fd_is_point
  b_is_point : Binds K a.fd_is_point ["value"] []
  m_is_point : mg "is_point" = some (.ref a.f_is_point)
  F_around : Fun K "around" "around" s_around a.f_around a.fd_around
  b_around : Binds K a.fd_around ["points", "point"] []
  m_around : mg "around" = some (.ref a.f_around)
  F_is_between : Fun K "is_between" "is_between" s_is_between a.f_is_between a.fd_is_between
  b_is_between : Binds K a.fd_is_between ["point", "first", "second"] []
  m_is_between : mg "is_between" = some (.ref a.f_is_between)
  F_is_inside : Fun K "is_inside" "is_inside" s_is_inside a.f_is_inside a.fd_is_inside
  b_is_inside : Binds K a.fd_is_inside ["point", "first", "second", "third"] []
  m_is_inside : mg "is_inside" = some (.ref a.f_is_inside)
  F_turn : Fun K "turn" "turn" s_turn a.f_turn a.fd_turn
  b_turn : Binds K a.fd_turn ["point", "first", "second"] []
  m_turn : mg "turn" = some (.ref a.f_turn)
  F_opened : Fun K "opened" "opened" s_opened a.f_opened a.fd_opened
  b_opened : Binds K a.fd_opened ["point", "first", "second"] []
  m_opened : mg "opened" = some (.ref a.f_opened)
  F_lw_graph : Fun K "_law_graph" "_law_graph" s_lw_graph a.f_lw_graph a.fd_lw_graph
  b_lw_graph : Binds K a.fd_lw_graph ["_law_deal_here", "_law_names_here", "_law_most"] []
  m_lw_graph : mg "_law_graph" = some (.ref a.f_lw_graph)
  F_lw_forest : Fun K "_law_forest" "_law_forest" s_lw_forest a.f_lw_forest a.fd_lw_forest
  b_lw_forest : Binds K a.fd_lw_forest ["_law_deal_here", "_law_names_here"] []
  m_lw_forest : mg "_law_forest" = some (.ref a.f_lw_forest)
  F_lw_points : Fun K "_law_points" "_law_points" s_lw_points a.f_lw_points a.fd_lw_points
  b_lw_points : Binds K a.fd_lw_points ["_law_deal_here", "_law_bound", "_law_wide"] []
  m_lw_points : mg "_law_points" = some (.ref a.f_lw_points)
  F_lw_refused : Fun K "_law_refused" "_law_refused" s_lw_refused a.f_lw_refused a.fd_lw_refused
  b_lw_refused : Binds K a.fd_lw_refused ["_law_form", "_law_value"] []
  m_lw_refused : mg "_law_refused" = some (.ref a.f_lw_refused)
  F_lw_closing : Fun K "_law_closing" "_law_closing" s_lw_closing a.f_lw_closing a.fd_lw_closing
  b_lw_closing : Binds K a.fd_lw_closing ["_law_edges"] []
  m_lw_closing : mg "_law_closing" = some (.ref a.f_lw_closing)
  F_lw_odd : Fun K "_law_odd" "_law_odd" s_lw_odd a.f_lw_odd a.fd_lw_odd
  b_lw_odd : Binds K a.fd_lw_odd ["_law_deal_here", "_law_form"] []
  m_lw_odd : mg "_law_odd" = some (.ref a.f_lw_odd)
  F_lw_deal : Fun K "_law_deal" "_law_deal" s_lw_deal a.f_lw_deal a.fd_lw_deal
  b_lw_deal : Binds K a.fd_lw_deal ["_law_script", "_law_base"] []
  m_lw_deal : mg "_law_deal" = some (.ref a.f_lw_deal)
  F_lw_draw : Fun K "_law_draw" "_law_draw" s_lw_draw a.f_lw_draw a.fd_lw_draw
  b_lw_draw : Binds K a.fd_lw_draw ["_law_deal_here", "_law_bound"] []
  m_lw_draw : mg "_law_draw" = some (.ref a.f_lw_draw)
  F_lw_pick : Fun K "_law_pick" "_law_pick" s_lw_pick a.f_lw_pick a.fd_lw_pick
  b_lw_pick : Binds K a.fd_lw_pick ["_law_deal_here", "_law_some"] []
  m_lw_pick : mg "_law_pick" = some (.ref a.f_lw_pick)
  F_lw_mixed : Fun K "_law_mixed" "_law_mixed" s_lw_mixed a.f_lw_mixed a.fd_lw_mixed
  b_lw_mixed : Binds K a.fd_lw_mixed ["_law_deal_here", "_law_some"] []
  m_lw_mixed : mg "_law_mixed" = some (.ref a.f_lw_mixed)
  F_lw_names : Fun K "_law_names" "_law_names" s_lw_names a.f_lw_names a.fd_lw_names
  b_lw_names : Binds K a.fd_lw_names ["_law_deal_here", "_law_bound"] []
  m_lw_names : mg "_law_names" = some (.ref a.f_lw_names)
  F_lw_main : Fun K "law" "law" s_lw_main a.f_lw_main a.fd_lw_main
  b_lw_main : Binds K a.fd_lw_main ["_law_script"] []
  m_lw_main : mg "law" = some (.ref a.f_lw_main)
  n_abs : mg "abs" = none
  n_all : mg "all" = none
  n_any : mg "any" = none
  n_bool : mg "bool" = none
  n_enumerate : mg "enumerate" = none
  n_int : mg "int" = none
  n_isinstance : mg "isinstance" = none
  n_len : mg "len" = none
  n_list : mg "list" = none
  n_max : mg "max" = none
  n_min : mg "min" = none
  n_range : mg "range" = none
  n_repr : mg "repr" = none
  n_set : mg "set" = none
  n_sorted : mg "sorted" = none
  n_str : mg "str" = none
  n_sum : mg "sum" = none
  n_tuple : mg "tuple" = none
  m_LETTERS : ∃ u, mg "LETTERS" = some u ∧ RelV (.str "abcdefghijklmnopqrstuvwxyz") u
abbrev ZZ (K : PySem.W.Frag) (a : Ads) : Wd := { K := K, cl := fun c => if c = 0 then ⟨a.C_Rule, ["name", "gone"]⟩ else if c = 1 then ⟨a.C_Room, ["rules", "names"]⟩ else ⟨0, []⟩, er := fun c => if c = 6 then (a.C_InvalidDrawing, "at") else if c = 0 then (a.C_InvalidRule, "word") else (0, "") }
theorem ok_InvalidDrawing_init {P : Program} {w : World} {K : PySem.W.Frag} {mg : Str → Option Value} {base : Heap} {a : Ads} (T : Txt K mg a) : FnOk P w K mg base CX0 1 a.f_InvalidDrawing_init a.fd_InvalidDrawing_init ["self", "at"] (GX.spErr K "at") := by
  refine T.F_InvalidDrawing_init.ok sc_InvalidDrawing_init (fun vs H Q E h => ?_) (fun cdv A outer s H vs Q E hr h => ?_)
  · obtain ⟨x, C, v, rfl, _⟩ := h; rfl
  · obtain ⟨x, C, v, rfl, o, n, e, k⟩ := h
    exact ⟨_, pss_one (ps_ost (pv 0) (pv 1)), _, rfl, _, rfl, x, C, rfl, o, n, .inl ⟨e, k⟩⟩
theorem ok_InvalidRule_init {P : Program} {w : World} {K : PySem.W.Frag} {mg : Str → Option Value} {base : Heap} {a : Ads} (T : Txt K mg a) : FnOk P w K mg base CX0 1 a.f_InvalidRule_init a.fd_InvalidRule_init ["self", "word"] (GX.spErr K "word") := by
  refine T.F_InvalidRule_init.ok sc_InvalidRule_init (fun vs H Q E h => ?_) (fun cdv A outer s H vs Q E hr h => ?_)
  · obtain ⟨x, C, v, rfl, _⟩ := h; rfl
  · obtain ⟨x, C, v, rfl, o, n, e, k⟩ := h
    exact ⟨_, pss_one (ps_ost (pv 0) (pv 1)), _, rfl, _, rfl, x, C, rfl, o, n, .inl ⟨e, k⟩⟩
/-! ### numbers -/
theorem mulw {i j : Int} (h1 : -(2 ^ 90) ≤ i ∧ i ≤ 2 ^ 90) (h2 : -(2 ^ 90) ≤ j ∧ j ≤ 2 ^ 90) : CMulW i j := wide_mul (a := 91) (b := 91) (by omega) (by omega) (by decide) (by decide) (by decide)
theorem divw {i j : Int} (h : 0 < j) (h2 : j ≤ 2 ^ 60) : CDivW i j := wide_div (b := 61) h (by omega) (by decide) (by decide)
/-! ### steps -/
local macro_rules | `(tactic| walk_at "sc") => `(tactic| first
  | decide
  | omega
  | exact ⟨by decide, by decide, by decide⟩
  | exact mulw (by omega) (by omega)
  | exact divw (by omega) (by omega)
  | (simp only [List.length_cons, List.length_nil]; omega))
local macro_rules | `(tactic| walk_at "x1") => `(tactic| first
  | with_reducible refine xs_seq ?_
  | with_reducible refine on_d ?_
  | with_reducible refine if_tt ?_
  | with_reducible refine if_ff ?_
  | with_reducible refine if_nt ?_
  | with_reducible refine if_nf ?_
  | with_reducible refine xe_inT ?_
  | with_reducible refine xe_ninT ?_
  | with_reducible refine xe_repB ?_
  | with_reducible refine xe_isN ?_
  | with_reducible refine xe_notN ?_
  | with_reducible refine xe_isB ?_
  | with_reducible refine xe_notB ?_
  | with_reducible refine xe_orV ?_
  | with_reducible refine on_o ?_
  | with_reducible refine xs_next ?_
  | with_reducible refine xs_if ?_
  | with_reducible refine xs_drop ?_
  | ((fail_if_success (with_reducible refine blk_lst ?_)); (fail_if_success (with_reducible refine blk_lc ?_)); (with_reducible refine xs_set ?hb ?_); (case hb => decide))
  | ((with_reducible refine' xe_var ?hv ?_); (case hv => rfl))
  | with_reducible refine xe_int ?_
  | with_reducible refine xe_str ?_
  | with_reducible refine xe_bl ?_
  | with_reducible refine xe_non ?_
  | with_reducible refine xe_neg ?_
  | with_reducible refine xe_I0 ?_
  | with_reducible refine xe_B0 ?_
  | with_reducible refine xe_I ?_
  | with_reducible refine xe_callIntC ?_
  | with_reducible refine xe_callInt ?_
  | with_reducible refine xe_abs ?_
  | with_reducible refine xe_isi ?_
  | with_reducible refine xe_isiSeq ?_
  | with_reducible refine xe_isiC ?_
  | with_reducible refine xe_chain ?_
  | with_reducible refine xe_andV ?_
  | with_reducible refine xe_strS ?_
  | with_reducible refine xe_max2 ?_
  | with_reducible refine xe_min2 ?_
  | ((with_reducible refine xe_ixO ?_ ?hv); (case hv => exact ⟨_, rfl⟩))
  | ((with_reducible refine' xe_lenO ?hv ?_); (case hv => rfl))
  | with_reducible refine xe_len ?_
  | with_reducible refine xs_item0 ?_
  | with_reducible refine xt_test ?_
  | with_reducible refine xt_B ?_
  | with_reducible refine xt_not ?_
  | with_reducible refine xt_and ?_
  | with_reducible refine xt_or ?_
  | with_reducible refine xa_cons ?_
  | with_reducible refine xa_nil ?_
  | refine ⟨_, _, rfl, rfl, ?_⟩
  | refine ⟨_, _, _, rfl, rfl, rfl, ?_⟩
  | refine ⟨_, rfl, ?_⟩
  | dsimp only [List.set]
  | (refine And.intro ?sc ?_; (case sc => walk_at "sc")))
local macro_rules | `(tactic| walk_at "xs") => `(tactic| repeat (walk_at "x1"))
local macro_rules | `(tactic| walk_at "ent") => `(tactic| dsimp only [cxOf, Cx.nox, Cx.wish, List.map, List.replicate, List.cons_append, List.nil_append])
local macro_rules | `(tactic| walk_at "ret") => `(tactic| ((with_reducible refine xs_ret ?_); walk_at "xs"))
/-! ### deals -/
def nmQ (c t : Nat) : Str := (⟨#[97 + c]⟩ : Str) ++ Txt.mul "q" (t : Int)
/-- a letter and up to two q: all names that these laws draw -/
def pool : List Str := (List.range 3).flatMap fun t => (List.range 26).map fun c => nmQ c t
def DealD (y : Dl) : Prop := 0 ≤ y.n ∧ y.n < 2147483647 ∧ y.cs.length ≤ 63 ∧ ∀ c ∈ y.cs, 0 ≤ c
def F_draw : FD := fun y ds Φ => ∃ b : Int, ds = [.int b] ∧ 0 < b ∧ b < 2 ^ 30 ∧ DealD y ∧ ∀ d y', 0 ≤ d → d < b → DealD y' → Φ (.d (.int d)) y'
section
variable {P : Program} {w : World} {K : PySem.W.Frag} {mg : Str → Option Value} {base : Heap} {a : Ads}
theorem ok_draw (T : Txt K mg a) : FnOk P w K mg base CX0 1 a.f_lw_draw a.fd_lw_draw ["_law_deal_here", "_law_bound"] (spD (ZZ K a) F_draw) := by
  refine T.F_lw_draw.ok sc_lw_draw (fun vs H Q E h => ?_) (fun cdv A outer s H vs Q E hr h => ?_)
  · obtain ⟨M, p, q, y, ws, ds, Φ, rfl, _, _, al, ⟨b, rfl, _⟩, _⟩ := h
    simp [al.len]
  · obtain ⟨M, p, q, y, ws, ds, Φ, rfl, so, ex, al, ⟨b, rfl, b0, b1, hy, k⟩, fin⟩ := h
    refine ⟨_, (pss_cons (ps_while PassesOwn.never (PW.pt (pw_and (pt_cmpR (op_neD hr.units) (pe_ix (show IxR _ (rIx K) from ix_seq) (pv 0) pe_int (fun _ _ => rfl)) (pe_lst pa_nil) (nomark _)) (pw_and1 (pt_cmpR op_eq (pe_ix (show IxR _ (rIx K) from ix_seq) (pe_ix (show IxR _ (rIx K) from ix_seq) (pv 0) pe_int (fun _ _ => rfl)) (pe_un un_neg pe_int) (fun _ _ => rfl)) pe_int (nomark _))))) (pss_one (ps_expr (pe_bm0 PySem.F.plainAttrs_list PySem.F.slot_list_pop PySem.F.type_list_pop mt_pop (pe_ix (show IxR _ (rIx K) from ix_seq) (pv 0) pe_int (fun _ _ => rfl))))))
      (pss_cons (ps_if (pt_cmpR (op_neD hr.units) (pe_ix (show IxR _ (rIx K) from ix_seq) (pv 0) pe_int (fun _ _ => rfl)) (pe_lst pa_nil) (nomark _)) (pss_cons (ps_set (i := 2) sc_lw_draw.nd rfl (Or.inl rfl) (pe_bm0 PySem.F.plainAttrs_list PySem.F.slot_list_pop PySem.F.type_list_pop mt_pop (pe_ix (show IxR _ (rIx K) from ix_seq) (pv 0) pe_int (fun _ _ => rfl))))
      (pss_cons (ps_expr (pe_bm PySem.F.plainAttrs_list PySem.F.slot_list_append PySem.F.type_list_append mt_append (pe_ix (show IxR _ (rIx K) from ix_seq) (pv 0) pe_int (fun _ _ => rfl)) (pa_cons (pe_op op_fdivW (pv 2) (pv 1)) pa_nil)))
      (pss_one (ps_ret (pe_op op_mod (pe_callTy call_int1 (by rfl) T.n_int (by decide +kernel) (pa_cons (pv 2) pa_nil)) (pv 1)))))) pss_nil)
      (pss_cons (ps_asg (pe_op op_mod (pe_callTy call_int1 (by rfl) T.n_int (by decide +kernel) (pa_cons (pe_op op_add (pe_op op_mulW (pe_ix (show IxR _ (rIx K) from ix_seq) (pv 0) pe_int (fun _ _ => rfl)) pe_int) pe_int) pa_nil)) pe_int) (pg_sub (pv 0) pe_int set_list))
      (pss_one (ps_ret (pe_op op_mod (pe_callTy call_int1 (by rfl) T.n_int (by decide +kernel) (pa_cons (pe_op op_fdivW (pe_ix (show IxR _ (rIx K) from ix_seq) (pv 0) pe_int (fun _ _ => rfl)) pe_int) pa_nil)) (pv 1))))))), entD (n := 1) so ex al rfl fin ?_⟩
    walk_at "ent"
    refine xs_seq <| xs_while (fun m δ => ∃ cs, δ = [.deal q cs y.n, .d (.int b), .no] ∧ cs.length = m ∧ DealD ⟨cs, y.n⟩) ⟨_, y.cs, rfl, rfl, hy⟩ ?_
    rintro m δ1 ⟨cs, rfl, rfl, hc⟩
    obtain ⟨n0, n1, l, nn⟩ := hc
    have n0 : 0 ≤ y.n := n0
    have n1 : y.n < 2147483647 := n1
    have l : cs.length ≤ 63 := l
    have nn : ∀ c ∈ cs, 0 ≤ c := nn
    refine xt_and <| xt_test <| xe_dealNe (i := 0) rfl ⟨_, rfl, ?_⟩
    rcases List.eq_nil_or_concat cs with rfl | ⟨ks, c, hcc⟩
    · refine if_ff <| if_ff ?_
      refine xs_seq <| xs_if <| xt_test <| xe_dealNe (i := 0) rfl ⟨_, rfl, if_ff <| xs_next ?_⟩
      refine xs_seq <| xs_deal1 <| xe_I <| xe_callInt <| xe_I0 <| xe_I <| xe_dealN (i := 0) rfl <| xe_int ⟨_, _, rfl, rfl, mulw (by omega) (by omega), xe_int ⟨_, _, rfl, rfl, _, rfl, xe_int ⟨_, _, rfl, rfl, by omega, _, _, _, _, rfl, rfl, ?_⟩⟩⟩
      try dsimp only [List.set]
      refine xs_ret <| xe_I <| xe_callInt <| xe_I <| xe_dealN (i := 0) rfl <| xe_int ⟨_, _, rfl, rfl, divw (by omega) (by omega), _, rfl, xe_var rfl ⟨_, _, rfl, rfl, b0, ?_⟩⟩
      exact ⟨⟨[], _⟩, rfl, k _ _ (Int.emod_nonneg _ (by omega)) (Int.emod_lt_of_pos _ b0) ⟨Int.emod_nonneg _ (by omega), Int.emod_lt_of_pos _ (by omega), by simp, by simp⟩⟩
    · rw [List.concat_eq_append] at hcc
      subst hcc
      have e1 : (!(ks ++ [c]).isEmpty) = true := by simp
      have ix : atI (ks ++ [c]) (-1) = some c := by
        unfold atI ixN
        simp only [List.length_append, List.length_singleton, Int.reduceNeg, Int.natCast_add]
        rw [if_neg (by omega), if_pos (by omega), show (-1 + ((ks.length : Int) + ((1 : Nat) : Int))).toNat = ks.length by omega]
        simp
      rw [e1]
      refine if_tt <| xt_test <| xe_eq <| xe_dealIx (i := 0) rfl <| xe_neg <| xe_int ⟨_, rfl, rfl, _, c, rfl, ix, xe_int ⟨_, _, rfl, rfl, rfl, _, rfl, ?_⟩⟩
      refine ite_b (fun h => ?_) (fun h => ?_)
      · exact xs_drop <| xe_dealPop (i := 0) rfl ⟨ks.length, by simp, ks, rfl, rfl, n0, n1, by simp at l ⊢; omega, fun c hc => nn c (by simp [hc])⟩
      · refine xs_seq <| xs_if <| xt_test <| xe_dealNe (i := 0) rfl ⟨_, rfl, ?_⟩
        rw [e1]
        refine if_tt ?_
        have c0 : 0 ≤ c := nn c (by simp)
        refine xs_seq <| xs_set (by decide) <| xe_dealPop (i := 0) rfl ?_
        try dsimp only [List.set]
        refine xs_seq <| xs_drop <| xe_dealApp (i := 0) ⟨_, _, _, rfl⟩ <| xe_I <| xe_var rfl <| xe_var rfl ⟨_, _, rfl, rfl, divw b0 (by omega), _, _, _, _, rfl, rfl, rfl, by simp at l; omega, ?_⟩
        try dsimp only [List.set]
        refine xs_ret <| xe_I <| xe_callInt <| xe_var rfl ⟨_, rfl, xe_var rfl ⟨_, _, rfl, rfl, b0, ?_⟩⟩
        refine ⟨⟨ks ++ [_], _⟩, rfl, k _ _ (Int.emod_nonneg _ (by omega)) (Int.emod_lt_of_pos _ b0) ⟨n0, n1, by simp at l ⊢; omega, fun x hx => ?_⟩⟩
        rcases List.mem_append.mp hx with z | z
        · exact nn x (by simp [z])
        · rw [List.mem_singleton.mp z]
          exact Int.ediv_nonneg c0 (by omega)
def F_deal : FR := fun ds Φ => ∃ (ns : List Int) (b : Int), ds = [.scr ns, .int b] ∧ ns.length ≤ 63 ∧ 0 ≤ b ∧ b < 10 ∧ ∀ q (y : Dl), DealD y → Φ (.deal q y.cs y.n)
theorem cut_le {α : Type} {xs : List α} {lo hi : Option Int} : (cut xs lo hi).length ≤ xs.length := by
  unfold cut
  rw [List.length_take, List.length_drop]
  omega
theorem cut_map {α β : Type} (f : α → β) (xs : List α) (lo hi : Option Int) : cut (xs.map f) lo hi = (cut xs lo hi).map f := by
  unfold cut
  rw [List.length_map, List.map_take, List.map_drop]
theorem ok_deal (T : Txt K mg a) : FnOk P w K mg base CX0 1 a.f_lw_deal a.fd_lw_deal ["_law_script", "_law_base"] (spR (ZZ K a) F_deal) := by
  refine T.F_lw_deal.ok sc_lw_deal (fun vs H Q E h => ?_) (fun cdv A outer s H vs Q E hr h => ?_)
  · obtain ⟨M, ds, Φ, _, al, ⟨ns, b, rfl, _⟩, _⟩ := h
    exact al.len
  · obtain ⟨M, ds, Φ, ex, al, ⟨ns, b, rfl, l0, b0, b1, fin⟩, q⟩ := h
    refine ⟨_, (pss_cons (ps_setLc (own := [("_law_cell", 3)]) (g := (gName 3)) (tt := tYes) (i := 2) rfl sc_lw_deal.nd rfl rfl (sw_true rfl rfl rfl (by decide +kernel)) (pi_list (pe_slice (show SlR _ (rSlL K) from sl_list) (pv 0) (po_some (pv 1)) (po_some pe_int))) (blkOk_by (N := N_lw_deal) (sc := defScope s_lw_deal) (by decide +kernel)) (fun _ _ _ _ _ => (pg_name (i := 3) sc_lw_deal.nd rfl (Or.inl rfl))) (fun _ _ _ _ _ => pts_nil) (fun _ _ _ _ _ => (pe_callB (id := "abs") call_abs (by rfl) T.n_abs (by decide +kernel) (pa_cons (pv 3) pa_nil))))
      (pss_cons (ps_set (i := 4) sc_lw_deal.nd rfl (Or.inl rfl) (pe_op op_add pe_int (pe_op op_mulW pe_int (pv 1))))
      (pss_cons (ps_for PassesOwn.never rfl (pi_list (pv 2)) (pg_name (i := 3) sc_lw_deal.nd rfl (Or.inl rfl))
      (pss_one (ps_set (i := 4) sc_lw_deal.nd rfl (Or.inl rfl) (pe_op op_mod (pe_callTy call_int1 (by rfl) T.n_int (by decide +kernel) (pa_cons (pe_op op_add (pe_op op_add (pe_op op_mulW (pv 4) pe_int) (pe_op op_mod (pe_callTy call_int1 (by rfl) T.n_int (by decide +kernel) (pa_cons (pv 3) pa_nil)) pe_int)) pe_int) pa_nil)) pe_int))))
      (pss_one (ps_ret (pe_lst (pa_cons (pe_revL (pe_lc (own := [("_law_cell", 3)]) (g := (gName 3))  rfl sc_lw_deal.nd (pi_list (pv 2)) (blkOk_by (N := N_lw_deal) (sc := defScope s_lw_deal) (by decide +kernel)) (fun _ _ _ _ _ => (pg_name (i := 3) sc_lw_deal.nd rfl (Or.inl rfl))) (fun _ _ _ _ _ => pts_one (pt_cmpR op_ge (pv 3) (pe_op op_pow pe_int pe_int) (nomark _))) (fun _ _ _ _ _ => (pv 3)))) (pa_cons (pv 4) pa_nil)))))))), entR (n := 3) ex al rfl q ?_⟩
    walk_at "ent"
    refine xs_seq <| xs_set (by decide) <| xe_ofO <| xo_fg (v := 3) (g := D.int) (f := fun i : Int => D.int (if i < 0 then -i else i)) (p := fun _ => true) <| xi_list <| xe_ofO <| xo_slScr <| xe_var rfl <| xp_part <| xe_var rfl ⟨_, rfl, xp_part <| xe_int ⟨_, rfl, ns, rfl, _, rfl, _, .inl rfl, cut ns (some b) (some 57), cut_map _ _ _ _, rfl, Nat.le_trans cut_le (by omega), fun x hx => xt_yes ⟨rfl, rfl, fun _ => xe_abs <| xe_var rfl ⟨_, rfl, rfl, rfl⟩⟩, ?_⟩⟩
    rw [filter_tt, show (fun i : Int => D.int (if i < 0 then -i else i)) = D.int ∘ (fun i : Int => if i < 0 then -i else i) from rfl, ← List.map_map]
    have c63 : (cut ns (some b) (some 57)).length ≤ 63 := Nat.le_trans cut_le l0
    have cnn : ∀ c ∈ (cut ns (some b) (some 57)).map (fun i : Int => if i < 0 then -i else i), 0 ≤ c := fun c hc => by
      obtain ⟨i, _, rfl⟩ := List.mem_map.mp hc
      exact abs_nn i
    generalize hcs : (cut ns (some b) (some 57)).map (fun i : Int => if i < 0 then -i else i) = cs at cnn
    have cl : cs.length ≤ 63 := by rw [← hcs, List.length_map]; exact c63
    refine ⟨_, rfl, ?_⟩
    try dsimp only [List.set]
    refine xs_seq <| xs_set (by decide) <| xe_I0 <| xe_int <| xe_I <| xe_int <| xe_var rfl ⟨_, _, rfl, rfl, mulw (by omega) (by omega), _, _, rfl, rfl, ?_⟩
    try dsimp only [List.set]
    refine xs_seq <| xs_for (vs := [3]) <| xi_list <| xe_var rfl ⟨_, .inl rfl, ?_⟩
    refine ⟨fun i δ => ∃ (u : Int) (s3 : S), δ = [.d (.scr ns), .d (.int b), .d (.lst (cs.map .int)), s3, .d (.int u)] ∧ 0 ≤ u ∧ u < 2147483647, ⟨_, _, rfl, by omega, by omega⟩, ?_, ?_⟩
    · rintro i d δ1 hi ⟨u, s3, rfl, u0, u1⟩
      obtain ⟨v, hv, rfl⟩ : ∃ v, cs[i]? = some v ∧ D.int v = d := by simpa using hi
      refine xg_name (by decide) (by decide) ?_
      try dsimp only [List.set]
      refine xs_set (by decide) <| xe_I <| xe_callInt <| xe_I0 <| xe_I0 <| xe_I <| xe_var rfl <| xe_int ⟨_, _, rfl, rfl, mulw (by omega) (by omega), xe_I <| xe_callInt <| xe_var rfl ⟨_, rfl, xe_int ⟨_, _, rfl, rfl, by omega, _, _, rfl, rfl, xe_int ⟨_, _, rfl, rfl, _, rfl, xe_int ⟨_, _, rfl, rfl, by omega, _, _, rfl, Int.emod_nonneg _ (by omega), Int.emod_lt_of_pos _ (by omega)⟩⟩⟩⟩⟩
    · rintro δ1 ⟨u, s3, rfl, u0, u1⟩
      refine xs_forget (i := 3) (by decide) ?_
      try dsimp only [List.set]
      refine xs_retS <| xr_deal <| xo_revL <| xe_ofO <| xo_fg (v := 3) (g := D.int) (f := D.int) (p := fun i : Int => decide ((10 : Int) ^ Int.toNat 18 ≤ i)) <| xi_list <| xe_var rfl ⟨_, .inl rfl, cs, rfl, rfl, by omega, fun x hx => xt_test <| xe_B0 <| xe_var rfl ?_, ?_⟩
      · walk_at "xs"
        exact ⟨rfl, rfl, fun _ => xe_var rfl ⟨rfl, rfl⟩⟩
      · refine ⟨_, rfl, _, rfl, (cs.filter fun i : Int => decide ((10 : Int) ^ Int.toNat 18 ≤ i)).reverse, by rw [List.map_reverse], xe_var rfl ⟨u, rfl, fun q => fin q ⟨_, u⟩ ⟨u0, u1, ?_, fun c hc => ?_⟩⟩⟩
        · show (List.reverse _).length ≤ 63
          rw [List.length_reverse]
          exact Nat.le_trans (List.length_filter_le _ _) cl
        · exact cnn c (List.mem_filter.mp (List.mem_reverse.mp hc)).1
/-! ### things drawn -/
def Pl (x : D) : Prop := pla x = true ∧ Lay 4 x
theorem pl_lst {xs : List D} (h : ∀ x ∈ xs, Pl x) : plaL xs = true ∧ SeqAt.shaped (py (.lst xs)) = true := by
  refine ⟨?_, (lay_lst fun x hx => (h x hx).2).shaped (by decide)⟩
  induction xs with
  | nil => rfl
  | cons x xs ih =>
    show (pla x && plaL xs) = true
    rw [(h x (by simp)).1, ih fun y hy => h y (by simp [hy])]; rfl
theorem eqv_nil (xs : List D) : PyData.eqv (py (.lst xs)) (py (.lst [])) = xs.isEmpty := by
  cases xs with
  | nil => rfl
  | cons x xs => rfl
/-- xs != [] -/
theorem xe_neNil {i : Nat} {xs : List D} {δ : List S} {Φ : D → List S → Prop} (hv : δ[i]? = some (.own (.lst xs))) (h : ∀ x ∈ xs, Pl x) (k : Φ (.bl (!xs.isEmpty)) δ) : XE (ZZ K a) (tOp (rNeD (ZZ K a).K) (tVar i) (tLst tNil)) δ Φ := by
  refine xe_neO hv <| xe_ofO <| xo_lst <| xa_nil ⟨by simp, _, rfl, hv, (pl_lst h).1, rfl, (pl_lst h).2, (pl_lst (xs := []) (by simp)).2, ?_⟩
  rw [eqv_nil]; exact k
def F_mixed : FD := fun y ds Φ => ∃ (xs : List D) (d : D), ds = [d] ∧ (d = .lst xs ∨ d = .tup xs) ∧ xs.length ≤ 1000 ∧ (∀ x ∈ xs, Pl x) ∧ DealD y ∧ ∀ ys y', ys.Perm xs → DealD y' → Φ (.own (.lst ys)) y'
theorem ok_mixed (T : Txt K mg a) (G_lw_draw : FnOk P w K mg base CX0 1 a.f_lw_draw a.fd_lw_draw ["_law_deal_here", "_law_bound"] (spD (ZZ K a) F_draw)) : FnOk P w K mg base CX0 2 a.f_lw_mixed a.fd_lw_mixed ["_law_deal_here", "_law_some"] (spD (ZZ K a) F_mixed) := by
  refine T.F_lw_mixed.ok sc_lw_mixed (fun vs H Q E h => ?_) (fun cdv A outer s H vs Q E hr h => ?_)
  · obtain ⟨M, p, q, y, ws, ds, Φ, rfl, _, _, al, ⟨xs, d, rfl, _⟩, _⟩ := h
    simp [al.len]
  · obtain ⟨M, p, q, y, ws, ds, Φ, rfl, so, ex, al, ⟨xs, d, rfl, hd, l0, hpl, hy, k⟩, fin⟩ := h
    refine ⟨_, (pss_cons (ps_par (i := 2) (j := 3) (by rfl) sc_lw_mixed.nd rfl rfl (by decide) rfl rfl (pa_cons (pe_callTy call_list_of (by rfl) T.n_list (by decide +kernel) (pa_cons (pv 1) pa_nil)) (pa_cons (pe_lst pa_nil) pa_nil)) (by rfl))
      (pss_cons (ps_while PassesOwn.never (pt_cmpR (op_neD hr.units) (pv 2) (pe_lst pa_nil) (nomark _)) (pss_one (ps_expr (pe_bm PySem.F.plainAttrs_list PySem.F.slot_list_append PySem.F.type_list_append mt_append (pv 3) (pa_cons (pe_bm PySem.F.plainAttrs_list PySem.F.slot_list_pop PySem.F.type_list_pop mt_popAt (pv 2) (pa_cons (pe_call G_lw_draw (hr.mono (by decide)) (by rfl) T.m_lw_draw T.F_lw_draw.kp T.b_lw_draw .nil pass0 (pa_cons (pv 0) (pa_cons (pe_callB (show CallR _ (.builtin "len") (G.rLen K) from call_len) (by rfl) T.n_len PySem.boot_len (pa_cons (pv 2) pa_nil)) pa_nil))) pa_nil)) pa_nil)))))
      (pss_one (ps_ret (pv 3))))), entD (n := 2) so ex al rfl fin ?_⟩
    walk_at "ent"
    refine xs_seq <| xs_parOO (by decide) (by decide) (by decide) <| xo_list <| xe_var rfl ⟨_, hd, xo_lst <| xa_nil ⟨by simp, by simp, by simp, ?_⟩⟩
    try dsimp only [List.set]
    refine xs_seq <| xs_while (fun m δ => ∃ (y : Dl) (left found : List D), δ = [.deal q y.cs y.n, .d d, .own (.lst left), .own (.lst found)] ∧ left.length = m ∧ (found ++ left).Perm xs ∧ DealD y) ⟨_, y, xs, [], rfl, rfl, by simp, hy⟩ ?_
    rintro m δ1 ⟨y, left, found, rfl, rfl, hp, hy⟩
    have lp := hp.length_eq
    rw [List.length_append] at lp
    refine xt_test <| xe_neNil (i := 2) rfl (fun x hx => hpl x (hp.mem_iff.mp (List.mem_append_right _ hx))) ⟨_, rfl, ?_⟩
    by_cases ne : left = []
    · subst ne
      refine if_ff ?_
      rw [List.append_nil] at hp
      exact xs_retV (by decide) rfl ⟨y, rfl, k found y hp hy⟩
    · have e1 : (!left.isEmpty) = true := by simpa using ne
      rw [e1]
      have lpos : 0 < left.length := List.length_pos_iff.mpr ne
      refine if_tt <| xs_drop <| xe_app ⟨_, rfl⟩ <| xe_pop ⟨_, rfl⟩ <| xr_callD (i := 0) (fun _ => .nil) ⟨_, _, _, rfl⟩ <| xa_cons <| xe_lenO (i := 2) rfl <| xa_nil ⟨q, y, rfl, _, rfl, by omega, by omega, hy, fun dd y' d0 d1 hy' => on_d ?_⟩
      obtain ⟨kk, rfl⟩ : ∃ kk : Nat, dd = kk := ⟨dd.toNat, by omega⟩
      have hk : kk < left.length := by omega
      refine ⟨left, kk, left[kk], rfl, rfl, by omega, by simp [hk], found, rfl, by omega, left.length - 1, by omega, y', left.eraseIdx kk, found ++ [left[kk]], rfl, ?_, ?_, hy'⟩
      · rw [List.length_eraseIdx]
        simp [hk]
      · refine List.Perm.trans ?_ hp
        rw [List.append_assoc]
        exact List.Perm.append_left _ (perm_erase hk)
/-! ### the program: names -/
def letters : Str := "abcdefghijklmnopqrstuvwxyz"
def nmS (s : Str) : Bool := !decide (s = "if") && (decide ((1 : Int) ≤ s.length) && decide ((s.length : Int) ≤ 3)) && s.cps.toList.all fun c => decide (c ∈ letters.cps.toList)
def isNm : D → Bool | .str s => nmS s | _ => false
def ok1 (d : D) : Prop := (∃ t, tyD d = some t) ∧ ∀ s, d = .str s → s.length ≤ sizeLine
def okS (d : D) : Prop := ok1 d ∧ ∀ xs, (d = .lst xs ∨ d = .tup xs) → xs.length ≤ 3000 ∧ ∀ x ∈ xs, ok1 x
def seqOf : D → Option (List D) | .lst xs => some xs | .tup xs => some xs | _ => none
def areNm (d : D) : Bool := match seqOf d with | some xs => xs.all isNm | none => false
def F_is_name : FR := fun ds Φ => ∃ d, ds = [d] ∧ ok1 d ∧ Φ (.d (.bl (isNm d)))
def F_is_sequence : FR := fun ds Φ => ∃ d : D, ds = [d] ∧ (∃ t, tyD d = some t) ∧ Φ (.d (.bl (seqOf d).isSome))
def F_are_names : FR := fun ds Φ => ∃ d, ds = [d] ∧ okS d ∧ Φ (.d (.bl (areNm d)))
def F_lot_of : FR := fun ds Φ => ∃ ws : List Str, (ds = [.tup (ws.map .str)] ∨ ds = [.lst (ws.map .str)]) ∧ ws.length < 4000 ∧ ∀ ys, GS.IsLot ys ws → ys.length ≤ ws.length → Φ (.d (.tup (ys.map .str)))
theorem pool_ok : ∀ n ∈ pool, n.length ≤ sizeLine ∧ nmS n = true ∧ PyData.strOk n = true := by decide +kernel
theorem nms_of : ∀ {xs : List D}, xs.all isNm = true → ∃ ws : List Str, xs = ws.map .str ∧ ∀ w ∈ ws, nmS w = true
  | [], _ => ⟨[], rfl, by simp⟩
  | x :: xs, h => by
    simp only [List.all_cons, Bool.and_eq_true] at h
    obtain ⟨ws, rfl, hw⟩ := nms_of h.2
    cases x with
    | str s => exact ⟨s :: ws, rfl, fun w hw' => by
        rcases List.mem_cons.mp hw' with rfl | q
        · exact h.1
        · exact hw w q⟩
    | _ => cases h.1
theorem areNm_iff {d : D} : areNm d = true ↔ ∃ ws : List Str, (d = .lst (ws.map .str) ∨ d = .tup (ws.map .str)) ∧ ∀ w ∈ ws, nmS w = true := by
  constructor
  · intro h
    unfold areNm at h
    cases d with
    | lst xs => obtain ⟨ws, rfl, hw⟩ := nms_of h; exact ⟨ws, .inl rfl, hw⟩
    | tup xs => obtain ⟨ws, rfl, hw⟩ := nms_of h; exact ⟨ws, .inr rfl, hw⟩
    | _ => cases h
  · rintro ⟨ws, rfl | rfl, hw⟩ <;>
    · simp only [areNm, seqOf, List.all_map, List.all_eq_true]
      exact fun w q => hw w q
theorem ok_is_name (T : Txt K mg a) : FnOk P w K mg base CX0 1 a.f_is_name a.fd_is_name ["value"] (spR (ZZ K a) F_is_name) := by
  refine T.F_is_name.ok sc_is_name (fun vs H Q E h => ?_) (fun cdv A outer s H vs Q E hr h => ?_)
  · obtain ⟨M, ds, Φ, _, al, ⟨n, rfl, _⟩, _⟩ := h
    exact al.len
  · obtain ⟨M, ds, Φ, ex, al, ⟨d, rfl, ⟨⟨t, ht⟩, hs⟩, fin⟩, q⟩ := h
    refine ⟨_, (pss_cons (ps_if (PW.pt (pw_or (pt_not (pt_val (pe_callB call_isi (by rfl) T.n_isinstance (by decide +kernel) (pa_cons (pv 0) (pa_cons (pe_bltn (v := .ty "str") (u := .type "str") (by rfl) T.n_str (by decide +kernel) rfl) pa_nil))))) (pw_or1 (pt_cmpR op_eq (pv 0) pe_str (nomark _))))) (pss_one (ps_ret pe_bl)) pss_nil)
      (pss_one (ps_ret (pe_and (pe_chain op_le op_le pe_int (pe_callB (show CallR _ (.builtin "len") (G.rLen K) from call_len) (by rfl) T.n_len PySem.boot_len (pa_cons (pv 0) pa_nil)) pe_int) (pe_one (pe_callB (cr_all rfl) (by rfl) T.n_all (by decide +kernel) (pa_cons (pe_lc (own := [("letter", 1)]) (g := (gName 1)) (tt := tYes) rfl sc_is_name.nd (pi_str (pv 0)) (blkOk_by (N := N_is_name) (sc := defScope s_is_name) (by decide +kernel)) (fun _ _ _ _ _ => (pg_name (i := 1) sc_is_name.nd rfl (Or.inl rfl))) (fun _ _ _ _ _ => pts_nil) (fun _ _ _ _ _ => (pe_cmpR op_in_sign (pv 1) (pe_gc rfl T.m_LETTERS) rfl))) pa_nil))))))), entR (n := 1) ex al rfl q ?_⟩
    walk_at "ent"
    walk_at "xs"
    by_cases hd : ∃ n, d = .str n
    · obtain ⟨n, rfl⟩ := hd
      cases ht
      have p1 := hs n rfl
      refine ⟨_, true, rfl, rfl, ?_⟩
      walk_at "xs"
      refine xe_eq ?_
      walk_at "xs"
      refine ⟨rfl, _, rfl, ?_⟩
      refine ite_b (fun h => ?_) (fun h0 => ?_)
      · have h := V.str.inj (of_decide_eq_true h)
        subst h
        walk_at "xs"
        walk_at "ret"
        exact fin
      have h0 : decide (n = ("if" : Str)) = false := decide_eq_false fun e => of_decide_eq_false h0 (by rw [e])
      walk_at "xs"
      walk_at "ret"
      refine ⟨_, if_pos p1, ?_⟩
      refine ⟨_, _, rfl, rfl, ?_⟩
      refine ite_b (fun h1 => ?_) (fun h1 => ?_)
      · walk_at "xs"
        refine ite_b (fun h2 => ?_) (fun h2 => ?_)
        · refine xe_all (xe_ofO (xo_fg (g := fun c => D.str ⟨#[c]⟩) (f := fun c => D.bl (decide (c ∈ letters.cps.toList))) (p := fun _ => true) (xi_str ?_)))
          walk_at "xs"
          refine ⟨rfl, ?_, fun c hc => xt_yes ⟨rfl, rfl, fun _ => ?_⟩, _, rfl, n.cps.toList.map fun c => decide (c ∈ letters.cps.toList), by rw [filter_tt, List.map_map]; rfl, ?_⟩
          · have : n.cps.toList.length = n.length := by simp [Str.length]
            have := of_decide_eq_true h2
            omega
          · refine xe_inS ?_
            walk_at "xs"
            exact ⟨rfl, rfl⟩
          · have e : ((n.cps.toList.map fun c => decide (c ∈ letters.cps.toList)).all id) = isNm (.str n) := by
              simp only [isNm, nmS, h0, h1, h2, List.all_map]
              rfl
            rw [e]
            exact fin
        · have e : isNm (.str n) = false := by
            simp only [isNm, nmS, h0, h1, h2]
            rfl
          rw [e] at fin
          exact fin
      · have e : isNm (.str n) = false := by
          simp only [isNm, nmS, h0, h1]
          rfl
        rw [e] at fin
        exact ⟨_, rfl, fin⟩
    · have e : isNm d = false := by
        cases d with
        | str n => exact absurd ⟨n, rfl⟩ hd
        | _ => rfl
      have k : kitB t "str" = some false := by
        cases d with
        | str n => exact absurd ⟨n, rfl⟩ hd
        | obj => cases ht
        | scr => cases ht
        | exc => cases ht
        | dic => cases ht
        | tupF => cases ht
        | tupT => cases ht
        | dicF => cases ht
        | dicT => cases ht
        | ref => cases ht
        | _ => cases ht; rfl
      refine ⟨t, false, ht, k, ?_⟩
      walk_at "xs"
      walk_at "ret"
      rw [e] at fin
      exact fin
theorem ok_is_sequence (T : Txt K mg a) : FnOk P w K mg base CX0 1 a.f_is_sequence a.fd_is_sequence ["value"] (spR (ZZ K a) F_is_sequence) := by
  refine T.F_is_sequence.ok sc_is_sequence (fun vs H Q E h => ?_) (fun cdv A outer s H vs Q E hr h => ?_)
  · obtain ⟨M, ds, Φ, _, al, ⟨n, rfl, _⟩, _⟩ := h
    exact al.len
  · obtain ⟨M, ds, Φ, ex, al, ⟨d, rfl, ⟨t, ht⟩, fin⟩, q⟩ := h
    refine ⟨_, (pss_one (ps_ret (pe_callB call_isiT (by rfl) T.n_isinstance (by decide +kernel) (pa_cons (pv 0) (pa_cons (pe_tup (pa_cons (pe_bltn (v := .ty "list") (u := .type "list") (by rfl) T.n_list (by decide +kernel) rfl) (pa_cons (pe_bltn (v := .ty "tuple") (u := .type "tuple") (by rfl) T.n_tuple (by decide +kernel) rfl) pa_nil))) pa_nil))))), entR (n := 0) ex al rfl q ?_⟩
    walk_at "ent"
    walk_at "xs"
    walk_at "ret"
    refine ⟨_, ht, ?_⟩
    have e : (t == "list" || t == "tuple") = (seqOf d).isSome := by cases d <;> cases ht <;> rfl
    rw [e]
    exact fin
theorem ok_are_names (T : Txt K mg a) (G_is_name : FnOk P w K mg base CX0 1 a.f_is_name a.fd_is_name ["value"] (spR (ZZ K a) F_is_name)) (G_is_sequence : FnOk P w K mg base CX0 1 a.f_is_sequence a.fd_is_sequence ["value"] (spR (ZZ K a) F_is_sequence)) : FnOk P w K mg base CX0 2 a.f_are_names a.fd_are_names ["value"] (spR (ZZ K a) F_are_names) := by
  refine T.F_are_names.ok sc_are_names (fun vs H Q E h => ?_) (fun cdv A outer s H vs Q E hr h => ?_)
  · obtain ⟨M, ds, Φ, _, al, ⟨n, rfl, _⟩, _⟩ := h
    exact al.len
  · obtain ⟨M, ds, Φ, ex, al, ⟨d, rfl, ⟨hd, hs⟩, fin⟩, q⟩ := h
    refine ⟨_, (pss_one (ps_ret (pe_and (pe_call G_is_sequence (hr.mono (by decide)) (by rfl) T.m_is_sequence T.F_is_sequence.kp T.b_is_sequence .nil pass0 (pa_cons (pv 0) pa_nil)) (pe_one (pe_callB (cr_all rfl) (by rfl) T.n_all (by decide +kernel) (pa_cons (pe_lc (own := [("thing", 1)]) (g := (gName 1)) (tt := tYes) rfl sc_are_names.nd (G.pi_or (pi_list (pv 0)) (pi_tupK (K := K) rfl (pv 0))) (blkOk_by (N := N_are_names) (sc := defScope s_are_names) (by decide +kernel)) (fun _ _ _ _ _ => (pg_name (i := 1) sc_are_names.nd rfl (Or.inl rfl))) (fun _ _ _ _ _ => pts_nil) (fun _ _ _ _ _ => (pe_call G_is_name (hr.mono (by decide)) (by rfl) T.m_is_name T.F_is_name.kp T.b_is_name .nil pass0 (pa_cons (pv 1) pa_nil)))) pa_nil)))))), entR (n := 1) ex al rfl q ?_⟩
    walk_at "ent"
    walk_at "xs"
    walk_at "ret"
    refine xr_call (fun _ => .nil) ?_
    walk_at "xs"
    refine ⟨hd.1, on_d ⟨_, rfl, ?_⟩⟩
    by_cases hq : ∃ xs, d = .lst xs ∨ d = .tup xs
    · obtain ⟨xs, hx⟩ := hq
      have e1 : seqOf d = some xs := by rcases hx with rfl | rfl <;> rfl
      rw [e1, if_pos (by rfl)]
      obtain ⟨l, hx1⟩ := hs xs hx
      refine xe_all (xe_ofO (xo_fg (g := fun x : D => x) (f := fun x => D.bl (isNm x)) (p := fun _ => true) (xi_seqV rfl hx ?_)))
      refine ⟨xs, by simp, rfl, by omega, fun w hw' => xt_yes ⟨rfl, rfl, fun _ => ?_⟩, _, rfl, ?_⟩
      · refine xr_call (fun _ => .nil) ?_
        walk_at "xs"
        exact ⟨hx1 w hw', on_d ⟨rfl, rfl⟩⟩
      · refine ⟨xs.map isNm, by rw [filter_tt, List.map_map]; rfl, ?_⟩
        have e2 : (xs.map isNm).all id = areNm d := by
          unfold areNm
          rw [e1, List.all_map]
          rfl
        rw [e2]
        exact fin
    · have e1 : seqOf d = none := by
        cases d with
        | lst xs => exact absurd ⟨xs, .inl rfl⟩ hq
        | tup xs => exact absurd ⟨xs, .inr rfl⟩ hq
        | _ => rfl
      have e2 : areNm d = false := by unfold areNm; rw [e1]
      rw [e1, if_neg (by simp)]
      rw [e2] at fin
      exact fin
/-! ### lots as bare tuples -/
theorem wkR {k : Nat} {f : Addr} {fd : FuncData} {ps : List Str} {F F0 : FR} (h : FnOk P w K mg base CX0 k f fd ps (spR (ZZ K a) F)) (g : ∀ ds Φ, F0 ds Φ → F ds fun s => ∃ ys, s = .d (.tupF ys) ∧ Φ (.d (.tup ys))) : FnOk P w K mg base CX0 k f fd ps (spR (ZZ K a) F0) := by
  refine FnOk.imp h fun vs H Q E z => ?_
  obtain ⟨M, ds, Φ, ex, al, f0, q⟩ := z
  refine ⟨M, ds, _, ex, al, g ds Φ f0, fun M' H' v s hs a1 a2 a3 a4 r => ?_⟩
  obtain ⟨ys, rfl, hs⟩ := hs
  exact q M' H' v _ hs a1 a2 a3 a4 (At.wk r)
def F_lot_ofF : FR := fun ds Φ => ∃ ws : List Str, (ds = [.tup (ws.map .str)] ∨ ds = [.lst (ws.map .str)]) ∧ ws.length < 4000 ∧ ∀ ys, GS.IsLot ys ws → ys.length ≤ ws.length → Φ (.d (.tupF (ys.map .str)))
theorem ok_lot_ofF (T : Txt K mg a) : FnOk P w K mg base CX0 1 a.f_lot_of a.fd_lot_of ["names"] (spR (ZZ K a) F_lot_ofF) := by
  refine T.F_lot_of.ok sc_lot_of (fun vs H Q E h => ?_) (fun cdv A outer s H vs Q E hr h => ?_)
  · obtain ⟨M, ds, Φ, _, al, ⟨n, h, _⟩, _⟩ := h
    rcases h with rfl | rfl <;> exact al.len
  · obtain ⟨M, ds, Φ, ex, al, ⟨ws, hd, hl, fin⟩, q⟩ := h
    refine ⟨_, (pss_one (ps_ret (pe_callTy GX.call_tupleF (by rfl) T.n_tuple (by decide +kernel) (pa_cons (pe_callB (GS.cr_sortSet rfl) (by rfl) T.n_sorted (by decide +kernel) (pa_cons (pe_callTy (GS.cr_set rfl) (by rfl) T.n_set (by decide +kernel) (pa_cons (pv 0) pa_nil)) pa_nil)) pa_nil)))), entR (n := 0) ex al (by rcases hd with rfl | rfl <;> rfl) q ?_⟩
    refine xs_ret (xe_tupleF (xe_ofO (xo_lot rfl ?_)))
    rcases hd with rfl | rfl
    · exact xe_var rfl ⟨ws, .inr rfl, hl, fun ys hy hl => ⟨_, rfl, _, rfl, fin ys hy hl⟩⟩
    · exact xe_var rfl ⟨ws, .inl rfl, hl, fun ys hy hl => ⟨_, rfl, _, rfl, fin ys hy hl⟩⟩
theorem ok_lot_of (T : Txt K mg a) : FnOk P w K mg base CX0 1 a.f_lot_of a.fd_lot_of ["names"] (spR (ZZ K a) F_lot_of) := wkR (ok_lot_ofF T) fun ds Φ ⟨ws, h1, h2, h3⟩ => ⟨ws, h1, h2, fun ys hy hl => ⟨_, rfl, h3 ys hy hl⟩⟩
/-! ### rules, with what they refuse -/
def hasD (n g : D) : Bool := match n, seqOf g with | .str s, some xs => xs.any (fun x => match x with | .str t => decide (t = s) | _ => false) | _, _ => false
def badG (n g : D) : Bool := !areNm g || hasD n g
theorem hasD_strs {s : Str} {g : D} {ws : List Str} (h : g = .lst (ws.map .str) ∨ g = .tup (ws.map .str)) : hasD (.str s) g = decide (s ∈ ws) := by
  have e : seqOf g = some (ws.map .str) := by rcases h with rfl | rfl <;> rfl
  unfold hasD
  rw [e]
  show (ws.map D.str).any _ = _
  rw [List.any_map, Bool.eq_iff_iff, List.any_eq_true, decide_eq_true_eq]
  constructor
  · rintro ⟨x, hx, e⟩
    have : x = s := by simpa using e
    exact this ▸ hx
  · exact fun h => ⟨s, h, by simp⟩
def F_Rule_initX : FBX := fun y ds Φ Ξ => ∃ n g : D, y = .ins 0 [] ∧ ds = [n, g] ∧ ok1 n ∧ okS g ∧ (isNm n = false → Ξ 0 (.str "name") y) ∧ (isNm n = true → badG n g = true → Ξ 0 (.str "gone") y) ∧
  ∀ (s : Str) (ws : List Str), n = .str s → (g = .lst (ws.map .str) ∨ g = .tup (ws.map .str)) → isNm n = true → badG n g = false → ∀ lot, GS.IsLot lot ws → Φ (.d .non) (.ins 0 [("name", .str s), ("gone", .tup (lot.map .str))])
theorem ok_Rule_initX (T : Txt K mg a) (G_is_name : FnOk P w K mg base CX0 1 a.f_is_name a.fd_is_name ["value"] (spR (ZZ K a) F_is_name)) (G_are_names : FnOk P w K mg base CX0 2 a.f_are_names a.fd_are_names ["value"] (spR (ZZ K a) F_are_names)) (G_lot_of : FnOk P w K mg base CX0 1 a.f_lot_of a.fd_lot_of ["names"] (spR (ZZ K a) F_lot_of)) : FnOk P w K mg base (L2.CX P w) 3 a.f_Rule_init a.fd_Rule_init ["self", "name", "gone"] (spBX (ZZ K a) F_Rule_initX) := by
  refine T.F_Rule_init.ok sc_Rule_init (fun vs H Q E h => ?_) (fun cdv A outer s H vs Q E hr h => ?_)
  · obtain ⟨M, p, ws', ho, y, ds, Φ, Ξ, rfl, _, _, _, _, al, ⟨n, g, rfl, rfl, _⟩, _⟩ := h
    simp [al.len]
  · obtain ⟨M, p, ws', ho, y, ds, Φ, Ξ, rfl, hp, hm, hy, ex, al, ⟨n, g, rfl, rfl, hn, hg, r1, r2, fin⟩, q, qx⟩ := h
    refine ⟨_, (pss_cons (ps_if (pt_not (pt_val (pe_call G_is_name (hr.mono (by decide)) (by rfl) T.m_is_name T.F_is_name.kp T.b_is_name .nil pass0 (pa_cons (pv 1) pa_nil)))) (pss_one (GX.ps_raiseO rfl (takes_of rfl rfl rfl rfl) T.oe_InvalidRule T.ei_InvalidRule T.et_InvalidRule (ok_InvalidRule_init T) (hr.mono (by decide)) T.b_InvalidRule_init (by rfl) T.m_InvalidRule (pa_cons pe_str pa_nil))) pss_nil)
      (pss_cons (ps_if (PW.pt (pw_or (pt_not (pt_val (pe_call G_are_names (hr.mono (by decide)) (by rfl) T.m_are_names T.F_are_names.kp T.b_are_names .nil pass0 (pa_cons (pv 2) pa_nil)))) (pw_or1 (pt_cmpR (show OpR _ (compareOp .In) (rIn K false) from op_in_seq) (pv 1) (pv 2) rfl)))) (pss_one (GX.ps_raiseO rfl (takes_of rfl rfl rfl rfl) T.oe_InvalidRule T.ei_InvalidRule T.et_InvalidRule (ok_InvalidRule_init T) (hr.mono (by decide)) T.b_InvalidRule_init (by rfl) T.m_InvalidRule (pa_cons pe_str pa_nil))) pss_nil)
      (pss_cons (ps_fld (pv 0) (pv 1) rfl)
      (pss_one (ps_fld (pv 0) (pe_call G_lot_of (hr.mono (by decide)) (by rfl) T.m_lot_of T.F_lot_of.kp T.b_lot_of .nil pass0 (pa_cons (pv 2) pa_nil)) rfl))))), entBX (n := 0) hp hm hy ex al rfl q ?_⟩
    walk_at "ent"
    refine xs_seq <| xs_if <| xt_not <| xt_test <| xr_call (fun _ => .nil) <| xa_cons <| xe_var rfl <| xa_nil ⟨n, rfl, hn, on_d ⟨_, rfl, ite_b (fun c => ?_) (fun c => ?_)⟩⟩
    · have c : isNm n = false := by simpa using c
      exact xs_raise (c := 0) T.oe_InvalidRule T.en_InvalidRule <| xe_str <| xw_B qx rfl (r1 c)
    have c : isNm n = true := by simpa using c
    obtain ⟨s, rfl⟩ : ∃ s, n = .str s := by cases n with | str s => exact ⟨s, rfl⟩ | _ => cases c
    refine xs_next <| xs_seq <| xs_if <| xt_or <| xt_not <| xt_test <| xr_call (fun _ => .nil) <| xa_cons <| xe_var rfl <| xa_nil ⟨g, rfl, hg, on_d ⟨_, rfl, ite_b (fun h => ?_) (fun h => ?_)⟩⟩
    · have h : areNm g = false := by simpa using h
      exact if_tt (xs_raise (c := 0) T.oe_InvalidRule T.en_InvalidRule <| xe_str <| xw_B qx rfl (r2 c (by unfold badG; rw [h]; rfl)))
    have h : areNm g = true := by simpa using h
    obtain ⟨ws, hw, hnw⟩ := areNm_iff.mp h
    have e1 : seqOf g = some (ws.map .str) := by rcases hw with rfl | rfl <;> rfl
    have lw : ws.length ≤ 3000 := by
      have := (hg.2 (ws.map .str) hw).1
      simpa using this
    refine xt_test <| xe_inT <| xe_var rfl <| xe_var rfl ⟨s, ws, rfl, hw, _, rfl, ite_b (fun k => ?_) (fun k => ?_)⟩
    · exact xs_raise (c := 0) T.oe_InvalidRule T.en_InvalidRule <| xe_str <| xw_B qx rfl (r2 c (by unfold badG; rw [hasD_strs hw, k]; simp))
    refine xs_next <| xs_seq <| xs_fldO (c := 0) T.cl_Rule T.no_Rule_name <| xe_var rfl ⟨[], rfl, by decide, ?_⟩
    refine xs_fldO (c := 0) T.cl_Rule T.no_Rule_gone <| xr_call (fun _ => .nil) <| xa_cons <| xe_var rfl <| xa_nil ⟨ws, hw.symm.imp (fun e => by rw [e]; rfl) (fun e => by rw [e]; rfl), by omega, fun lot hlot _ => ?_⟩
    exact ⟨_, rfl, (show (0 : Nat) + 1 < 1000 by decide), _, rfl, fin s ws rfl hw c (by unfold badG; rw [hasD_strs hw, h, k]; rfl) lot hlot⟩
theorem ndR : ((ZZ K a).cl 0).fs.Nodup := (by decide : (["name", "gone"] : List Str).Nodup)
theorem clR (T : Txt K mg a) : ClOk (ZZ K a) 0 := ⟨T.cl_Rule, fun f hf => by
  rcases List.mem_cons.mp hf with rfl | hf
  · exact T.no_Rule_name
  · rw [List.mem_singleton.mp hf]; exact T.no_Rule_gone⟩
theorem xe_rname (T : Txt K mg a) {ta : TE} {δ : List S} {Φ : D → List S → Prop} (h : XE (ZZ K a) ta δ fun x δ1 => ∃ n g, x = .obj 0 [n, g] ∧ Φ n δ1) : XE (ZZ K a) (tFld K ta "name") δ Φ := xe_fld (XR.imp h fun s δ' k => by
  cases s with
  | d x => obtain ⟨n, g, rfl, f⟩ := k; exact ⟨0, _, 0, _, rfl, clR T, ndR (K := K), rfl, rfl, f⟩
  | no => exact k
  | own y => exact k
  | deal _ _ _ => exact k)
theorem xe_rgone (T : Txt K mg a) {ta : TE} {δ : List S} {Φ : D → List S → Prop} (h : XE (ZZ K a) ta δ fun x δ1 => ∃ n g, x = .obj 0 [n, g] ∧ Φ g δ1) : XE (ZZ K a) (tFld K ta "gone") δ Φ := xe_fld (XR.imp h fun s δ' k => by
  cases s with
  | d x => obtain ⟨n, g, rfl, f⟩ := k; exact ⟨0, _, 1, _, rfl, clR T, ndR (K := K), rfl, rfl, f⟩
  | no => exact k
  | own y => exact k
  | deal _ _ _ => exact k)
def ruleO (r : Str × List Str) : D := .obj 0 [.str r.1, .tup (r.2.map .str)]
/-! ### who may leave, who can leave -/
abbrev Rl := Str × List Str
def mayS (os : List Rl) (gs : List Str) : List Str := (os.filter fun r => !decide (r.1 ∈ gs) && r.2.all fun w => decide (w ∈ gs)).map (·.1)
theorem mem_may {os : List Rl} {gs : List Str} {x : Str} : x ∈ mayS os gs ↔ x ∉ gs ∧ ∃ ws, (x, ws) ∈ os ∧ ∀ w ∈ ws, w ∈ gs := by
  simp only [mayS, List.mem_map, List.mem_filter, Bool.and_eq_true, Bool.not_eq_true', decide_eq_false_iff_not, List.all_eq_true, decide_eq_true_eq]
  constructor
  · rintro ⟨⟨n, ws⟩, ⟨h1, h2, h3⟩, rfl⟩
    exact ⟨h2, ws, h1, h3⟩
  · rintro ⟨h1, ws, h2, h3⟩
    exact ⟨(x, ws), ⟨h2, h1, h3⟩, rfl⟩
inductive Run (os : List Rl) (st : List Str) : List Str → List Str → Prop
  | refl (g : List Str) : Run os st g g
  | step {g l : List Str} {x : Str} : Run os st g l → x ∈ mayS os l → x ∉ st → Run os st g (l ++ [x])
structure Leav (os : List Rl) (st g l : List Str) : Prop where
  run : Run os st g l
  stop : ∀ x ∈ mayS os l, x ∈ st
theorem Run.sub {os : List Rl} {st g l : List Str} (h : Run os st g l) : ∀ x ∈ g, x ∈ l := by
  induction h with
  | refl => exact fun x h => h
  | step _ _ _ ih => exact fun x h => List.mem_append_left _ (ih x h)
theorem Run.stays {os : List Rl} {st g l : List Str} (h : Run os st g l) : ∀ x ∈ l, x ∈ g ∨ x ∉ st := by
  induction h with
  | refl => exact fun x h => .inl h
  | step _ _ hs ih => exact fun x h => (List.mem_append.mp h).elim (ih x) fun q => .inr (by rw [List.mem_singleton.mp q]; exact hs)
theorem Run.nodup {os : List Rl} {st g l : List Str} (h : Run os st g l) (n : g.Nodup) : l.Nodup := by
  induction h with
  | refl => exact n
  | step _ hm _ ih =>
    refine List.nodup_append.mpr ⟨ih, by simp, fun x hx y hy e => ?_⟩
    rw [List.mem_singleton.mp hy] at e
    exact (mem_may.mp hm).1 (e ▸ hx)
theorem Run.mono {os : List Rl} {st st' g l : List Str} (h : Run os st g l) (k : ∀ x ∈ l, x ∈ g ∨ x ∉ st') : Run os st' g l := by
  induction h with
  | refl => exact .refl _
  | @step l x r hm hs ih =>
    refine .step (ih fun y hy => k y (List.mem_append_left _ hy)) hm ?_
    rcases k x (by simp) with q | q
    · exact absurd (r.sub x q) (mem_may.mp hm).1
    · exact q
theorem Run.trans {os : List Rl} {st g l m : List Str} (h : Run os st g l) (k : Run os st l m) : Run os st g m := by
  induction k with
  | refl => exact h
  | step _ hm hs ih => exact .step ih hm hs
/-- no one gets further than those who stop -/
theorem Leav.top {os : List Rl} {st st' g g' l m : List Str} (h : Leav os st g l) (r : Run os st' g' m) (hg : ∀ x ∈ g', x ∈ l) (hs : ∀ x ∈ st, x ∈ st') : ∀ x ∈ m, x ∈ l := by
  induction r with
  | refl => exact hg
  | step _ hm hn ih =>
    intro y hy
    rcases List.mem_append.mp hy with q | q
    · exact ih y q
    · rw [List.mem_singleton.mp q]
      rename_i x _
      by_cases c : x ∈ l
      · exact c
      · obtain ⟨_, ws, h1, h2⟩ := mem_may.mp hm
        exact absurd (hs x (h.stop x (mem_may.mpr ⟨c, ws, h1, fun w hw => ih w (h2 w hw)⟩))) hn
theorem Leav.same {os : List Rl} {st g l m : List Str} (h : Leav os st g l) (k : Leav os st g m) : ∀ x, x ∈ l ↔ x ∈ m := fun x =>
  ⟨k.top h.run (fun y hy => k.run.sub y hy) (fun _ q => q) x, h.top k.run (fun y hy => h.run.sub y hy) (fun _ q => q) x⟩
def wantAll (os : List Rl) : List Str := os.flatMap fun r => r.1 :: r.2
theorem mem_wantAll {os : List Rl} {x : Str} : x ∈ wantAll os ↔ ∃ r ∈ os, x = r.1 ∨ x ∈ r.2 := by
  simp [wantAll, List.mem_flatMap]
structure RoomOk (os : List Rl) (ns : List Str) : Prop where
  lot : GS.IsLot ns (wantAll os)
  l : os.length ≤ 200
  w : ∀ r ∈ os, r.2.length ≤ 14
  a : ∀ r ∈ os, GS.Asc r.2
def IsHull (os : List Rl) (ns st hs : List Str) : Prop := ∃ l, Leav os st [] l ∧ hs = ns.filter fun x => !decide (x ∈ l)
theorem IsHull.uniq {os : List Rl} {ns st hs hs' : List Str} (h : IsHull os ns st hs) (k : IsHull os ns st hs') : hs = hs' := by
  obtain ⟨l, h1, rfl⟩ := h
  obtain ⟨m, k1, rfl⟩ := k
  refine List.filter_congr fun x _ => ?_
  rw [decide_eq_decide.mpr (h1.same k1 x)]
theorem nodup_len : ∀ {l ss : List Str}, l.Nodup → (∀ x ∈ l, x ∈ ss) → l.length ≤ ss.length
  | [], _, _, _ => Nat.zero_le _
  | x :: l, ss, nd, h => by
    obtain ⟨n1, n2⟩ := List.nodup_cons.mp nd
    have hx := h x (by simp)
    have := nodup_len (l := l) (ss := ss.erase x) n2 fun y hy => (List.mem_erase_of_ne (fun e => n1 (by rw [← e]; exact hy))).mpr (h y (List.mem_cons_of_mem _ hy))
    rw [List.length_erase_of_mem hx] at this
    have := List.length_pos_of_mem hx
    simp only [List.length_cons]; omega
theorem wantAll_len {os : List Rl} (h : ∀ r ∈ os, r.2.length ≤ 14) : (wantAll os).length ≤ 15 * os.length := by
  unfold wantAll
  induction os with
  | nil => simp
  | cons r os ih =>
    have := ih fun q hq => h q (List.mem_cons_of_mem _ hq)
    have := h r (by simp)
    simp only [List.flatMap_cons, List.length_append, List.length_cons]
    omega
theorem RoomOk.len {os : List Rl} {ns : List Str} (h : RoomOk os ns) : ns.length ≤ 3000 := by
  have := nodup_len (GS.Asc.nodup h.lot.asc) fun x hx => (h.lot.mem x).mp hx
  have := wantAll_len h.w
  have := h.l
  omega
theorem RoomOk.name {os : List Rl} {ns : List Str} (h : RoomOk os ns) {x : Str} {ws : List Str} (hx : (x, ws) ∈ os) : x ∈ ns := (h.lot.mem x).mpr (mem_wantAll.mpr ⟨_, hx, .inl rfl⟩)
theorem RoomOk.want {os : List Rl} {ns : List Str} (h : RoomOk os ns) {x y : Str} {ws : List Str} (hx : (x, ws) ∈ os) (hy : y ∈ ws) : y ∈ ns := (h.lot.mem y).mpr (mem_wantAll.mpr ⟨_, hx, .inr hy⟩)
def roomD (os : List Rl) (ns : List Str) : D := .obj 1 [.tup (os.map ruleO), .tup (ns.map .str)]
/-! ### hulls -/
theorem IsHull.mem {os : List Rl} {ns st hs : List Str} (h : IsHull os ns st hs) : ∀ x ∈ hs, x ∈ ns := by
  obtain ⟨l, _, rfl⟩ := h
  exact fun x hx => (List.mem_filter.mp hx).1
theorem IsHull.asc {os : List Rl} {ns st hs : List Str} (ok : RoomOk os ns) (h : IsHull os ns st hs) : GS.Asc hs := by
  obtain ⟨l, _, rfl⟩ := h
  exact ok.lot.asc.filter _
theorem IsHull.has {os : List Rl} {ns st hs : List Str} (h : IsHull os ns st hs) {x : Str} (hx : x ∈ st) (hn : x ∈ ns) : x ∈ hs := by
  obtain ⟨l, h1, rfl⟩ := h
  refine List.mem_filter.mpr ⟨hn, ?_⟩
  simp only [Bool.not_eq_true', decide_eq_false_iff_not]
  exact fun q => (h1.run.stays x q).elim (by simp) fun k => k hx
/-- more who stay, more who are kept -/
theorem IsHull.grow {os : List Rl} {ns st st' hs hs' : List Str} (h : IsHull os ns st hs) (k : IsHull os ns st' hs') (s : ∀ x ∈ st, x ∈ st') : ∀ x ∈ hs, x ∈ hs' := by
  obtain ⟨l, h1, rfl⟩ := h
  obtain ⟨m, k1, rfl⟩ := k
  intro x hx
  obtain ⟨a, b⟩ := List.mem_filter.mp hx
  refine List.mem_filter.mpr ⟨a, ?_⟩
  simp only [Bool.not_eq_true', decide_eq_false_iff_not] at b ⊢
  exact fun q => b (h1.top k1.run (by simp) s x q)
/-- each rule for somebody stuck wants somebody stuck -/
theorem IsHull.keep {os : List Rl} {ns hs : List Str} (ok : RoomOk os ns) (h : IsHull os ns [] hs) : ∀ r ∈ os, r.1 ∈ hs → ∃ x ∈ r.2, x ∈ hs := by
  obtain ⟨l, h1, rfl⟩ := h
  rintro ⟨n, us⟩ hr hn
  have hn := (List.mem_filter.mp hn).2
  simp only [Bool.not_eq_true', decide_eq_false_iff_not] at hn
  refine Classical.byContradiction fun c => ?_
  have := h1.stop n (mem_may.mpr ⟨hn, us, hr, fun w hw => ?_⟩)
  · cases this
  · refine Classical.byContradiction fun d => c ⟨w, hw, List.mem_filter.mpr ⟨ok.want hr hw, by simpa using d⟩⟩
/-! ### orders -/
def Steps (rs : List Rl) (o : List Str) : Prop := ∀ (i : Nat) (x : Str), o[i]? = some x → x ∈ mayS rs (o.take i)
section
variable {rs os : List Rl} {ns o : List Str} {x : Str}
theorem Steps.nil : Steps rs [] := fun i x h => by simp at h
theorem Steps.snoc (h : Steps rs o) (hx : x ∈ mayS rs o) : Steps rs (o ++ [x]) := fun i y hy => by
  rcases Nat.lt_or_ge i o.length with q | q
  · rw [List.getElem?_append_left q] at hy
    rw [List.take_append_of_le_length (Nat.le_of_lt q)]
    exact h i y hy
  · rw [List.getElem?_append_right q] at hy
    have hi : i - o.length = 0 := by
      rcases Nat.eq_zero_or_pos (i - o.length) with z | z
      · exact z
      · rw [List.getElem?_eq_none (by simp; omega)] at hy; cases hy
    rw [hi] at hy
    cases hy
    have : i = o.length := by omega
    subst this
    simpa using hx
theorem Steps.take (h : Steps rs o) (k : Nat) : Steps rs (o.take k) := fun i y hy => by
  rw [List.getElem?_take] at hy
  split at hy
  · rename_i q
    rw [List.take_take, Nat.min_eq_left (Nat.le_of_lt q)]
    exact h i y hy
  · cases hy
theorem Steps.next (h : Steps rs (o.take k)) (hx : o[k]? = some x) (hm : x ∈ mayS rs (o.take k)) : Steps rs (o.take (k + 1)) := by
  rw [GS.take_get hx]; exact h.snoc hm
theorem Steps.nodup (h : Steps rs o) : o.Nodup := by
  rw [List.nodup_iff_pairwise_ne, List.pairwise_iff_getElem]
  intro i j hi hj hij e
  have := (mem_may.mp (h j _ (List.getElem?_eq_getElem hj))).1
  exact this (List.mem_of_getElem? (i := i) (by rw [List.getElem?_take, if_pos hij, List.getElem?_eq_getElem hi, e]))
theorem Steps.run (h : Steps rs o) : ∀ (k : Nat), Run rs [] [] (o.take k)
  | 0 => .refl _
  | k + 1 => by
    cases e : o[k]? with
    | none =>
      have hk := List.getElem?_eq_none_iff.mp e
      rw [List.take_of_length_le (by omega), ← List.take_of_length_le (i := k) hk]
      exact h.run k
    | some x =>
      rw [GS.take_get e]
      exact .step (h.run k) (h k x e) (by simp)
theorem Steps.mem (h : Steps rs o) (hx : x ∈ o) : ∃ ws, (x, ws) ∈ rs := by
  obtain ⟨i, hi⟩ := List.mem_iff_getElem?.mp hx
  obtain ⟨_, ws, q, _⟩ := mem_may.mp (h i x hi)
  exact ⟨ws, q⟩
end
/-! ### lots as numbers -/
def nbv : List Str → (Str → Bool) → Nat
  | [], _ => 0
  | x :: ns, p => (if p x = true then 1 else 0) + 2 * nbv ns p
def bitAt (ns : List Str) (p : Str → Bool) (i : Nat) : Bool := match ns[i]? with | some x => p x | none => false
theorem nbv_bit : ∀ {ns : List Str} {p : Str → Bool} {i : Nat}, (nbv ns p).testBit i = bitAt ns p i
  | [], p, i => by simp [nbv, bitAt]
  | x :: ns, p, 0 => by
    show ((if p x = true then 1 else 0) + 2 * nbv ns p).testBit 0 = p x
    rw [Nat.testBit_zero]
    cases h : p x
    · simp
    · have : (1 + 2 * nbv ns p) % 2 = 1 := by omega
      simp [this]
  | x :: ns, p, i + 1 => by
    show ((if p x = true then 1 else 0) + 2 * nbv ns p).testBit (i + 1) = bitAt ns p i
    rw [Nat.testBit_succ, show ((if p x = true then 1 else 0) + 2 * nbv ns p) / 2 = nbv ns p from by split <;> omega, nbv_bit]
theorem nbv_lt : ∀ {ns : List Str} {p : Str → Bool}, nbv ns p < 2 ^ ns.length
  | [], p => by simp [nbv]
  | x :: ns, p => by
    have := nbv_lt (ns := ns) (p := p)
    show (if p x = true then 1 else 0) + 2 * nbv ns p < 2 ^ (ns.length + 1)
    rw [Nat.pow_succ]
    split <;> omega
theorem nbv_congr {ns : List Str} {p q : Str → Bool} (h : ∀ x ∈ ns, p x = q x) : nbv ns p = nbv ns q := by
  induction ns with
  | nil => rfl
  | cons x ns ih =>
    show (if p x = true then 1 else 0) + 2 * nbv ns p = (if q x = true then 1 else 0) + 2 * nbv ns q
    rw [h x (by simp), ih fun y hy => h y (by simp [hy])]
theorem nbv_ext {ns : List Str} {p q : Str → Bool} : nbv ns p = nbv ns q ↔ ∀ x ∈ ns, p x = q x := by
  refine ⟨fun e x hx => ?_, nbv_congr⟩
  obtain ⟨i, hi⟩ := List.mem_iff_getElem?.mp hx
  have h1 := nbv_bit (ns := ns) (p := p) (i := i)
  have h2 := nbv_bit (ns := ns) (p := q) (i := i)
  rw [e, h2] at h1
  unfold bitAt at h1
  rw [hi] at h1
  exact h1.symm
theorem nbv_none : ∀ {ns : List Str}, nbv ns (fun _ => false) = 0
  | [] => rfl
  | x :: ns => by
    show (if false = true then 1 else 0) + 2 * nbv ns (fun _ => false) = 0
    rw [nbv_none]; rfl
theorem nbv_zero {ns : List Str} {p : Str → Bool} : nbv ns p = 0 ↔ ∀ x ∈ ns, p x = false := by
  rw [← nbv_none (ns := ns), nbv_ext]
/-- the number of some of ns -/
def bo (ns o : List Str) : Nat := nbv ns fun x => decide (x ∈ o)
theorem bo_nil {ns : List Str} : bo ns [] = 0 := nbv_zero.mpr fun x _ => by simp
theorem bo_lt {ns o : List Str} : bo ns o < 2 ^ ns.length := nbv_lt
theorem bo_ext {ns o q : List Str} : bo ns o = bo ns q ↔ ∀ x ∈ ns, x ∈ o ↔ x ∈ q := by
  unfold bo
  rw [nbv_ext]
  exact ⟨fun h x hx => by simpa using h x hx, fun h x hx => by simpa using h x hx⟩
theorem bo_cons : ∀ {ns S : List Str} {x : Str}, ns.Nodup → x ∈ ns → x ∉ S → bo ns (x :: S) = 2 ^ ns.idxOf x + bo ns S
  | y :: ns, S, x, nd, hx, hS => by
    obtain ⟨n1, n2⟩ := List.nodup_cons.mp nd
    show (if decide (y ∈ x :: S) = true then 1 else 0) + 2 * nbv ns (fun z => decide (z ∈ x :: S)) = 2 ^ (y :: ns).idxOf x + ((if decide (y ∈ S) = true then 1 else 0) + 2 * nbv ns (fun z => decide (z ∈ S)))
    by_cases e : y = x
    · subst e
      rw [nbv_congr (p := fun z => decide (z ∈ y :: S)) (q := fun z => decide (z ∈ S)) fun z hz => by
        have : z ≠ y := fun e => n1 (e ▸ hz)
        simp [this]]
      simp [hS]
    · have hx' : x ∈ ns := by
        rcases List.mem_cons.mp hx with h | h
        · exact absurd h.symm e
        · exact h
      have ih := bo_cons n2 hx' hS
      unfold bo at ih
      have : (decide (y ∈ x :: S)) = decide (y ∈ S) := by simp [e]
      rw [ih, this, List.idxOf_cons, show (y == x) = false from beq_eq_false_iff_ne.mpr e]
      show _ = 2 ^ (List.idxOf x ns + 1) + _
      rw [Nat.pow_succ]
      omega
theorem bo_sum {ns : List Str} (nd : ns.Nodup) : ∀ {S : List Str}, S.Nodup → (∀ x ∈ S, x ∈ ns) → (S.map fun x => 2 ^ ns.idxOf x).sum = bo ns S
  | [], _, _ => bo_nil.symm
  | x :: S, n, h => by
    obtain ⟨n1, n2⟩ := List.nodup_cons.mp n
    rw [List.map_cons, List.sum_cons, bo_sum nd n2 fun y hy => h y (by simp [hy]), bo_cons nd (h x (by simp)) n1]
/-- how many bits a small number has -/
def pc (g : Nat) : Nat := ((List.range 7).filter fun i => g.testBit i).length
theorem pc_bo {ns o : List Str} (nd : ns.Nodup) (l : ns.length ≤ 7) (no : o.Nodup) (sub : ∀ x ∈ o, x ∈ ns) : pc (bo ns o) = o.length := by
  have e : ∀ i, i ∈ (List.range 7).filter (fun i => (bo ns o).testBit i) ↔ i ∈ o.map fun x => ns.idxOf x := fun i => by
    rw [List.mem_filter, List.mem_map]
    unfold bo
    rw [nbv_bit]
    unfold bitAt
    constructor
    · rintro ⟨_, h⟩
      cases hi : ns[i]? with
      | none => rw [hi] at h; cases h
      | some x =>
        rw [hi] at h
        refine ⟨x, by simpa using h, ?_⟩
        obtain ⟨lt, e⟩ := List.getElem?_eq_some_iff.mp hi
        rw [← e]
        exact List.Nodup.idxOf_getElem nd i lt
    · rintro ⟨x, hx, rfl⟩
      have lt := List.idxOf_lt_length_of_mem (sub x hx)
      refine ⟨by simp; omega, ?_⟩
      rw [List.getElem?_eq_getElem lt, List.getElem_idxOf lt]
      simpa using hx
  have n1 : ((List.range 7).filter (fun i => (bo ns o).testBit i)).Nodup := List.nodup_range.filter _
  have n2 : (o.map fun x => ns.idxOf x).Nodup := by
    refine List.pairwise_map.mpr (no.imp_of_mem fun {x y} hx hy ne e => ne ?_)
    have lx := List.idxOf_lt_length_of_mem (sub x hx)
    have ly := List.idxOf_lt_length_of_mem (sub y hy)
    rw [← List.getElem_idxOf lx, ← List.getElem_idxOf ly]
    simp only [e]
  have p := (List.perm_ext_iff_of_nodup n1 n2).mpr e
  unfold pc
  rw [p.length_eq, List.length_map]
/-! ### lots that can be gone, as numbers -/
theorem Steps.init {os : List Rl} {o : List Str} {x : Str} (h : Steps os (o ++ [x])) : Steps os o ∧ x ∈ mayS os o := by
  refine ⟨by simpa using h.take o.length, ?_⟩
  have := h o.length x (by simp)
  simpa using this
/-- a room with few names, all of them known -/
structure Few (os : List Rl) (ns : List Str) : Prop where
  a : GS.Asc ns
  m : ∀ r ∈ os, ∀ w ∈ r.1 :: r.2, w ∈ ns
  s : ns.length ≤ 7
  l : os.length ≤ 200
  f : ∀ r ∈ os, r.2.length ≤ 14 ∧ r.2.Nodup
section
variable {os : List Rl} {ns : List Str}
theorem Few.nd (h : Few os ns) : ns.Nodup := GS.Asc.nodup h.a
theorem Few.sub (h : Few os ns) {o : List Str} (st : Steps os o) : ∀ x ∈ o, x ∈ ns := fun x hx => by
  obtain ⟨ws, hw⟩ := st.mem hx
  exact h.m _ hw x (by simp)
theorem Few.len (h : Few os ns) {o : List Str} (st : Steps os o) : o.length ≤ ns.length := nodup_len st.nodup (h.sub st)
theorem Few.pcs (h : Few os ns) {o : List Str} (st : Steps os o) : pc (bo ns o) = o.length := pc_bo h.nd h.s st.nodup (h.sub st)
theorem Few.same (h : Few os ns) {o q : List Str} (st : Steps os o) (sq : Steps os q) (e : bo ns o = bo ns q) : ∀ x, x ∈ o ↔ x ∈ q := fun x =>
  ⟨fun hx => ((bo_ext.mp e) x (h.sub st x hx)).mp hx, fun hx => ((bo_ext.mp e) x (h.sub sq x hx)).mpr hx⟩
/-- g is the number of a lot of n who can be gone -/
def LotN (os : List Rl) (ns : List Str) (n g : Nat) : Prop := ∃ o, Steps os o ∧ o.length = n ∧ bo ns o = g
/-- l is one more than g -/
def AftN (os : List Rl) (ns : List Str) (g l : Nat) : Prop := ∃ o x, Steps os (o ++ [x]) ∧ bo ns o = g ∧ bo ns (o ++ [x]) = l
theorem Few.next (h : Few os ns) {n l : Nat} : LotN os ns (n + 1) l ↔ ∃ g, LotN os ns n g ∧ AftN os ns g l := by
  constructor
  · rintro ⟨o, st, hl, rfl⟩
    rcases List.eq_nil_or_concat o with e | ⟨p, x, e⟩
    · rw [e] at hl; cases hl
    · have e : o = p ++ [x] := by simpa using e
      subst e
      exact ⟨_, ⟨p, st.init.1, by simpa using hl, rfl⟩, p, x, st, rfl, rfl⟩
  · rintro ⟨g, ⟨o, st, hl, rfl⟩, q, x, sq, e, rfl⟩
    have := h.pcs st
    have := h.pcs sq.init.1
    rw [e] at this
    exact ⟨q ++ [x], sq, by simp; omega, rfl⟩
end
/-- the levels below n, one behind the other, each lot with those that are one more -/
structure Aft (os : List Rl) (ns : List Str) (n : Nat) (kvs : List (Nat × List Nat)) : Prop where
  key : ∀ g, g ∈ kvs.map (·.1) ↔ ∃ k < n, LotN os ns k g
  nd : (kvs.map (·.1)).Nodup
  val : ∀ g ls, (g, ls) ∈ kvs → ls.Pairwise (· < ·) ∧ ∀ l, l ∈ ls ↔ AftN os ns g l
  ord : kvs.Pairwise fun a b => pc a.1 ≤ pc b.1
theorem Aft.nil {os : List Rl} {ns : List Str} : Aft os ns 0 [] := ⟨fun g => by simp, by simp, by simp, .nil⟩
def F_Room_init : FB := fun y ds Φ => ∃ (rs : List (Str × List Str)), y = .ins 1 [] ∧ (ds = [.lst (rs.map ruleO)] ∨ ds = [.tup (rs.map ruleO)]) ∧ rs.length ≤ 200 ∧ (∀ r ∈ rs, r.2.length ≤ 14) ∧ ∀ ns, GS.IsLot ns (wantAll rs) → Φ (.d .non) (.ins 1 [("rules", .tup (rs.map ruleO)), ("names", .tup (ns.map .str))])
/-! ### rooms with their names as a bare tuple -/
def roomF (os : List Rl) (ns : List Str) : D := .obj 1 [.tup (os.map ruleO), .tupF (ns.map .str)]
theorem sum_cast : ∀ (l : List Nat), (l.map fun n : Nat => (n : Int)).sum = ((l.sum : Nat) : Int)
  | [] => rfl
  | n :: l => by rw [List.map_cons, List.sum_cons, List.sum_cons, sum_cast l, Int.natCast_add]
/-! ### bits of lots -/
def F_bits_of : FR := fun ds Φ => ∃ (ns S : List Str) (d : D), ds = [.tupF (ns.map .str), d] ∧ (d = .lst (S.map .str) ∨ d = .tup (S.map .str)) ∧ ns.Nodup ∧ S.Nodup ∧ (∀ x ∈ S, x ∈ ns) ∧ ns.length ≤ 1000 ∧ S.length ≤ 1000 ∧ Φ (.d (.int (bo ns S)))
theorem ok_bits_of (T : Txt K mg a) : FnOk P w K mg base CX0 1 a.f_bits_of a.fd_bits_of ["names", "some"] (spR (ZZ K a) F_bits_of) := by
  refine T.F_bits_of.ok sc_bits_of (fun vs H Q E h => ?_) (fun cdv A outer s H vs Q E hr h => ?_)
  · obtain ⟨M, ds, Φ, _, al, ⟨ns, S, d, rfl, _⟩, _⟩ := h
    exact al.len
  · obtain ⟨M, ds, Φ, ex, al, ⟨ns, S, d, rfl, hd, nn, nS, sub, l1, l2, fin⟩, q⟩ := h
    refine ⟨_, (pss_one (ps_ret (pe_callB (cr_sum rfl) (by rfl) T.n_sum (by decide +kernel) (pa_cons (pe_lc (own := [("name", 2)]) (g := (gName 2)) (tt := tYes) rfl sc_bits_of.nd (G.pi_or (pi_list (pv 1)) (pi_tupK (K := K) rfl (pv 1))) (blkOk_by (N := N_bits_of) (sc := defScope s_bits_of) (by decide +kernel)) (fun _ _ _ _ _ => (pg_name (i := 2) sc_bits_of.nd rfl (Or.inl rfl))) (fun _ _ _ _ _ => pts_nil) (fun _ _ _ _ _ => (pe_op op_oneShl pe_int (GX.pe_tupIx (K := K) rfl (pv 0) (pa_cons (pv 2) pa_nil))))) pa_nil)))), entR (n := 1) ex al rfl q ?_⟩
    walk_at "ent"
    refine xs_ret <| xe_sum <| xe_ofO <| xo_fg (v := 2) (g := fun x : Str => .str x) (f := fun x : Str => .int (2 ^ ns.idxOf x)) (p := fun _ => true) <| xi_seqV rfl hd ⟨S, rfl, rfl, by omega, fun x hx => ?_, _, rfl, S.map fun x => 2 ^ ns.idxOf x, ?_, ?_⟩
    · try dsimp only [List.set]
      have lt := List.idxOf_lt_length_of_mem (sub x hx)
      refine xt_yes ⟨rfl, rfl, fun _ => xe_oneShl <| xe_int ⟨rfl, xe_tupIx <| xe_var rfl ⟨ns, rfl, xe_var rfl ⟨_, rfl, sub x hx, ns.idxOf x, rfl, by omega, rfl, rfl⟩⟩⟩⟩
    · rw [show S.filter (fun _ => true) = S from List.filter_eq_self.mpr fun _ _ => rfl]
      simp [Function.comp_def]
    · have e : (S.map fun x => (2 : Int) ^ ns.idxOf x).sum = ((bo ns S : Nat) : Int) := by
        rw [← bo_sum nn nS sub, ← sum_cast, List.map_map]
        exact congrArg List.sum (List.map_congr_left fun x _ => by simp)
      rw [e]
      exact fin
def F_Room_initF : FB := fun y ds Φ => ∃ (rs : List (Str × List Str)), y = .ins 1 [] ∧ (ds = [.lst (rs.map ruleO)] ∨ ds = [.tup (rs.map ruleO)]) ∧ rs.length ≤ 200 ∧ (∀ r ∈ rs, r.2.length ≤ 14) ∧ ∀ ns, GS.IsLot ns (wantAll rs) → Φ (.d .non) (.ins 1 [("rules", .tup (rs.map ruleO)), ("names", .tupF (ns.map .str))])
theorem ok_Room_initF (T : Txt K mg a) (G_is_sequence : FnOk P w K mg base CX0 1 a.f_is_sequence a.fd_is_sequence ["value"] (spR (ZZ K a) F_is_sequence)) (G_lot_of : FnOk P w K mg base CX0 1 a.f_lot_of a.fd_lot_of ["names"] (spR (ZZ K a) F_lot_ofF)) : FnOk P w K mg base CX0 2 a.f_Room_init a.fd_Room_init ["self", "rules"] (spB (ZZ K a) F_Room_initF) := by
  refine T.F_Room_init.ok sc_Room_init (fun vs H Q E h => ?_) (fun cdv A outer s H vs Q E hr h => ?_)
  · obtain ⟨M, p, ws', ho, y, ds, Φ, rfl, _, _, _, _, al, ⟨rs, rfl, hd, _⟩, _⟩ := h
    rcases hd with rfl | rfl <;> simp [al.len]
  · obtain ⟨M, p, ws', ho, y, ds, Φ, rfl, hp, hm, hy, ex, al, ⟨rs, rfl, hd, hl, hrs, fin⟩, q⟩ := h
    obtain ⟨d, rfl, hd2⟩ : ∃ d, ds = [d] ∧ (d = .lst (rs.map ruleO) ∨ d = .tup (rs.map ruleO)) := by
      rcases hd with rfl | rfl
      · exact ⟨_, rfl, .inl rfl⟩
      · exact ⟨_, rfl, .inr rfl⟩
    clear hd
    refine ⟨_, PSs.nox ((pss_cons (ps_if (pt_not (pt_val (pe_call G_is_sequence (hr.mono (by decide)) (by rfl) T.m_is_sequence T.F_is_sequence.kp T.b_is_sequence .nil pass0 (pa_cons (pv 1) pa_nil)))) (pss_one ps_never) pss_nil)
      (pss_cons (ps_for PassesOwn.never rfl (G.pi_or (pi_enum (by rfl) T.n_enumerate (pa_cons (pv 1) pa_nil)) (GE.pi_enumT (by rfl) T.n_enumerate (pa_cons (pv 1) pa_nil))) (pg_tup rfl (pgs_cons (pg_name (i := 2) sc_Room_init.nd rfl (Or.inl rfl)) (pgs_cons (pg_name (i := 3) sc_Room_init.nd rfl (Or.inl rfl)) pgs_nil)))
      (pss_one (ps_if (pt_not (pt_val (pe_callB (C8.call_isC T.isC_Rule) (by rfl) T.n_isinstance (by decide +kernel) (pa_cons (pv 3) (pa_cons (pe_glob (v := .ref a.C_Rule) rfl T.m_Rule rfl) pa_nil))))) (pss_one ps_never) pss_nil)))
      (pss_cons (ps_fld (pv 0) (pe_callTy call_tuple_of (by rfl) T.n_tuple (by decide +kernel) (pa_cons (pv 1) pa_nil)) rfl)
      (pss_one (ps_fld (pv 0) (pe_call G_lot_of (hr.mono (by decide)) (by rfl) T.m_lot_of T.F_lot_of.kp T.b_lot_of .nil pass0 (pa_cons (pe_lc2 (own := [("rule", 3), ("name", 4)]) (vs1 := [4]) (g := (gName 3)) (g1 := (gName 4)) (tt := tYes) (tt1 := tYes) rfl sc_Room_init.nd (G.pi_or (pi_list (pv 1)) (pi_tupK (K := K) rfl (pv 1))) (blkOk_by (N := N_Room_init) (sc := defScope s_Room_init) (by decide +kernel)) (by decide) (fun _ _ _ _ _ => (pg_name (i := 3) sc_Room_init.nd rfl (Or.inl rfl))) (fun _ _ _ _ _ => pts_nil) (fun _ _ _ _ _ => (pi_tupK (K := K) rfl (pe_tup (pa_cons (pe_fldK (K := K) rfl (pv 3) rfl) (pa_starK (K := K) rfl (pe_fldK (K := K) rfl (pv 3) rfl) pa_nil))))) (fun _ _ _ _ _ => (pg_name (i := 4) sc_Room_init.nd rfl (Or.inl rfl))) (fun _ _ _ _ _ => pts_nil) (fun _ _ _ _ _ => (pv 4))) pa_nil)) rfl)))))), entB (n := 3) hp hm hy ex al rfl q ?_⟩
    walk_at "ent"
    walk_at "xs"
    refine xr_call (fun _ => .nil) ?_
    walk_at "xs"
    refine ⟨(by rcases hd2 with rfl | rfl <;> exact ⟨_, rfl⟩), on_d ⟨_, rfl, ?_⟩⟩
    rw [show (seqOf d).isSome = true by rcases hd2 with rfl | rfl <;> rfl]
    walk_at "xs"
    refine xs_for (vs := [2, 3]) (xi_enumV rfl hd2 ?_)
    refine ⟨fun i δ => ∃ s2 s3 : S, δ = [.own (.ins 1 []), .d d, s2, s3, .no], ⟨_, _, rfl⟩, ?_, ?_⟩
    · rintro i x δ1 hi ⟨s2, s3, rfl⟩
      obtain ⟨x, hx, rfl⟩ := enumD_at hi
      obtain ⟨r, hr, rfl⟩ : ∃ r, rs[i]? = some r ∧ ruleO r = x := by simpa using hx
      refine xg_tup (by rfl) (xgs_cons (xg_name (by decide) (by decide) (xgs_cons (xg_name (by decide) (by decide) (xgs_nil ?_)))))
      walk_at "xs"
      exact ⟨_, _, rfl⟩
    · rintro δ1 ⟨s2, s3, rfl⟩
      walk_at "xs"
      refine xs_forget (i := 3) (by decide) ?_
      walk_at "xs"
      refine xs_fldO (c := 1) T.cl_Room T.no_Room_rules (xe_tuple (xe_var rfl ⟨_, hd2, [], rfl, by decide, ?_⟩))
      walk_at "xs"
      refine xs_fldO (c := 1) T.cl_Room T.no_Room_names ?_
      refine xr_call (fun _ => .nil) ?_
      walk_at "xs"
      refine xe_ofO (xo_lc2 (xi_seqV rfl hd2 ?_))
      refine ⟨fun v hv => by simp at hv; rcases hv with rfl | rfl <;> rfl, by simp, by simp; omega, fun i acc δ => δ = [.own (.ins 1 (putD "rules" (.tup (rs.map ruleO)) [])), .d d, s2, .no, .no] ∧ acc = (wantAll (rs.take i)).map .str, ⟨rfl, rfl⟩, ?_, ?_⟩
      · rintro i x acc δ1 bs hb hx ⟨rfl, rfl⟩
        obtain ⟨r, hr, rfl⟩ : ∃ r, rs[i]? = some r ∧ ruleO r = x := by simpa using hx
        have hrl := hrs r (List.mem_of_getElem? hr)
        refine xg_name (by decide) (hb 3 (by decide)) ?_
        refine xt_yes (if_tt (xi_tup (xe_tup (xa_cons (xe_rname T (xe_var rfl ⟨_, _, rfl, xa_star (xe_rgone T (xe_var rfl ⟨_, _, rfl, _, .inr rfl, xa_nil ?_⟩))⟩))))))
        refine ⟨by simp; omega, _, rfl, by simp; omega, fun v hv => by simp at hv; subst hv; rfl, fun j acc δ => δ = [.own (.ins 1 (putD "rules" (.tup (rs.map ruleO)) [])), .d d, s2, .d (ruleO r), .no] ∧ acc = (wantAll (rs.take i) ++ (r.1 :: r.2).take j).map .str, ⟨rfl, by simp⟩, ?_, ?_⟩
        · rintro j e acc δ5 bs hb he ⟨rfl, rfl⟩
          obtain ⟨w, hw, rfl⟩ : ∃ w, (r.1 :: r.2)[j]? = some w ∧ D.str w = e := by
            have : (D.str r.1 :: (r.2.map .str ++ [])) = (r.1 :: r.2).map .str := by simp
            rw [this, List.getElem?_map] at he
            exact Option.map_eq_some_iff.mp he
          refine xg_name (by decide) (hb 4 (by decide)) ?_
          refine xt_yes (if_tt (xe_var rfl ⟨rfl, ?_⟩))
          rw [GS.take_get hw]
          simp
        · rintro acc δ5 ⟨rfl, rfl⟩
          refine ⟨rfl, ?_⟩
          have e : ∀ n, n = r.2.length + 1 → (r.1 :: r.2).take n = r.1 :: r.2 := fun n h => List.take_of_length_le (by simp [h])
          rw [GS.take_get hr, wantAll, wantAll, List.flatMap_append, e _ (by simp)]
          simp
      · rintro acc δ1 ⟨rfl, rfl⟩
        rw [List.length_map, List.take_length]
        refine ⟨_, rfl, xa_nil ?_⟩
        have hz := wantAll_len hrs
        refine ⟨wantAll rs, .inr rfl, by omega, fun ys hy _ => ?_⟩
        exact ⟨_, rfl, (show (0 : Nat) + 1 < 1000 by decide), _, rfl, fin _ hy⟩
/-! ### who can be gone after whom -/
theorem band (a b : Nat) : PySem.Builtin.bitAnd (a : Int) (b : Int) = ((a &&& b : Nat) : Int) := PySem.W.os_band a b
theorem bor (a b : Nat) : PySem.Builtin.bitOr (a : Int) (b : Int) = ((a ||| b : Nat) : Int) := by
  rw [bitOr_nn (Int.natCast_nonneg a) (Int.natCast_nonneg b), Int.toNat_natCast, Int.toNat_natCast]
def intL (l : List Nat) : List D := l.map fun n : Nat => .int n
theorem Aft.top {os : List Rl} {ns : List Str} {n m : Nat} {kvs : List (Nat × List Nat)} (f : Few os ns) (h : Aft os ns n kvs) (no : ∀ g, ¬ LotN os ns n g) (l : n ≤ m) : Aft os ns m kvs := by
  have none' : ∀ k, n ≤ k → ∀ g, ¬ LotN os ns k g := fun k => by
    induction k with
    | zero => intro hk g; obtain rfl : n = 0 := by omega
              exact no g
    | succ k ih =>
      intro hk g c
      rcases Nat.eq_or_lt_of_le hk with e | e
      · rw [← e] at c; exact no g c
      · obtain ⟨g', c', _⟩ := f.next.mp c
        exact ih (by omega) g' c'
  exact ⟨fun g => (h.key g).trans ⟨fun ⟨k, hk, c⟩ => ⟨k, by omega, c⟩, fun ⟨k, hk, c⟩ => ⟨k, by
    rcases Nat.lt_or_ge k n with z | z
    · exact z
    · exact absurd c (none' k z g), c⟩⟩, h.nd, h.val, h.ord⟩
/-! ### the names of an integer -/
def F_names_of : FR := fun ds Φ => ∃ (ns S : List Str), ds = [.tupF (ns.map .str), .int (bo ns S)] ∧ ns.length ≤ 1000 ∧ Φ (.d (.tupF ((ns.filter fun n => decide (n ∈ S)).map .str)))
theorem ok_names_of (T : Txt K mg a) : FnOk P w K mg base CX0 1 a.f_names_of a.fd_names_of ["names", "bits"] (spR (ZZ K a) F_names_of) := by
  refine T.F_names_of.ok sc_names_of (fun vs H Q E h => ?_) (fun cdv A outer s H vs Q E hr h => ?_)
  · obtain ⟨M, ds, Φ, _, al, ⟨ns, S, rfl, _⟩, _⟩ := h
    exact al.len
  · obtain ⟨M, ds, Φ, ex, al, ⟨ns, S, rfl, l1, fin⟩, q⟩ := h
    refine ⟨_, (pss_one (ps_ret (pe_callTy GX.call_tupleF (by rfl) T.n_tuple (by decide +kernel) (pa_cons (pe_lc (own := [("at", 2), ("name", 3)]) (g := (gTup K 2 (gCons (gName 2) (gCons (gName 3) gNil))))  rfl sc_names_of.nd (GE.pi_enumT (by rfl) T.n_enumerate (pa_cons (pv 0) pa_nil)) (blkOk_by (N := N_names_of) (sc := defScope s_names_of) (by decide +kernel)) (fun _ _ _ _ _ => (pg_tup rfl (pgs_cons (pg_name (i := 2) sc_names_of.nd rfl (Or.inl rfl)) (pgs_cons (pg_name (i := 3) sc_names_of.nd rfl (Or.inl rfl)) pgs_nil)))) (fun _ _ _ _ _ => pts_one (pt_truthK (K := K) rfl (pe_op op_and (pe_op op_shr (pv 1) (pv 2)) pe_int) (by intro _; rfl))) (fun _ _ _ _ _ => (pv 3))) pa_nil)))), entR (n := 2) ex al rfl q ?_⟩
    walk_at "ent"
    refine xs_ret <| xe_tupleF <| xe_ofO <| xo_lc <| xi_enumT <| xe_wk <| xe_var rfl ⟨ns.map .str, rfl, ns.map .str, rfl, fun v hv => by simp at hv; rcases hv with rfl | rfl <;> rfl, by simp [enumD]; omega, fun i acc δ => δ = [.d (.tupF (ns.map .str)), .d (.int (bo ns S)), .no, .no] ∧ acc = ((ns.take i).filter fun n => decide (n ∈ S)).map .str, ⟨rfl, rfl⟩, ?_, ?_⟩
    · rintro i d acc δ1 bs hb hi ⟨rfl, rfl⟩
      obtain ⟨x, hx, rfl⟩ := enumD_at hi
      obtain ⟨n, hn, rfl⟩ : ∃ n, ns[i]? = some n ∧ D.str n = x := by simpa using hx
      have tk : ns.take (i + 1) = ns.take i ++ [n] := GS.take_get hn
      refine xg_tup (by rfl) (xgs_cons (xg_name (by decide) (hb _ (by decide)) (xgs_cons (xg_name (by decide) (hb _ (by decide)) (xgs_nil ?_)))))
      try dsimp only [List.set]
      refine xt_truth <| xe_I0 <| xe_I <| xe_var rfl <| xe_var rfl ⟨_, _, rfl, rfl, Int.natCast_nonneg _, xe_int ⟨_, _, rfl, rfl, nofun, _, rfl, ?_⟩⟩
      have e : (PySem.Builtin.bitAnd (((bo ns S : Nat) : Int) / 2 ^ ((i : Nat) : Int).toNat) 1 != 0) = decide (n ∈ S) := by
        rw [Int.toNat_natCast, show ((bo ns S : Nat) : Int) / 2 ^ i = ((bo ns S / 2 ^ i : Nat) : Int) from by simp, show (1 : Int) = ((1 : Nat) : Int) from rfl, band]
        have h1 := nbv_bit (ns := ns) (p := fun x => decide (x ∈ S)) (i := i)
        rw [show bitAt ns (fun x => decide (x ∈ S)) i = decide (n ∈ S) from by unfold bitAt; rw [hn]] at h1
        rw [← h1, Nat.testBit, Nat.shiftRight_eq_div_pow, Nat.and_comm]
        unfold bo
        generalize nbv ns (fun x => decide (x ∈ S)) / 2 ^ i &&& 1 = q
        rw [Bool.eq_iff_iff]
        simp only [bne_iff_ne, ne_eq]
        exact not_congr (by omega)
      rw [e]
      by_cases c : n ∈ S
      · rw [decide_eq_true c, if_pos rfl]
        exact xe_var rfl ⟨rfl, by rw [tk, List.filter_append]; simp [c]⟩
      · rw [decide_eq_false c, if_neg (by simp)]
        exact ⟨rfl, by rw [tk, List.filter_append]; simp [c]⟩
    · rintro acc δ1 ⟨rfl, rfl⟩
      rw [enumD_len, List.length_map, List.take_length]
      exact ⟨_, rfl, _, rfl, fin⟩
theorem xe_addS {Z : Wd} {δ : List S} {ta tb : TE} {Φ : D → List S → Prop} (h : XE Z ta δ fun a δ1 => XE Z tb δ1 fun b δ2 => ∃ i j : Str, a = .str i ∧ b = .str j ∧ i.length + j.length ≤ sizeLine ∧ Φ (.str (i ++ j)) δ2) :
    XE Z (tOp (fun x y H Q => ∃ i j : Str, x = .str i ∧ y = .str j ∧ i.length + j.length ≤ sizeLine ∧ Q (.str (i ++ j)) H) ta tb) δ Φ := XE.mk fun B W M H σ Q I q =>
  h.run I fun M1 H1 δ1 x a h1 e1 I1 at1 => XE.run h1 I1 fun M2 H2 δ2 y b h2 e2 I2 at2 => by
    obtain ⟨i, j, rfl, rfl, l, f⟩ := h2
    cases at1; cases at2
    exact ⟨i, j, rfl, rfl, l, q M2 H2 δ2 _ _ f (e1.tr e2) I2 .str⟩
/-! ### names drawn -/
theorem xs_mid {Z : Wd} {bs : List Nat} {ts : TS} {δ : List S} {P : Po} {J : List S → Prop} (h : XS Z bs ts δ { P with N := J }) (k : ∀ δ', J δ' → P.N δ') : XS Z bs ts δ P := fun B W M H σ E hb I e =>
  h B W M H σ E hb I ⟨fun M' H' σ' δ' j x I' => e.nx M' H' σ' δ' (k δ' j) x I', e.rt, e.bk, e.ct, e.xc⟩
theorem letter_at : ∀ i : Fin 26, atI letters.cps.toList (i.val : Int) = some (97 + i.val) := by decide +kernel
theorem mulq_len : ∀ t : Fin 3, (Txt.mul "q" ((t.val : Nat) : Int)).length = t.val := by decide +kernel
theorem nmq_head (c t : Nat) : TL.tl (nmQ c t) = (97 + c) :: TL.tl (Txt.mul "q" (t : Int)) := by
  unfold nmQ
  show TL.tl (_ ++ _) = _
  exact Array.toList_append ..
theorem nmq_inj {c d t : Nat} (h : nmQ c t = nmQ d t) : c = d := by
  have := congrArg TL.tl h
  rw [nmq_head, nmq_head] at this
  have := (List.cons.inj this).1
  omega
theorem nmq_in {c t : Nat} (hc : c < 26) (ht : t < 3) : nmQ c t ∈ pool := by
  unfold pool
  exact List.mem_flatMap.mpr ⟨t, List.mem_range.mpr ht, List.mem_map.mpr ⟨c, List.mem_range.mpr hc, rfl⟩⟩
theorem step5 {s i j : Nat} (hi : i < 26) (hj : j < 26) (h : (s + 5 * i) % 26 = (s + 5 * j) % 26) : i = j := by omega
def F_names : FD := fun y ds Φ => ∃ b : Int, ds = [.int b] ∧ 0 ≤ b ∧ b ≤ 9 ∧ DealD y ∧ ∀ (ns : List Str) y', ns.Nodup → (∀ n ∈ ns, n ∈ pool) → (ns.length : Int) = b → DealD y' → Φ (.own (.lst (ns.map .str))) y'
theorem ok_names3 (T : Txt K mg a) (G_lw_draw : FnOk P w K mg base CX0 1 a.f_lw_draw a.fd_lw_draw ["_law_deal_here", "_law_bound"] (spD (ZZ K a) F_draw)) : FnOk P w K mg base CX0 2 a.f_lw_names a.fd_lw_names ["_law_deal_here", "_law_bound"] (spD (ZZ K a) F_names) := by
  refine T.F_lw_names.ok sc_lw_names (fun vs H Q E h => ?_) (fun cdv A outer s H vs Q E hr h => ?_)
  · obtain ⟨M, p, q, y, ws, ds, Φ, rfl, _, _, al, ⟨b, rfl, _⟩, _⟩ := h
    simp [al.len]
  · obtain ⟨M, p, q, y, ws, ds, Φ, rfl, so, ex, al, ⟨b, rfl, b0, b1, hy, k⟩, fin⟩ := h
    refine ⟨_, (pss_cons (ps_asg (pe_tup (pa_cons pe_str (pa_cons (pe_call G_lw_draw (hr.mono (by decide)) (by rfl) T.m_lw_draw T.F_lw_draw.kp T.b_lw_draw .nil pass0 (pa_cons (pv 0) (pa_cons pe_int pa_nil))) (pa_cons (pe_op GX.op_mulS pe_str (pe_call G_lw_draw (hr.mono (by decide)) (by rfl) T.m_lw_draw T.F_lw_draw.kp T.b_lw_draw .nil pass0 (pa_cons (pv 0) (pa_cons pe_int pa_nil)))) pa_nil)))) (pg_tup rfl (pgs_cons (pg_name (i := 2) sc_lw_names.nd rfl (Or.inr rfl)) (pgs_cons (pg_name (i := 3) sc_lw_names.nd rfl (Or.inr rfl)) (pgs_cons (pg_name (i := 4) sc_lw_names.nd rfl (Or.inr rfl)) pgs_nil)))))
      (pss_one (ps_ret (pe_lc (own := [("_law_k", 5)]) (g := (gName 5)) (tt := tYes) rfl sc_lw_names.nd (pi_range1 (by rfl) T.n_range (pa_cons (pv 1) pa_nil)) (blkOk_by (N := N_lw_names) (sc := defScope s_lw_names) (by decide +kernel)) (fun _ _ _ _ _ => (pg_name (i := 5) sc_lw_names.nd rfl (Or.inl rfl))) (fun _ _ _ _ _ => pts_nil) (fun _ _ _ _ _ => (pe_op op_add_str (pe_ix (show IxR _ (rIx K) from ix_seq) (pv 2) (pe_op op_mod (pe_callTy (T := "int") call_int1 (by rfl) T.n_int (by decide +kernel) (pa_cons (pe_op op_add (pv 3) (pe_op op_mulW pe_int (pv 5))) pa_nil)) pe_int) (fun _ _ => rfl)) (pv 4))))))), entD (n := 4) so ex al rfl fin ?_⟩
    walk_at "ent"
    have lq : ("q" : Str).length ≤ 16 := by decide
    refine xs_seq <| xs_asg (vs := [2, 3, 4]) <| xe_tup <| xa_cons <| xe_str <| xa_cons <| xr_callD (i := 0) (fun _ => .nil) ⟨_, _, _, rfl⟩ <| xa_cons <| xe_int <| xa_nil ⟨q, y, rfl, _, rfl, by omega, by omega, hy, fun d1 y1 d10 d11 hy1 => on_d <| xa_cons <| xe_mulS <| xe_str <| xr_callD (i := 0) (fun _ => .nil) ⟨_, _, _, rfl⟩ <| xa_cons <| xe_int <| xa_nil ⟨q, y1, rfl, _, rfl, by omega, by omega, hy1, fun d2 y2 d20 d21 hy2 => on_d ⟨_, _, rfl, rfl, lq, d20, by omega, xa_nil ⟨by simp, xg_tup rfl <| xgs_cons <| xg_name (by decide) (by decide) <| xgs_cons <| xg_name (by decide) (by decide) <| xgs_cons <| xg_name (by decide) (by decide) <| xgs_nil ?_⟩⟩⟩⟩
    obtain ⟨s, rfl⟩ : ∃ s : Nat, d1 = s := ⟨d1.toNat, by omega⟩
    obtain ⟨t, rfl⟩ : ∃ t : Nat, d2 = t := ⟨d2.toNat, by omega⟩
    have ht : t < 3 := by omega
    have hl := mulq_len ⟨t, ht⟩
    dsimp only at hl
    try dsimp only [List.set]
    have f : ∀ i : Nat, (0 : Int) ≤ ((s : Int) + 5 * i) % 26 ∧ ((s : Int) + 5 * i) % 26 = (((s + 5 * i) % 26 : Nat) : Int) := fun i => ⟨by omega, by omega⟩
    refine xs_retO <| xo_fg (v := 5) (g := fun i : Nat => D.int (0 + (i : Int))) (f := fun i : Nat => D.str (nmQ ((s + 5 * i) % 26) t)) (p := fun _ => true) <| xi_rng1 <| xe_var rfl ⟨_, rfl, by omega, by omega, List.range b.toNat, rfl, rfl, by rw [List.length_range]; omega, fun i hi => xt_yes ⟨rfl, rfl, fun _ => xe_addS <| xe_ix <| xe_var rfl <| xe_I <| xe_callInt <| xe_I0 <| xe_var rfl <| xe_I <| xe_int <| xe_var rfl ?_⟩, ?_⟩
    · have hi := List.mem_range.mp hi
      have e : ((s : Int) + 5 * (0 + (i : Int))) % 26 = (((s + 5 * i) % 26 : Nat) : Int) := by omega
      have hc : (s + 5 * i) % 26 < 26 := Nat.mod_lt _ (by decide)
      refine ⟨_, _, rfl, rfl, mulw (by omega) (by omega), _, _, rfl, rfl, _, rfl, xe_int ⟨_, _, rfl, rfl, by omega, _, .str ⟨#[97 + (s + 5 * i) % 26]⟩, rfl, ?_, xe_var rfl ⟨_, _, rfl, rfl, ?_, rfl, rfl⟩⟩⟩
      · rw [e]
        have := letter_at ⟨(s + 5 * i) % 26, hc⟩
        dsimp only at this
        show (if letters.length ≤ sizeLine then (atI letters.cps.toList _).map fun c => D.str ⟨#[c]⟩ else none) = _
        rw [if_pos (by rw [sizeLine_eq]; decide), this]; rfl
      · rw [hl]
        show 1 + t ≤ sizeLine
        rw [sizeLine_eq]; omega
    · rw [filter_tt, show (fun i : Nat => D.str (nmQ ((s + 5 * i) % 26) t)) = D.str ∘ (fun i : Nat => nmQ ((s + 5 * i) % 26) t) from rfl, ← List.map_map]
      refine ⟨y2, rfl, k _ y2 ?_ ?_ ?_ hy2⟩
      · refine List.pairwise_map.mpr (List.Pairwise.imp_of_mem (fun {i j} hi hj ne e => ?_) (List.nodup_range (n := b.toNat)))
        have hi := List.mem_range.mp hi
        have hj := List.mem_range.mp hj
        exact ne (step5 (by omega) (by omega) (nmq_inj e))
      · intro n hn
        obtain ⟨i, _, rfl⟩ := List.mem_map.mp hn
        exact nmq_in (Nat.mod_lt _ (by decide)) ht
      · simp; omega
/-! ### one of some -/
def F_pick3 : FD := fun y ds Φ => ∃ (xs : List D) (d : D), ds = [d] ∧ (d = .lst xs ∨ d = .tup xs) ∧ 0 < xs.length ∧ xs.length ≤ 1073741823 ∧ DealD y ∧ ∀ x y', x ∈ xs → DealD y' → Φ (.d x) y'
theorem ok_pick3 (T : Txt K mg a) (G_lw_draw : FnOk P w K mg base CX0 1 a.f_lw_draw a.fd_lw_draw ["_law_deal_here", "_law_bound"] (spD (ZZ K a) F_draw)) : FnOk P w K mg base CX0 2 a.f_lw_pick a.fd_lw_pick ["_law_deal_here", "_law_some"] (spD (ZZ K a) F_pick3) := by
  refine T.F_lw_pick.ok sc_lw_pick (fun vs H Q E h => ?_) (fun cdv A outer s H vs Q E hr h => ?_)
  · obtain ⟨M, p, q, y, ws, ds, Φ, rfl, _, _, al, ⟨xs, d, rfl, _⟩, _⟩ := h
    simp [al.len]
  · obtain ⟨M, p, q, y, ws, ds, Φ, rfl, so, ex, al, ⟨xs, d, rfl, hd, h0, h1, hy, k⟩, fin⟩ := h
    refine ⟨_, (pss_one (ps_ret (pe_ix (show IxR _ (rIx K) from ix_seq) (pv 1) (pe_call G_lw_draw (hr.mono (by decide)) (by rfl) T.m_lw_draw T.F_lw_draw.kp T.b_lw_draw .nil pass0 (pa_cons (pv 0) (pa_cons (pe_callB (show CallR _ (.builtin "len") (G.rLen K) from call_len) (by rfl) T.n_len PySem.boot_len (pa_cons (pv 1) pa_nil)) pa_nil))) (fun _ _ => rfl)))), entD (n := 0) so ex al rfl fin ?_⟩
    walk_at "ent"
    have el : lenD d = some xs.length := by rcases hd with rfl | rfl <;> rfl
    refine xs_ret <| xe_ix <| xe_var rfl <| xr_callD (i := 0) (fun _ => .nil) ⟨_, _, _, rfl⟩ <| xa_cons <| xe_len <| xe_var rfl ⟨xs.length, el, xa_nil ⟨q, y, rfl, xs.length, rfl, by omega, by omega, hy, fun i y' i0 i1 hy' => on_d ?_⟩⟩
    obtain ⟨v, hv⟩ := atI_some (xs := xs) i0 (by omega)
    obtain ⟨_, _, hj, _⟩ := L2.atI_get hv
    exact ⟨_, v, rfl, by rcases hd with rfl | rfl <;> exact hv, y', rfl, k v y' (List.mem_of_getElem? hj) hy'⟩
/-! ### rules -/
/-! ### rules: == and their texts -/
def F_Rule_eq : FR := fun ds Φ => ∃ (r : Rl) (d : D), ds = [ruleO r, d] ∧ ((∃ q : Rl, d = ruleO q ∧ (∀ w ∈ r.2, PyData.strOk w = true) ∧ (∀ w ∈ q.2, PyData.strOk w = true) ∧ Φ (.d (.bl (decide (r = q))))) ∨ (∃ s : Str, d = .str s ∧ Φ (.d (.bl false))))
def ruleT (r : Rl) : Str := if r.2 = [] then r.1 else Txt.join " " (r.1 :: "if" :: r.2)
def F_Rule_str : FR := fun ds Φ => ∃ r : Rl, ds = [ruleO r] ∧ r.2.length ≤ 14 ∧ (∀ w ∈ r.1 :: r.2, w.length ≤ 3) ∧ Φ (.d (.str (ruleT r)))
theorem sum_le {ws : List Str} {b : Nat} (h : ∀ w ∈ ws, w.length ≤ b) : (ws.map (·.length)).sum ≤ ws.length * b := by
  induction ws with
  | nil => simp
  | cons w ws ih =>
    have h1 := h w (by simp)
    have h2 := ih fun z hz => h z (List.mem_cons_of_mem _ hz)
    simp [Nat.succ_mul]; omega
theorem pool_len : ∀ n ∈ pool, n.length ≤ 3 := by decide +kernel
/-! ### rooms: == and their texts -/
def F_Room_eq : FR := fun ds Φ => ∃ (os : List Rl) (ns : List Str) (d : D), ds = [roomD os ns, d] ∧ ((∃ os' ns', d = roomD os' ns' ∧ (∀ r ∈ os, ∀ w ∈ r.2, PyData.strOk w = true) ∧ (∀ r ∈ os', ∀ w ∈ r.2, PyData.strOk w = true) ∧ Φ (.d (.bl (decide (os = os'))))) ∨ (∃ s : Str, d = .str s ∧ Φ (.d (.bl false))) ∨ (∃ r : Rl, d = ruleO r ∧ Φ (.d (.bl false))))
def roomT (os : List Rl) : Str := Txt.join "\n" (os.map ruleT)
def F_Room_str : FR := fun ds Φ => ∃ (os : List Rl) (ns : List Str), ds = [roomD os ns] ∧ os.length ≤ 200 ∧ (∀ r ∈ os, r.2.length ≤ 14) ∧ (∀ r ∈ os, ∀ w ∈ r.1 :: r.2, w.length ≤ 3) ∧ (∀ r ∈ os, (ruleT r).length ≤ 100) ∧ Φ (.d (.str (roomT os)))
def F_Room_len : FR := fun ds Φ => ∃ (os : List Rl) (ns : List Str), ds = [roomD os ns] ∧ Φ (.d (.int os.length))
theorem cut_from {α : Type} {xs : List α} {b : Int} (h : 0 ≤ b) (h2 : b ≤ xs.length) : cut xs (some b) none = xs.drop b.toNat := by
  unfold cut
  have e1 : HT.sIx xs.length 0 (some b) = b.toNat := by
    show (if b < 0 then (b + (xs.length : Int)).toNat else min b.toNat xs.length) = b.toNat
    rw [if_neg (by omega)]
    omega
  have e2 : HT.sIx xs.length xs.length none = xs.length := rfl
  rw [e1, e2, List.take_of_length_le (by simp)]
def F_Room_add : FR := fun ds Φ => ∃ (os os' : List Rl) (ns ns' : List Str), ds = [roomD os ns, roomD os' ns'] ∧ os.length + os'.length ≤ 200 ∧ (∀ r ∈ os ++ os', r.2.length ≤ 14) ∧ ∀ ms, GS.IsLot ms (wantAll (os ++ os')) → Φ (.d (roomD (os ++ os') ms))
open Classical in
noncomputable def lotC (ws : List Str) : List Str := if h : ∃ ys, GS.IsLot ys ws then choose h else []
theorem lotC_is {ys ws : List Str} (h : GS.IsLot ys ws) : lotC ws = ys := by
  have e : ∃ ys, GS.IsLot ys ws := ⟨ys, h⟩
  unfold lotC
  rw [dif_pos e]
  have k := Classical.choose_spec e
  exact GS.Asc.uniq k.asc h.asc fun x => (k.mem x).trans (h.mem x).symm
theorem joinL_len {y : List Nat} : ∀ {ps : List (List Nat)}, (TL.joinL y ps).length ≤ (ps.map (·.length)).sum + ps.length * y.length
  | [] => by simp [TL.joinL]
  | [p] => by simp [TL.joinL]
  | p :: q :: r => by
    have := joinL_len (y := y) (ps := q :: r)
    simp only [TL.joinL, List.length_append, List.map_cons, List.sum_cons, List.length_cons] at this ⊢
    rw [Nat.succ_mul]
    omega
theorem join_len (y : Str) (ps : List Str) : (Txt.join y ps).length ≤ (ps.map (·.length)).sum + ps.length * y.length := by
  have := joinL_len (y := TL.tl y) (ps := ps.map TL.tl)
  rw [← TL.tl_join] at this
  rw [TL.join_eq]
  have e : ∀ x : Str, x.length = (TL.tl x).length := fun x => by show x.cps.size = x.cps.toList.length; simp
  rw [e, e y]
  refine Nat.le_trans this ?_
  rw [List.map_map, List.length_map, show (fun x : Str => x.length) = ((·.length) ∘ TL.tl) from funext e]
  exact Nat.le_refl _
theorem ruleT_len {r : Rl} (h : r.2.length ≤ 14) (k : ∀ w ∈ r.1 :: r.2, w.length ≤ 3) : (ruleT r).length ≤ 100 := by
  unfold ruleT
  split
  · have := k r.1 (by simp); omega
  · have j := join_len " " (r.1 :: "if" :: r.2)
    have s1 := sum_le (b := 3) k
    have l1 : ("if" : Str).length = 2 := by decide
    have l2 : (" " : Str).length = 1 := by decide
    simp [l1, l2] at j s1
    omega
/-! ### texts of rules tell the rules -/
def partsT (r : Rl) : List Str := if r.2 = [] then [r.1] else r.1 :: "if" :: r.2
structure RGood (r : Rl) : Prop where
  l : r.2.length ≤ 14
  p : ∀ w ∈ r.1 :: r.2, w ∈ pool
theorem RGood.len {r : Rl} (h : RGood r) : ∀ w ∈ r.1 :: r.2, w.length ≤ 3 := fun w hw => pool_len w (h.p w hw)
theorem RGood.str {r : Rl} (h : RGood r) : ∀ w ∈ r.2, PyData.strOk w = true := fun w hw => (pool_ok w (h.p w (by simp [hw]))).2.2
theorem ruleT_join (r : Rl) : ruleT r = Txt.join " " (partsT r) := by
  unfold ruleT partsT
  split
  · rw [TL.join_eq]; rfl
  · rfl
/-! ### texts of rooms tell the rooms -/
theorem mem_joinL {y : List Nat} {x : Nat} : ∀ {ps : List (List Nat)}, x ∈ TL.joinL y ps → x ∈ y ∨ ∃ p ∈ ps, x ∈ p
  | [], h => nomatch h
  | [p], h => .inr ⟨p, by simp, h⟩
  | p :: q :: r, h => by
    rcases List.mem_append.mp h with h | h
    · exact .inr ⟨p, by simp, h⟩
    · rcases List.mem_append.mp h with h | h
      · exact .inl h
      · rcases mem_joinL h with h | ⟨z, hz, h⟩
        · exact .inl h
        · exact .inr ⟨z, List.mem_cons_of_mem _ hz, h⟩
theorem roomT_nil : roomT [] = "" := by unfold roomT; rw [TL.join_eq]; rfl
/-! ### the rules that are made -/
noncomputable def lotR (r : Rl) : Rl := (r.1, lotC r.2)
def NmOk (w : Str) : Prop := w.length ≤ sizeLine ∧ nmS w = true
theorem nm_pool {w : Str} (h : w ∈ pool) : NmOk w := ⟨(pool_ok w h).1, (pool_ok w h).2.1⟩
def F_Rule_initN : FB := fun y ds Φ => ∃ (s : Str) (ws : List Str) (g : D), y = .ins 0 [] ∧ ds = [.str s, g] ∧ (g = .lst (ws.map .str) ∨ g = .tup (ws.map .str)) ∧ NmOk s ∧ (∀ w ∈ ws, NmOk w ∧ w ≠ s) ∧ ws.length ≤ 14 ∧ ∀ lot, GS.IsLot lot ws → Φ (.d .non) (.ins 0 [("name", .str s), ("gone", .tup (lot.map .str))])
theorem ok_Rule_initN {ps : List Str} (h : FnOk P w K mg base (L2.CX P w) 3 a.f_Rule_init a.fd_Rule_init ps (spBX (ZZ K a) F_Rule_initX)) : FnOk P w K mg base CX0 3 a.f_Rule_init a.fd_Rule_init ps (spB (ZZ K a) F_Rule_initN) := calmB h fun y ds Φ ⟨s, ws, g, e1, e2, e3, h1, h2, h3, fin⟩ => by
  have nm : isNm (.str s) = true := h1.2
  have bad : badG (.str s) g = false := by
    unfold badG
    rw [hasD_strs e3, decide_eq_false fun q => (h2 s q).2 rfl]
    have : areNm g = true := areNm_iff.mpr ⟨ws, e3, fun w hw => (h2 w hw).1.2⟩
    rw [this]; rfl
  have ok1w : ∀ w, NmOk w → ok1 (.str w) := fun w hw => ⟨⟨_, rfl⟩, fun s e => by cases e; exact hw.1⟩
  refine ⟨.str s, g, e1, e2, ok1w s h1, ⟨⟨by rcases e3 with rfl | rfl <;> exact ⟨_, rfl⟩, fun s e => by rcases e3 with rfl | rfl <;> cases e⟩, fun xs hx => ?_⟩, fun c => (nomatch nm.symm.trans c), fun _ c => (nomatch bad.symm.trans c), fun s' ws' es hw _ _ lot hlot => ?_⟩
  · have e : xs = ws.map .str := by
      rcases e3 with rfl | rfl <;> rcases hx with hx | hx <;> first | exact (D.lst.inj hx).symm | exact (D.tup.inj hx).symm | cases hx
    subst e
    refine ⟨by simp; omega, fun x hx => ?_⟩
    obtain ⟨w, hw, rfl⟩ := List.mem_map.mp hx
    exact ok1w w (h2 w hw).1
  · cases es
    have : ws = ws' := by
      have inj : ∀ {l m : List Str}, l.map D.str = m.map D.str → l = m := fun h => (List.map_inj_right fun _ _ e => D.str.inj e).mp h
      rcases e3 with rfl | rfl <;> rcases hw with hw | hw <;> first | exact inj (D.lst.inj hw) | exact inj (D.tup.inj hw) | cases hw
    subst this
    exact fin lot hlot
/-! ### rules beside rooms; tuples of rules -/
/-! ### rooms read from their texts -/
theorem nm_sign {w : Str} (h : nmS w = true) : ∀ c ∈ TL.tl w, c ∈ letters.cps.toList := fun c hc => by
  have h2 := (Bool.and_eq_true_iff.mp h).2
  exact of_decide_eq_true (List.all_eq_true.mp h2 c hc)
theorem nm_len {w : Str} (h : nmS w = true) : w.length ≤ 3 := by
  have h2 := (Bool.and_eq_true_iff.mp (Bool.and_eq_true_iff.mp h).1).2
  have h3 := of_decide_eq_true (Bool.and_eq_true_iff.mp h2).2
  omega
theorem nm_ne {w : Str} (h : nmS w = true) : w ≠ "" := fun e => by
  rw [e] at h
  exact absurd h (by decide +kernel)
structure RNm (r : Rl) : Prop where
  n : nmS r.1 = true
  w : ∀ w ∈ r.2, nmS w = true ∧ w ≠ r.1
  l : r.2.length ≤ 14
theorem nm_okR {w : Str} (h : nmS w = true) : NmOk w := ⟨Nat.le_trans (nm_len h) (by rw [sizeLine_eq]; decide), h⟩
theorem RNm.mem {r : Rl} (h : RNm r) : ∀ w ∈ r.1 :: r.2, nmS w = true := fun w hw => by
  rcases List.mem_cons.mp hw with rfl | hw
  · exact h.n
  · exact (h.w w hw).1
theorem parts_mem {r : Rl} {p : Str} (hp : p ∈ partsT r) : p = "if" ∨ p ∈ r.1 :: r.2 := by
  unfold partsT at hp
  split at hp
  · exact .inr (by rw [List.mem_singleton.mp hp]; simp)
  · rcases List.mem_cons.mp hp with rfl | hp
    · exact .inr (by simp)
    · rcases List.mem_cons.mp hp with rfl | hp
      · exact .inl rfl
      · exact .inr (by simp [hp])
theorem RNm.sign {r : Rl} (h : RNm r) {p : Str} (hp : p ∈ partsT r) : ∀ c ∈ TL.tl p, c ∈ letters.cps.toList := by
  rcases parts_mem hp with rfl | hp
  · decide +kernel
  · exact nm_sign (h.mem p hp)
theorem partsN {r : Rl} (h : RNm r) : Txt.split (ruleT r) " " = partsT r := by
  rw [ruleT_join]
  refine TL.split_join (y := " ") (s := 32) (S := []) (by decide +kernel) (by decide +kernel) ?_ fun p hp c => ?_
  · unfold partsT; split <;> simp
  · exact absurd (h.sign hp 32 c) (by decide +kernel)
theorem ruleT_lineN {r : Rl} (h : RNm r) : 10 ∉ TL.tl (ruleT r) := fun c => by
  rw [ruleT_join, TL.join_eq, TL.tl_join] at c
  rcases mem_joinL c with c | ⟨p, hp, c⟩
  · exact absurd c (by decide +kernel)
  · obtain ⟨w, hw, rfl⟩ := List.mem_map.mp hp
    exact absurd (h.sign hw 10 c) (by decide +kernel)
theorem linesN {os : List Rl} (h : ∀ r ∈ os, RNm r) (ne : os ≠ []) : Txt.split (roomT os) "\n" = os.map ruleT := by
  unfold roomT
  refine TL.split_join (y := "\n") (s := 10) (S := []) (by decide +kernel) (by decide +kernel) (fun e => ne (List.map_eq_nil_iff.mp e)) fun p hp => ?_
  obtain ⟨r, hr, rfl⟩ := List.mem_map.mp hp
  exact ruleT_lineN (h r hr)
theorem RNm.len {r : Rl} (h : RNm r) : (ruleT r).length ≤ 100 := ruleT_len h.l fun w hw => nm_len (h.mem w hw)
theorem roomT_len {os : List Rl} (h : ∀ r ∈ os, RNm r) : (roomT os).length ≤ 101 * os.length := by
  have := join_len "\n" (os.map ruleT)
  have sz := sum_le (ws := os.map ruleT) (b := 100) fun x hx => by
    obtain ⟨r, hr, rfl⟩ := List.mem_map.mp hx
    exact (h r hr).len
  have l2 : ("\n" : Str).length = 1 := by decide
  unfold roomT
  simp [l2] at this sz ⊢
  omega
theorem roomT_neN {os : List Rl} (h : ∀ r ∈ os, RNm r) (ne : os ≠ []) : roomT os ≠ "" := fun e => by
  have k := linesN h ne
  rw [e, show Txt.split ("" : Str) "\n" = [("" : Str)] from by decide +kernel] at k
  cases os with
  | nil => exact ne rfl
  | cons r rs =>
    have e1 := (List.cons.inj k).1.symm
    have k := partsN (h r (by simp))
    rw [e1, show Txt.split ("" : Str) " " = [("" : Str)] from by decide +kernel] at k
    have : (partsT r).head? = some r.1 := by unfold partsT; split <;> rfl
    rw [← k] at this
    exact nm_ne (h r (by simp)).n (Option.some.inj this).symm
theorem str_empty {s : Str} (h : s.length = 0) : s = "" := by
  obtain ⟨c⟩ := s
  have : c = #[] := Array.size_eq_zero_iff.mp h
  subst this
  rfl
def F_read_rule : FR := fun ds Φ => ∃ r : Rl, ds = [.str (ruleT r)] ∧ RNm r ∧ ∀ lot, GS.IsLot lot r.2 → Φ (.d (ruleO (r.1, lot)))
theorem ok_read_rule (T : Txt K mg a) (G_Rule_init : FnOk P w K mg base CX0 3 a.f_Rule_init a.fd_Rule_init ["self", "name", "gone"] (spB (ZZ K a) F_Rule_initN)) : FnOk P w K mg base CX0 5 a.f_read_rule a.fd_read_rule ["line"] (spR (ZZ K a) F_read_rule) := by
  refine T.F_read_rule.ok sc_read_rule (fun vs H Q E h => ?_) (fun cdv A outer s H vs Q E hr h => ?_)
  · obtain ⟨M, ds, Φ, _, al, ⟨r, rfl, _⟩, _⟩ := h
    exact al.len
  · obtain ⟨M, ds, Φ, ex, al, ⟨r, rfl, h0, fin⟩, q⟩ := h
    obtain ⟨_, V_Rule_init_1, B_Rule_init_1⟩ := T.b1_Rule_init
    have e1 : ∀ (M : Hp), AtL (ZZ K a) M [V.ref a.e_Rule_init] [.tup []] := fun M => AtL.one (At.tup (Z := ZZ K a) (vs := []) (ds := []) (T.t_Rule_init M) rfl (fun i v d h => by simp at h))
    refine ⟨_, (pss_cons (ps_asg (pe_split (pv 0) pe_str) (GX.pg_star rfl (pgs_cons (pg_name (i := 1) sc_read_rule.nd rfl (Or.inl rfl)) (pgs_cons (pg_name (i := 2) sc_read_rule.nd rfl (Or.inl rfl)) pgs_nil))))
      (pss_cons (ps_if (pt_not (pt_truth (pv 2) (by intro _; rfl))) (pss_one (ps_ret (pe_make T.mk_Rule G_Rule_init (hr.mono (by decide)) (by rfl) T.m_Rule B_Rule_init_1 V_Rule_init_1 pass0 (pa_cons (pv 1) pa_nil)))) pss_nil)
      (pss_cons (ps_if (PW.pt (pw_or (pt_cmpR op_ne (pe_ix (show IxR _ (rIx K) from ix_seq) (pv 2) pe_int (fun _ _ => rfl)) pe_str (nomark _)) (pw_or1 (pt_cmpR op_eq (pe_callB (show CallR _ (.builtin "len") (G.rLen K) from call_len) (by rfl) T.n_len PySem.boot_len (pa_cons (pv 2) pa_nil)) pe_int (nomark _))))) (pss_one ps_never) pss_nil)
      (pss_one (ps_ret (pe_make T.mk_Rule G_Rule_init (hr.mono (by decide)) (by rfl) T.m_Rule T.b_Rule_init .nil pass0 (pa_cons (pv 1) (pa_cons (pe_slice (show SlR _ (rSlL K) from sl_list) (pv 2) (po_some pe_int) po_none) pa_nil)))))))), entR (n := 2) ex al rfl q ?_⟩
    walk_at "ent"
    have ln := h0.len
    refine xs_seq <| xs_asgStar (by decide) (by decide) <| xe_ofO <| xo_split <| xe_var rfl ⟨_, rfl, xe_str ⟨_, rfl, by decide, by rw [sizeLine_eq]; omega, _, rfl, ?_⟩⟩
    rw [partsN h0]
    obtain ⟨n, ws⟩ := r
    cases ws with
    | nil =>
      refine ⟨.str n, [], rfl, by simp, by simp, ?_⟩
      try dsimp only [List.set]
      refine xs_freeze (i := 2) (by decide) rfl ?_
      try dsimp only [List.set]
      refine xs_seq <| xs_if <| xt_not <| xt_truth <| xe_var rfl ⟨nofun, _, rfl, if_nf ?_⟩
      exact xs_ret <| xe_make (c := 0) (dds := [.tup []]) rfl e1 <| xa_cons <| xe_var rfl <| xa_nil ⟨n, [], _, rfl, rfl, .inr rfl, nm_okR h0.n, by simp, by simp, fun lot hlot => ⟨rfl, _, rfl, rfl, fin lot hlot⟩⟩
    | cons w ws =>
      have hl := h0.l
      have ix0 : ixD (.lst ((("if" : Str) :: w :: ws).map .str)) 0 = some (.str "if") := (L2.atI_nat (xs := (("if" : Str) :: w :: ws).map D.str) (j := 0) (v := .str "if") rfl : atI ((("if" : Str) :: w :: ws).map D.str) ((0 : Nat) : Int) = _)
      refine ⟨.str n, (("if" : Str) :: w :: ws).map .str, rfl, by simp at hl ⊢; omega, by simp, ?_⟩
      try dsimp only [List.set]
      refine xs_freeze (i := 2) (by decide) rfl ?_
      try dsimp only [List.set]
      refine xs_seq <| xs_if <| xt_not <| xt_truth <| xe_var rfl ⟨nofun, _, rfl, if_nt <| xs_next ?_⟩
      refine xs_seq <| xs_if <| xt_or <| xt_test <| xe_ne <| xe_ix <| xe_var rfl <| xe_int ⟨_, .str "if", rfl, ix0, xe_str ⟨_, _, rfl, rfl, rfl, _, rfl, ?_⟩⟩
      rw [decide_eq_true rfl]
      refine if_ff <| xt_test <| xe_eq <| xe_len <| xe_var rfl ⟨_, rfl, xe_int ⟨_, _, rfl, rfl, rfl, _, rfl, ?_⟩⟩
      rw [decide_eq_false (fun e => by have := V.int.inj e; simp at this; omega)]
      refine if_ff <| xs_next ?_
      refine xs_ret <| xe_make (c := 0) rfl (fun _ => .nil) <| xa_cons <| xe_var rfl <| xa_cons <| xe_ofO <| xo_sl <| xe_var (d := .lst ((("if" : Str) :: w :: ws).map .str)) rfl <| xp_part <| xe_int ⟨_, rfl, xp_no ⟨_, rfl, _, rfl, ?_⟩⟩
      rw [cut_from (by omega) (by simp; omega), show List.drop (Int.toNat 1) ((("if" : Str) :: w :: ws).map D.str) = (w :: ws).map .str from by simp]
      exact xa_nil ⟨n, w :: ws, _, rfl, rfl, .inl rfl, nm_okR h0.n, fun x hx => ⟨nm_okR (h0.w x hx).1, (h0.w x hx).2⟩, hl, fun lot hlot => ⟨rfl, _, rfl, rfl, fin lot hlot⟩⟩
def F_read (C : Addr) : FR := fun ds Φ => ∃ rs : List Rl, ds = [.ref C, .str (roomT rs)] ∧ rs.length ≤ 200 ∧ (∀ r ∈ rs, RNm r) ∧ ((∀ r ∈ rs, GS.IsLot (lotC r.2) r.2) → ∀ ns, GS.IsLot ns (wantAll (rs.map lotR)) → Φ (.d (roomF (rs.map lotR) ns)))
theorem ok_read (T : Txt K mg a) (G_read_rule : FnOk P w K mg base CX0 5 a.f_read_rule a.fd_read_rule ["line"] (spR (ZZ K a) F_read_rule)) (G_Room_init : FnOk P w K mg base CX0 2 a.f_Room_init a.fd_Room_init ["self", "rules"] (spB (ZZ K a) F_Room_initF)) : FnOk P w K mg base CX0 6 a.f_Room_read a.fd_Room_read ["cls", "text"] (spR (ZZ K a) (F_read a.C_Room)) := by
  refine T.F_Room_read.ok sc_Room_read (fun vs H Q E h => ?_) (fun cdv A outer s H vs Q E hr h => ?_)
  · obtain ⟨M, ds, Φ, _, al, ⟨rs, rfl, _⟩, _⟩ := h
    exact al.len
  · obtain ⟨M, ds, Φ, ex, al, ⟨rs, rfl, h0, h1, fin⟩, q⟩ := h
    refine ⟨_, (pss_cons (ps_if (pt_not (pt_val (pe_callB call_isi (by rfl) T.n_isinstance (by decide +kernel) (pa_cons (pv 1) (pa_cons (pe_bltn (v := .ty "str") (u := .type "str") (by rfl) T.n_str (by decide +kernel) rfl) pa_nil))))) (pss_one ps_never) pss_nil)
      (pss_cons (ps_set (i := 2) sc_Room_read.nd rfl (Or.inl rfl) (pe_ifExp (pt_truth (pv 1) (by intro _; rfl)) (pe_split (pv 1) pe_str) (pe_lst pa_nil)))
      (pss_cons (ps_set (i := 3) sc_Room_read.nd rfl (Or.inl rfl) (pe_lst pa_nil))
      (pss_cons (ps_for PassesOwn.never rfl (pi_enum (by rfl) T.n_enumerate (pa_cons (pv 2) pa_nil)) (pg_tup rfl (pgs_cons (pg_name (i := 4) sc_Room_read.nd rfl (Or.inl rfl)) (pgs_cons (pg_name (i := 5) sc_Room_read.nd rfl (Or.inl rfl)) pgs_nil)))
      (pss_one (ps_try_thru0 (pss_one (ps_expr (pe_bm PySem.F.plainAttrs_list PySem.F.slot_list_append PySem.F.type_list_append mt_append (pv 3) (pa_cons (pe_call G_read_rule (hr.mono (by decide)) (by rfl) T.m_read_rule T.F_read_rule.kp T.b_read_rule .nil pass0 (pa_cons (pv 5) pa_nil)) pa_nil)))))))
      (pss_one (ps_ret (GX.pe_makeV (pv 0) T.mk_Room G_Room_init (hr.mono (by decide)) T.b_Room_init .nil pass0 (pa_cons (pv 3) pa_nil)))))))), entR (n := 4) ex al rfl q ?_⟩
    walk_at "ent"
    have tl := roomT_len h1
    have hsz : (roomT rs).length ≤ sizeLine := by rw [sizeLine_eq]; omega
    refine xs_seq <| xs_if <| xt_not <| xt_test <| xe_isi <| xe_var rfl ⟨_, _, rfl, rfl, _, rfl, if_nt <| xs_next ?_⟩
    refine xs_seq <| xs_set (by decide) <| joinE (α := List Str) (fun ts => ts = rs.map ruleT) (fun ts => .lst (ts.map .str)) (fun _ => [.d (.ref a.C_Room), .d (.str (roomT rs)), .no, .no, .no, .no]) (fun go => ?_) ?_
    · by_cases ne : rs = []
      · subst ne
        refine xr_if <| xt_truth <| xe_var rfl ⟨fun s e => by cases e; exact hsz, _, rfl, ?_⟩
        rw [roomT_nil]
        refine if_ff <| xe_ofO <| xo_lst <| xa_nil ⟨by simp, _, rfl, ?_⟩
        exact go [] rfl
      · have n0 : (roomT rs).length ≠ 0 := fun e => roomT_neN h1 ne (str_empty e)
        refine xr_if <| xt_truth <| xe_var rfl ⟨fun s e => by cases e; exact hsz, _, rfl, ?_⟩
        rw [show (decide ((roomT rs).length ≤ sizeLine) && ((roomT rs).length : Int) != 0) = true from by rw [decide_eq_true hsz]; simpa using n0]
        refine if_tt <| xe_ofO <| xo_split <| xe_var rfl ⟨_, rfl, xe_str ⟨_, rfl, by decide, by rw [sizeLine_eq]; omega, _, rfl, ?_⟩⟩
        rw [linesN h1 ne]
        exact go _ rfl
    · rintro ts rfl
      refine xs_seq <| xs_setO (by decide) <| xo_lst <| xa_nil ⟨by simp, by simp, ?_⟩
      try dsimp only [List.set]
      refine xs_seq <| xs_for (vs := [4, 5]) (xi_enum <| xe_var rfl ?_)
      refine ⟨_, rfl, fun m δ => ∃ s4 s5 : S, δ = [.d (.ref a.C_Room), .d (.str (roomT rs)), .d (.lst ((rs.map ruleT).map .str)), .own (.lst (((rs.take m).map lotR).map ruleO)), s4, s5] ∧ ∀ r ∈ rs.take m, GS.IsLot (lotC r.2) r.2, ⟨_, _, rfl, by simp⟩, ?_, ?_⟩
      · rintro m x δ1 hm ⟨s4, s5, rfl, h2⟩
        obtain ⟨x, hx, rfl⟩ := enumD_at hm
        obtain ⟨r, hr, rfl⟩ : ∃ r, rs[m]? = some r ∧ D.str (ruleT r) = x := by simpa using hx
        have lt := (List.getElem?_eq_some_iff.mp hr).1
        refine xg_tup (by rfl) (xgs_cons (xg_name (by decide) (by decide) (xgs_cons (xg_name (by decide) (by decide) (xgs_nil ?_)))))
        try dsimp only [List.set]
        refine xs_drop <| xe_app ⟨_, rfl⟩ <| xr_call (fun _ => .nil) <| xa_cons <| xe_var rfl <| xa_nil ⟨r, rfl, h1 r (List.mem_of_getElem? hr), fun lot hlot => on_d ⟨_, rfl, by simp; omega, ?_⟩⟩
        refine ⟨.d (.int m), .d (.str (ruleT r)), ?_, fun z hz => ?_⟩
        · rw [GS.take_get hr]
          simp [ruleO, lotR, lotC_is hlot]
        · rw [GS.take_get hr] at hz
          rcases List.mem_append.mp hz with hz | hz
          · exact h2 z hz
          · rw [List.mem_singleton.mp hz, lotC_is hlot]; exact hlot
      · rintro δ1 ⟨s4, s5, rfl, h2⟩
        rw [enumD_len, List.length_map, List.length_map, List.take_length] at h2 ⊢
        refine xs_freeze (i := 3) (by decide) rfl ?_
        try dsimp only [List.set]
        refine xs_ret <| xe_makeV rfl <| xe_make (c := 1) rfl (fun _ => .nil) <| xa_cons <| xe_var rfl <| xa_nil ⟨rs.map lotR, rfl, .inl rfl, by simp; omega, fun q hq => ?_, fun ns hns => ⟨rfl, _, rfl, rfl, fin h2 ns hns⟩⟩
        obtain ⟨r, hr, rfl⟩ := List.mem_map.mp hq
        have := nodup_len (GS.Asc.nodup (h2 r hr).asc) fun x hx => ((h2 r hr).mem x).mp hx
        have := (h1 r hr).l
        show (lotC r.2).length ≤ 14
        omega
def isStrs (d : D) (ws : List Str) : Prop := d = .lst (ws.map .str) ∨ d = .tup (ws.map .str)
def F_are_unlike : FR := fun ds Φ => ∃ d, ds = [d] ∧ okS d ∧ ∀ b, (b = true ↔ ∃ ws : List Str, isStrs d ws ∧ (∀ w ∈ ws, nmS w = true) ∧ ws.Nodup) → Φ (.d (.bl b))
theorem strs_inj {ws us : List Str} (h : ws.map D.str = us.map D.str) : ws = us := List.map_inj_right (fun _ _ e => D.str.inj e) |>.mp h
theorem isStrs_uniq {d : D} {ws us : List Str} (h : isStrs d ws) (k : isStrs d us) : ws = us := by
  rcases h with rfl | rfl <;> rcases k with k | k
  · exact strs_inj (D.lst.inj k)
  · cases k
  · cases k
  · exact strs_inj (D.tup.inj k)
theorem isStrs.len {d : D} {ws : List Str} (h : isStrs d ws) : lenD d = some ws.length := by
  rcases h with rfl | rfl <;> simp [lenD]
theorem len_iff {l ws : List Str} (h : ∀ x, x ∈ l ↔ x ∈ ws) (n : l.Nodup) : l.length = ws.length ↔ ws.Nodup :=
  ⟨fun e => (GS.perm_of_sub n (fun x => (h x).mp) e.symm).nodup_iff.mpr n, fun m => Nat.le_antisymm (nodup_len n fun x => (h x).mp) (nodup_len m fun x => (h x).mpr)⟩
theorem ok_are_unlike (T : Txt K mg a) (G_are_names : FnOk P w K mg base CX0 2 a.f_are_names a.fd_are_names ["value"] (spR (ZZ K a) F_are_names)) : FnOk P w K mg base CX0 3 a.f_are_unlike a.fd_are_unlike ["value"] (spR (ZZ K a) F_are_unlike) := by
  refine T.F_are_unlike.ok sc_are_unlike (fun vs H Q E h => ?_) (fun cdv A outer s H vs Q E hr h => ?_)
  · obtain ⟨M, ds, Φ, _, al, ⟨d, rfl, _⟩, _⟩ := h
    exact al.len
  · obtain ⟨M, ds, Φ, ex, al, ⟨d, rfl, hd, fin⟩, q⟩ := h
    refine ⟨_, (pss_one (ps_ret (pe_and (pe_call G_are_names (hr.mono (by decide)) (by rfl) T.m_are_names T.F_are_names.kp T.b_are_names .nil pass0 (pa_cons (pv 0) pa_nil)) (pe_one (pe_cmpR op_eq (pe_callB GS.cr_lenSet (by rfl) T.n_len PySem.boot_len (pa_cons (pe_callTy (GS.cr_set rfl) (by rfl) T.n_set (by decide +kernel) (pa_cons (pv 0) pa_nil)) pa_nil)) (pe_callB (show CallR _ (.builtin "len") (G.rLen K) from call_len) (by rfl) T.n_len PySem.boot_len (pa_cons (pv 0) pa_nil)) (nomark _)))))), entR (n := 0) ex al rfl q ?_⟩
    walk_at "ent"
    walk_at "ret"
    refine xr_call (fun _ => .nil) (xa_cons (xe_var rfl (xa_nil ⟨d, rfl, hd, on_d ⟨_, rfl, ?_⟩⟩)))
    by_cases c : areNm d = true
    · rw [if_pos c]
      obtain ⟨ws, hw, hn⟩ := areNm_iff.mp c
      have lw : ws.length ≤ 3000 := by
        rcases hw with rfl | rfl
        · simpa using (hd.2 _ (.inl rfl)).1
        · simpa using (hd.2 _ (.inr rfl)).1
      refine xe_eq (xe_lenSet rfl (xe_var rfl ⟨ws, hw, by omega, fun l h1 h2 => ?_⟩))
      walk_at "xs"
      refine ⟨_, isStrs.len hw, _, _, rfl, rfl, rfl, fin _ ⟨fun e => ⟨ws, hw, hn, (len_iff h1 h2).mp ?_⟩, fun ⟨us, h3, _, h4⟩ => ?_⟩⟩
      · have := V.int.inj (of_decide_eq_true e)
        omega
      · have := (len_iff h1 h2).mpr (isStrs_uniq hw h3 ▸ h4)
        simp [this]
    · rw [if_neg c]
      exact fin false ⟨nofun, fun ⟨ws, h1, h2, _⟩ => absurd (areNm_iff.mpr ⟨ws, h1, h2⟩) c⟩
/-! ### least sets that meet all of some sets, as numbers -/
def Sub (a b : Nat) : Prop := ∀ i, a.testBit i = true → b.testBit i = true
def Mts (a b : Nat) : Prop := ∃ i, a.testBit i = true ∧ b.testBit i = true
theorem and_sub {a b : Nat} : a &&& b = b ↔ Sub b a := by
  constructor
  · intro h i hi
    rw [← h, Nat.testBit_and, Bool.and_eq_true] at hi
    exact hi.1
  · intro h
    refine Nat.eq_of_testBit_eq fun i => ?_
    rw [Nat.testBit_and]
    cases e : b.testBit i with
    | false => simp
    | true => rw [h i e]; rfl
theorem and_mts {a b : Nat} : a &&& b ≠ 0 ↔ Mts a b := by
  constructor
  · intro h
    obtain ⟨i, hi⟩ := Nat.exists_testBit_of_ne_zero h
    rw [Nat.testBit_and, Bool.and_eq_true] at hi
    exact ⟨i, hi⟩
  · rintro ⟨i, h1, h2⟩ e
    have : (a &&& b).testBit i = true := by rw [Nat.testBit_and, h1, h2]; rfl
    rw [e, Nat.zero_testBit] at this
    cases this
theorem Sub.refl (a : Nat) : Sub a a := fun _ h => h
theorem Sub.trans {a b c : Nat} (h : Sub a b) (k : Sub b c) : Sub a c := fun i z => k i (h i z)
theorem Sub.eq {a b : Nat} (h : Sub a b) (k : Sub b a) : a = b := Nat.eq_of_testBit_eq fun i => by
  cases e : a.testBit i with
  | true => exact (h i e).symm
  | false =>
    cases f : b.testBit i with
    | false => rfl
    | true => rw [k i f] at e; cases e
theorem Sub.le {a b : Nat} (h : Sub a b) : a ≤ b := by
  have := and_sub.mpr h
  rw [← this]; exact Nat.and_le_left
theorem Mts.sub {a b c : Nat} (h : Mts a c) (k : Sub a b) : Mts b c := by
  obtain ⟨i, h1, h2⟩ := h
  exact ⟨i, k i h1, h2⟩
def Hits (ps : List Nat) (r : Nat) : Prop := ∀ p ∈ ps, Mts r p
theorem Hits.sub {ps : List Nat} {a b : Nat} (h : Hits ps a) (k : Sub a b) : Hits ps b := fun p hp => (h p hp).sub k
/-- r meets all, and nothing less does -/
structure MinHit (ps : List Nat) (r : Nat) : Prop where
  h : Hits ps r
  m : ∀ q, Sub q r → Hits ps q → q = r
theorem min_of {ps : List Nat} : ∀ (n : Nat) {r : Nat}, r ≤ n → Hits ps r → ∃ q, Sub q r ∧ MinHit ps q := fun n => by
  induction n with
  | zero =>
    intro r l h
    refine ⟨r, .refl r, h, fun q hq _ => ?_⟩
    have := hq.le; omega
  | succ n ih =>
    intro r l h
    by_cases c : ∃ q, Sub q r ∧ Hits ps q ∧ q ≠ r
    · obtain ⟨q, h1, h2, h3⟩ := c
      have := h1.le
      obtain ⟨q', s, m⟩ := ih (r := q) (by omega) h2
      exact ⟨q', s.trans h1, m⟩
    · refine ⟨r, .refl r, h, fun q hq hh => Classical.byContradiction fun z => c ⟨q, hq, hh, z⟩⟩
def ones (p : Nat) : List Nat := ((List.range 7).filter fun i => p.testBit i).map fun i => 2 ^ i
structure Least (ps : List Nat) (rs : List Nat) : Prop where
  nd : rs.Nodup
  is : ∀ r, r ∈ rs ↔ MinHit ps r
  lt : ∀ r ∈ rs, r < 128
theorem Least.len {ps rs : List Nat} (h : Least ps rs) : rs.length ≤ 128 := by
  have := h.nd.length_le_of_subset (l₂ := List.range 128) fun r hr => List.mem_range.mpr (h.lt r hr)
  simpa using this
theorem Least.nil : Least [] [0] := by
  refine ⟨by simp, fun r => ?_, by simp⟩
  rw [List.mem_singleton]
  constructor
  · intro e; subst e
    refine ⟨fun p hp => (nomatch hp), fun q hq _ => ?_⟩
    have := hq.le; omega
  · intro m
    exact (m.m 0 (fun i h => by rw [Nat.zero_testBit] at h; cases h) fun p hp => (nomatch hp)).symm
def wid (rs : List Nat) (p : Nat) : List Nat := rs.flatMap fun l => if l &&& p = 0 then (ones p).map fun o => l ||| o else []
def meet (rs : List Nat) (p : Nat) : List Nat := rs.filter fun l => decide (l &&& p ≠ 0)
def nxtL (rs : List Nat) (p : Nat) : List Nat := meet rs p ++ (wid rs p).filter fun l => !(meet rs p).any fun m => decide (l &&& m = m)
theorem or_pow {l e i : Nat} : (l ||| 2 ^ e).testBit i = (l.testBit i || decide (e = i)) := by
  rw [Nat.testBit_or, Nat.testBit_two_pow]
theorem mem_wid {rs : List Nat} {p r : Nat} : r ∈ wid rs p ↔ ∃ t e, t ∈ rs ∧ t &&& p = 0 ∧ e < 7 ∧ p.testBit e = true ∧ r = t ||| 2 ^ e := by
  unfold wid
  rw [List.mem_flatMap]
  constructor
  · rintro ⟨t, ht, h⟩
    split at h
    · rename_i c
      obtain ⟨o, ho, rfl⟩ := List.mem_map.mp h
      obtain ⟨e, he, rfl⟩ := List.mem_map.mp ho
      obtain ⟨h1, h2⟩ := List.mem_filter.mp he
      exact ⟨t, e, ht, c, List.mem_range.mp h1, h2, rfl⟩
    · cases h
  · rintro ⟨t, e, h1, h2, h3, h4, rfl⟩
    refine ⟨t, h1, ?_⟩
    rw [if_pos h2]
    exact List.mem_map.mpr ⟨2 ^ e, List.mem_map.mpr ⟨e, List.mem_filter.mpr ⟨List.mem_range.mpr h3, h4⟩, rfl⟩, rfl⟩
theorem bit_lt {p i : Nat} (hp : p < 128) (h : p.testBit i = true) : i < 7 := by
  refine Classical.byContradiction fun c => ?_
  have : p < 2 ^ i := Nat.lt_of_lt_of_le hp (Nat.pow_le_pow_right (n := 2) (by decide) (show 7 ≤ i by omega))
  rw [Nat.testBit_lt_two_pow this] at h
  cases h
theorem Least.next {ps rs : List Nat} {p : Nat} (h : Least ps rs) (hp : p < 128) : Least (ps ++ [p]) (nxtL rs p) := by
  have memM : ∀ m, m ∈ meet rs p ↔ MinHit ps m ∧ Mts m p := fun m => by
    unfold meet
    rw [List.mem_filter, h.is, decide_eq_true_eq, and_mts]
  have hitA : ∀ r, Hits (ps ++ [p]) r ↔ Hits ps r ∧ Mts r p := fun r =>
    ⟨fun k => ⟨fun q hq => k q (List.mem_append_left _ hq), k p (by simp)⟩, fun k q hq => (List.mem_append.mp hq).elim (k.1 q) fun e => by rw [List.mem_singleton.mp e]; exact k.2⟩
  have nm : ∀ {t : Nat}, t &&& p = 0 → ∀ i, t.testBit i = true → p.testBit i = true → False := fun {t} z i h1 h2 => and_mts.mpr ⟨i, h1, h2⟩ z
  have memW : ∀ r, (r ∈ (wid rs p).filter fun l => !(meet rs p).any fun m => decide (l &&& m = m)) ↔ r ∈ wid rs p ∧ ∀ m ∈ meet rs p, ¬ Sub m r := fun r => by
    rw [List.mem_filter]
    refine and_congr_right fun _ => ?_
    rw [Bool.not_eq_true', List.any_eq_false]
    refine forall_congr' fun m => forall_congr' fun hm => ?_
    rw [decide_eq_true_eq, and_sub]
  have isM : ∀ m ∈ meet rs p, MinHit (ps ++ [p]) m := fun m hm => by
    obtain ⟨h1, h2⟩ := (memM m).mp hm
    exact ⟨(hitA m).mpr ⟨h1.h, h2⟩, fun q hq hh => h1.m q hq ((hitA q).mp hh).1⟩
  refine ⟨?_, fun r => ?_, fun r hr => ?_⟩
  · unfold nxtL
    refine List.nodup_append.mpr ⟨h.nd.sublist List.filter_sublist, ?_, fun a ha b hb e => ?_⟩
    · refine List.Nodup.sublist List.filter_sublist ?_
      have go : ∀ {ts : List Nat}, ts.Nodup → (wid ts p).Nodup := fun {ts} nd => by
        induction ts with
        | nil => exact List.nodup_nil
        | cons t ts ih =>
          obtain ⟨n1, n2⟩ := List.nodup_cons.mp nd
          have e : wid (t :: ts) p = (if t &&& p = 0 then (ones p).map fun o => t ||| o else []) ++ wid ts p := rfl
          rw [e]
          refine List.nodup_append.mpr ⟨?_, ih n2, fun a ha b hb e => ?_⟩
          · split
            · rename_i z
              unfold ones
              rw [List.map_map]
              refine List.pairwise_map.mpr ((List.nodup_range.sublist List.filter_sublist).imp_of_mem fun {i j} hi hj ne e => ne ?_)
              have e : t ||| 2 ^ i = t ||| 2 ^ j := e
              have pi := (List.mem_filter.mp hi).2
              have : (t ||| 2 ^ j).testBit i = true := by rw [← e, or_pow]; simp
              rw [or_pow, Bool.or_eq_true, decide_eq_true_eq] at this
              rcases this with k | k
              · exact (nm z i k pi).elim
              · exact k.symm
            · exact List.nodup_nil
          · subst e
            split at ha
            · rename_i z
              obtain ⟨o, ho, e1⟩ := List.mem_map.mp ha
              obtain ⟨i, hi, rfl⟩ := List.mem_map.mp ho
              obtain ⟨t', j, h1, h2, h3, h4, e2⟩ := mem_wid.mp hb
              have pi := (List.mem_filter.mp hi).2
              refine n1 ?_
              have : t = t' := Nat.eq_of_testBit_eq fun k => by
                have b1 : a.testBit k = (t.testBit k || decide (i = k)) := by rw [← e1, or_pow]
                have b2 : a.testBit k = (t'.testBit k || decide (j = k)) := by rw [e2, or_pow]
                cases hpk : p.testBit k with
                | true =>
                  have f1 : t.testBit k = false := by cases c : t.testBit k with | false => rfl | true => exact (nm z k c hpk).elim
                  have f2 : t'.testBit k = false := by cases c : t'.testBit k with | false => rfl | true => exact (nm h2 k c hpk).elim
                  rw [f1, f2]
                | false =>
                  have g1 : decide (i = k) = false := decide_eq_false fun e => by rw [e, hpk] at pi; cases pi
                  have g2 : decide (j = k) = false := decide_eq_false fun e => by rw [e, hpk] at h4; cases h4
                  rw [g1, Bool.or_false] at b1
                  rw [g2, Bool.or_false] at b2
                  rw [← b1, ← b2]
              rw [this]; exact h1
            · cases ha
      exact go h.nd
    · subst e
      exact ((memW a).mp hb).2 a ha (.refl a)
  · unfold nxtL
    rw [List.mem_append, memW]
    constructor
    · rintro (hm | ⟨hw, no⟩)
      · exact isM r hm
      · obtain ⟨t, e, h1, h2, h3, h4, rfl⟩ := mem_wid.mp hw
        have mt := (h.is t).mp h1
        have st : Sub t (t ||| 2 ^ e) := fun i hi => by rw [or_pow, hi]; rfl
        have be : (t ||| 2 ^ e).testBit e = true := by rw [or_pow]; simp
        refine ⟨(hitA _).mpr ⟨mt.h.sub st, e, be, h4⟩, fun q hq hh => ?_⟩
        obtain ⟨hh1, i, qi, pi⟩ := (hitA q).mp hh
        have qe : q.testBit e = true := by
          have := hq i qi
          rw [or_pow, Bool.or_eq_true, decide_eq_true_eq] at this
          rcases this with k | k
          · exact (nm h2 i k pi).elim
          · rw [k]; exact qi
        obtain ⟨q0, s0, m0⟩ := min_of q (Nat.le_refl _) hh1
        by_cases c : Mts q0 p
        · exact (no q0 ((memM q0).mpr ⟨m0, c⟩) (s0.trans hq)).elim
        · have sub0 : Sub q0 t := fun i hi => by
            have := hq i (s0 i hi)
            rw [or_pow, Bool.or_eq_true, decide_eq_true_eq] at this
            rcases this with k | k
            · exact k
            · subst k; exact (c ⟨_, hi, h4⟩).elim
          have e0 : q0 = t := mt.m q0 sub0 m0.h
          refine hq.eq fun i hi => ?_
          rw [or_pow, Bool.or_eq_true, decide_eq_true_eq] at hi
          rcases hi with k | k
          · exact s0 i (e0 ▸ k)
          · exact k ▸ qe
    · intro mr
      obtain ⟨hr1, i, ri, pi⟩ := (hitA r).mp mr.h
      obtain ⟨r0, s0, m0⟩ := min_of r (Nat.le_refl _) hr1
      by_cases c : Mts r0 p
      · have : r0 = r := mr.m r0 s0 ((hitA r0).mpr ⟨m0.h, c⟩)
        exact .inl ((memM r).mpr ⟨this ▸ m0, i, ri, pi⟩)
      · have z : r0 &&& p = 0 := Classical.byContradiction fun k => c (and_mts.mp k)
        have st : Sub r0 (r0 ||| 2 ^ i) := fun k hk => by rw [or_pow, hk]; rfl
        have e1 : r0 ||| 2 ^ i = r := mr.m _ (fun k hk => by
          rw [or_pow, Bool.or_eq_true, decide_eq_true_eq] at hk
          rcases hk with k | k
          · exact s0 _ k
          · exact k ▸ ri) ((hitA _).mpr ⟨m0.h.sub st, i, by rw [or_pow]; simp, pi⟩)
        refine .inr ⟨mem_wid.mpr ⟨r0, i, (h.is r0).mpr m0, z, bit_lt hp pi, pi, e1.symm⟩, fun m hm sm => ?_⟩
        obtain ⟨mm, j, mj, pj⟩ := (memM m).mp hm
        have e2 : m = r := mr.m m sm ((hitA m).mpr ⟨mm.h, j, mj, pj⟩)
        have e3 : r0 = m := mm.m r0 (e2 ▸ s0) m0.h
        exact c ⟨j, e3 ▸ mj, pj⟩
  · unfold nxtL at hr
    rcases List.mem_append.mp hr with k | k
    · exact h.lt r (List.mem_filter.mp k).1
    · obtain ⟨t, e, h1, _, h3, _, rfl⟩ := mem_wid.mp ((memW r).mp k).1
      exact Nat.or_lt_two_pow (n := 7) (h.lt t h1) (Nat.pow_lt_pow_right (by decide) h3)
theorem intL_app (a b : List Nat) : intL (a ++ b) = intL a ++ intL b := by unfold intL; rw [List.map_append]
theorem ones_at : ∀ p : Fin 128, ((List.range (PySem.Builtin.Int.intBits (p.val : Int))).filter fun i => p.val.testBit i) = (List.range 7).filter fun i => p.val.testBit i := by decide +kernel
def F_ones : FR := fun ds Φ => ∃ p : Nat, ds = [.int p] ∧ p < 128 ∧ Φ (.own (.lst (intL (ones p))))
theorem ok_ones (T : Txt K mg a) : FnOk P w K mg base CX0 1 a.f_ones_of a.fd_ones_of ["bits"] (spR (ZZ K a) F_ones) := by
  refine T.F_ones_of.ok sc_ones_of (fun vs H Q E h => ?_) (fun cdv A outer s H vs Q E hr h => ?_)
  · obtain ⟨M, ds, Φ, _, al, ⟨p, rfl, _⟩, _⟩ := h
    exact al.len
  · obtain ⟨M, ds, Φ, ex, al, ⟨p, rfl, p128, fin⟩, q⟩ := h
    refine ⟨_, (pss_one (ps_ret (pe_lc (own := [("at", 1)]) (g := (gName 1))  rfl sc_ones_of.nd (pi_range1 (by rfl) T.n_range (pa_cons (pe_bits (pv 0)) pa_nil)) (blkOk_by (N := N_ones_of) (sc := defScope s_ones_of) (by decide +kernel)) (fun _ _ _ _ _ => (pg_name (i := 1) sc_ones_of.nd rfl (Or.inl rfl))) (fun _ _ _ _ _ => pts_one (pt_truthK (K := K) rfl (pe_op op_and (pe_op op_shr (pv 0) (pv 1)) pe_int) (by intro _; rfl))) (fun _ _ _ _ _ => (pe_op op_oneShl pe_int (pv 1)))))), entR (n := 1) ex al rfl q ?_⟩
    walk_at "ent"
    have lb : PySem.Builtin.Int.intBits (p : Int) ≤ 64 := (show ∀ p : Fin 128, PySem.Builtin.Int.intBits (p.val : Int) ≤ 64 by decide +kernel) ⟨p, p128⟩
    refine xs_retO <| xo_lc <| xi_rng1 <| xe_bits <| xe_var rfl ⟨_, rfl, _, rfl, by omega, by omega, by simp, by rw [rng_len]; omega, fun i acc δ => δ = [.d (.int p), .no] ∧ acc = intL (((List.range i).filter fun i => p.testBit i).map fun i => 2 ^ i), ⟨rfl, rfl⟩, ?_, ?_⟩
    · rintro i d acc δ1 bs hb hi ⟨rfl, rfl⟩
      obtain ⟨hi', rfl⟩ := rng_at hi
      rw [Int.toNat_natCast] at hi'
      refine xg_name (by decide) (hb 1 (by decide)) ?_
      try dsimp only [List.set]
      rw [show (0 : Int) + (i : Nat) = (i : Int) by omega]
      refine xt_truth <| xe_I0 <| xe_I <| xe_var rfl <| xe_var rfl ⟨_, _, rfl, rfl, Int.natCast_nonneg _, xe_int ⟨_, _, rfl, rfl, nofun, _, rfl, ?_⟩⟩
      have e : (PySem.Builtin.bitAnd ((p : Int) / 2 ^ ((i : Nat) : Int).toNat) 1 != 0) = p.testBit i := by
        rw [Int.toNat_natCast, show (p : Int) / 2 ^ i = ((p / 2 ^ i : Nat) : Int) from by simp, show (1 : Int) = ((1 : Nat) : Int) from rfl, band]
        rw [Nat.testBit, Nat.shiftRight_eq_div_pow, Nat.and_comm]
        generalize p / 2 ^ i &&& 1 = q
        rw [Bool.eq_iff_iff]
        simp only [bne_iff_ne, ne_eq]
        exact not_congr (by omega)
      rw [e]
      have step : intL (((List.range (i + 1)).filter fun i => p.testBit i).map fun i => 2 ^ i) = if p.testBit i = true then intL (((List.range i).filter fun i => p.testBit i).map fun i => 2 ^ i) ++ [.int ((2 ^ i : Nat) : Int)] else intL (((List.range i).filter fun i => p.testBit i).map fun i => 2 ^ i) := by
        rw [List.range_succ, List.filter_append]
        unfold intL
        cases c : p.testBit i <;> simp [c]
      cases c : p.testBit i with
      | true =>
        rw [if_pos rfl]
        rw [c, if_pos rfl] at step
        rw [step]
        have l7 := bit_lt p128 c
        refine xe_oneShl <| xe_int ⟨rfl, xe_var rfl ⟨i, rfl, by omega, rfl, ?_⟩⟩
        simp
      | false =>
        rw [if_neg (by simp)]
        rw [c, if_neg (by simp)] at step
        exact ⟨rfl, step.symm⟩
    · rintro acc δ1 ⟨rfl, rfl⟩
      rw [rng_len, Int.toNat_natCast, ones_at ⟨p, p128⟩]
      exact fin
def F_has_one : FR := fun ds Φ => ∃ (l : Nat) (ms : List Nat), ds = [.int l, .lst (intL ms)] ∧ ms.length ≤ 1000 ∧ Φ (.d (.bl (ms.any fun m => decide (l &&& m = m))))
theorem ok_has_one (T : Txt K mg a) : FnOk P w K mg base CX0 1 a.f_has_one_of a.fd_has_one_of ["bits", "lots"] (spR (ZZ K a) F_has_one) := by
  refine T.F_has_one_of.ok sc_has_one_of (fun vs H Q E h => ?_) (fun cdv A outer s H vs Q E hr h => ?_)
  · obtain ⟨M, ds, Φ, _, al, ⟨l, ms, rfl, _⟩, _⟩ := h
    exact al.len
  · obtain ⟨M, ds, Φ, ex, al, ⟨l, ms, rfl, hl, fin⟩, q⟩ := h
    refine ⟨_, (pss_one (ps_ret (pe_callB (cr_any rfl) (by rfl) T.n_any (by decide +kernel) (pa_cons (pe_lc (own := [("lot", 2)]) (g := (gName 2)) (tt := tYes) rfl sc_has_one_of.nd (pi_list (pv 1)) (blkOk_by (N := N_has_one_of) (sc := defScope s_has_one_of) (by decide +kernel)) (fun _ _ _ _ _ => (pg_name (i := 2) sc_has_one_of.nd rfl (Or.inl rfl))) (fun _ _ _ _ _ => pts_nil) (fun _ _ _ _ _ => (pe_cmpR op_eq (pe_op op_and (pv 0) (pv 2)) (pv 2) (nomark _)))) pa_nil)))), entR (n := 1) ex al rfl q ?_⟩
    walk_at "ent"
    refine xs_ret <| xe_any <| xe_ofO <| xo_fg (v := 2) (g := fun m : Nat => .int (m : Int)) (f := fun m : Nat => .bl (decide (l &&& m = m))) (p := fun _ => true) <| xi_list <| xe_var rfl ⟨_, .inl rfl, ms, rfl, rfl, by omega, fun m hm => xt_yes ⟨rfl, rfl, fun _ => ?_⟩, _, rfl, ms.map fun m => decide (l &&& m = m), ?_, ?_⟩
    · refine xe_eq <| xe_I0 <| xe_var rfl <| xe_var rfl ⟨_, _, rfl, rfl, xe_var rfl ⟨_, _, rfl, rfl, rfl, ?_, rfl⟩⟩
      rw [band]
      congr 1
      rw [decide_eq_decide]
      exact ⟨fun e => by have := V.int.inj e; omega, fun e => by rw [e]⟩
    · rw [List.filter_eq_self.mpr fun _ _ => rfl, List.map_map]; rfl
    · rw [List.any_map]
      exact fin
def F_least : FR := fun ds Φ => ∃ ps : List Nat, ds = [.lst (intL ps)] ∧ (∀ p ∈ ps, p < 128) ∧ ps.length ≤ 1000 ∧ ∀ rs, Least ps rs → Φ (.d (.lst (intL rs)))
theorem ok_least (T : Txt K mg a) (G_ones_of : FnOk P w K mg base CX0 1 a.f_ones_of a.fd_ones_of ["bits"] (spR (ZZ K a) F_ones)) (G_has_one_of : FnOk P w K mg base CX0 1 a.f_has_one_of a.fd_has_one_of ["bits", "lots"] (spR (ZZ K a) F_has_one)) : FnOk P w K mg base CX0 2 a.f_least_meeting a.fd_least_meeting ["parts"] (spR (ZZ K a) F_least) := by
  refine T.F_least_meeting.ok sc_least_meeting (fun vs H Q E h => ?_) (fun cdv A outer s H vs Q E hr h => ?_)
  · obtain ⟨M, ds, Φ, _, al, ⟨ps, rfl, _⟩, _⟩ := h
    exact al.len
  · obtain ⟨M, ds, Φ, ex, al, ⟨ps, rfl, p128, pl, fin⟩, q⟩ := h
    refine ⟨_, (pss_cons (ps_set (i := 1) sc_least_meeting.nd rfl (Or.inl rfl) (pe_lst (pa_cons pe_int pa_nil)))
      (pss_cons (ps_for PassesOwn.never rfl (pi_list (pv 0)) (pg_name (i := 2) sc_least_meeting.nd rfl (Or.inr rfl))
      (pss_cons (ps_set (i := 3) sc_least_meeting.nd rfl (Or.inr rfl) (pe_lc (own := [("lot", 5)]) (g := (gName 5))  rfl sc_least_meeting.nd (pi_list (pv 1)) (blkOk_by (N := N_least_meeting) (sc := defScope s_least_meeting) (by decide +kernel)) (fun _ _ _ _ _ => (pg_name (i := 5) sc_least_meeting.nd rfl (Or.inl rfl))) (fun _ _ _ _ _ => pts_one (pt_truthK (K := K) rfl (pe_op op_and (pv 5) (pv 2)) (by intro _; rfl))) (fun _ _ _ _ _ => (pv 5))))
      (pss_cons (ps_setLc2 (own := [("lot", 5), ("one", 6)]) (vs1 := [6]) (g := (gName 5)) (g1 := (gName 6))  (tt1 := tYes) (i := 4) rfl sc_least_meeting.nd rfl rfl (sw_true rfl rfl rfl (by decide +kernel)) (pi_list (pv 1)) (blkOk_by (N := N_least_meeting) (sc := defScope s_least_meeting) (by decide +kernel)) (by decide) (fun _ _ _ _ _ => (pg_name (i := 5) sc_least_meeting.nd rfl (Or.inl rfl))) (fun _ _ _ _ _ => pts_one (pt_not (pt_truthK (K := K) rfl (pe_op op_and (pv 5) (pv 2)) (by intro _; rfl)))) (fun _ _ _ _ _ => (pi_listK (K := K) rfl (pe_call G_ones_of (hr.mono (by decide)) (by rfl) T.m_ones_of T.F_ones_of.kp T.b_ones_of .nil pass0 (pa_cons (pv 2) pa_nil)))) (fun _ _ _ _ _ => (pg_name (i := 6) sc_least_meeting.nd rfl (Or.inl rfl))) (fun _ _ _ _ _ => pts_nil) (fun _ _ _ _ _ => (pe_op op_or (pv 5) (pv 6))))
      (pss_one (ps_set (i := 1) sc_least_meeting.nd rfl (Or.inl rfl) (pe_op op_cat (pv 3) (pe_lc (own := [("lot", 5)]) (g := (gName 5))  rfl sc_least_meeting.nd (pi_list (pv 4)) (blkOk_by (N := N_least_meeting) (sc := defScope s_least_meeting) (by decide +kernel)) (fun _ _ _ _ _ => (pg_name (i := 5) sc_least_meeting.nd rfl (Or.inl rfl))) (fun _ _ _ _ _ => pts_one (pt_not (pt_val (pe_call G_has_one_of (hr.mono (by decide)) (by rfl) T.m_has_one_of T.F_has_one_of.kp T.b_has_one_of .nil pass0 (pa_cons (pv 5) (pa_cons (pv 3) pa_nil)))))) (fun _ _ _ _ _ => (pv 5)))))))))
      (pss_one (ps_ret (pv 1))))), entR (n := 6) ex al rfl q ?_⟩
    walk_at "ent"
    refine xs_seq <| xs_set (by decide) <| xe_ofO <| xo_lst <| xa_cons <| xe_int <| xa_nil ⟨by simp, _, rfl, ?_⟩
    try dsimp only [List.set]
    refine xs_seq <| xs_for (vs := [2]) <| xi_list <| xe_var rfl ⟨_, .inl rfl, ?_⟩
    refine ⟨fun i δ => ∃ (rs : List Nat) (s2 s3 s4 : S), δ = [.d (.lst (intL ps)), .d (.lst (intL rs)), s2, s3, s4, .no, .no] ∧ Least (ps.take i) rs, ⟨[0], _, _, _, rfl, Least.nil⟩, ?_, ?_⟩
    · rintro i d δ1 hi ⟨rs, s2, s3, s4, rfl, le⟩
      obtain ⟨p, hp, rfl⟩ : ∃ p : Nat, ps[i]? = some p ∧ D.int p = d := by simpa [intL] using hi
      have pm := p128 p (List.mem_of_getElem? hp)
      have l128 := le.len
      refine xg_name (by decide) (by decide) ?_
      try dsimp only [List.set]
      refine xs_seq <| xs_set (by decide) <| xe_ofO <| xo_fg (v := 5) (g := fun l : Nat => .int (l : Int)) (f := fun l : Nat => .int (l : Int)) (p := fun l => decide (l &&& p ≠ 0)) <| xi_list <| xe_var rfl ⟨_, .inl rfl, rs, rfl, rfl, by omega, fun l hl => ?_, _, rfl, ?_⟩
      · try dsimp only [List.set]
        refine xt_truth <| xe_I0 <| xe_var rfl <| xe_var rfl ⟨_, _, rfl, rfl, nofun, _, rfl, ?_, rfl, fun _ => xe_var rfl ⟨rfl, rfl⟩⟩
        rw [band, Bool.eq_iff_iff]
        simp
      try dsimp only [List.set]
      have lm : (meet rs p).length ≤ 128 := Nat.le_trans (List.length_filter_le _ _) l128
      have lo : (ones p).length ≤ 7 := by
        unfold ones
        rw [List.length_map]
        exact Nat.le_trans (List.length_filter_le _ _) (by simp)
      refine xs_seq <| xs_set (by decide) <| xe_ofO <| xo_lc2 <| xi_list <| xe_var rfl ⟨_, .inl rfl, by simp, by simp, by unfold intL; rw [List.length_map]; omega, ?_⟩
      refine ⟨fun j acc δ => δ = [.d (.lst (intL ps)), .d (.lst (intL rs)), .d (.int p), .d (.lst (intL (meet rs p))), s4, .no, .no] ∧ acc = intL (wid (rs.take j) p), ⟨rfl, rfl⟩, ?_, ?_⟩
      · rintro j d acc δ1 bs hb hj ⟨rfl, rfl⟩
        obtain ⟨l, hl, rfl⟩ : ∃ l : Nat, rs[j]? = some l ∧ D.int l = d := by simpa [intL] using hj
        have tk : wid (rs.take (j + 1)) p = wid (rs.take j) p ++ (if l &&& p = 0 then (ones p).map fun o => l ||| o else []) := by
          rw [GS.take_get hl]; unfold wid; simp
        refine xg_name (by decide) (hb 5 (by decide)) ?_
        try dsimp only [List.set]
        refine xt_not <| xt_truth <| xe_I0 <| xe_var rfl <| xe_var rfl ⟨_, _, rfl, rfl, nofun, _, rfl, ?_⟩
        rw [band]
        by_cases z : l &&& p = 0
        · rw [if_pos z] at tk
          rw [z]
          refine if_nf <| xi_list <| xe_ofO <| xr_call (fun _ => .nil) <| xa_cons <| xe_var rfl <| xa_nil ⟨p, rfl, pm, on_o ⟨_, rfl, _, .inl rfl, by unfold intL; rw [List.length_map]; omega, by simp, ?_⟩⟩
          refine ⟨fun k acc δ => δ = [.d (.lst (intL ps)), .d (.lst (intL rs)), .d (.int p), .d (.lst (intL (meet rs p))), s4, .d (.int l), .no] ∧ acc = intL (wid (rs.take j) p ++ ((ones p).take k).map fun o => l ||| o), ⟨rfl, by simp⟩, ?_, ?_⟩
          · rintro k e acc δ5 bs5 hb5 hk ⟨rfl, rfl⟩
            obtain ⟨o, ho, rfl⟩ : ∃ o : Nat, (ones p)[k]? = some o ∧ D.int o = e := by simpa [intL] using hk
            refine xg_name (by decide) (hb5 6 (by decide)) ?_
            try dsimp only [List.set]
            refine xt_yes <| if_tt <| xe_I0 <| xe_var rfl <| xe_var rfl ⟨_, _, rfl, rfl, rfl, ?_⟩
            rw [bor, GS.take_get ho, List.map_append, ← List.append_assoc]
            simp only [intL_app]
            rfl
          · rintro acc δ5 ⟨rfl, rfl⟩
            have : (intL (ones p)).length = (ones p).length := by unfold intL; rw [List.length_map]
            rw [this, List.take_length, ← tk]
            exact ⟨rfl, rfl⟩
        · rw [if_neg z, List.append_nil] at tk
          rw [show (((l &&& p : Nat) : Int) != 0) = true by simpa using z]
          exact if_nt ⟨rfl, by rw [tk]⟩
      rintro acc δ1 ⟨rfl, rfl⟩
      have lrs : (intL rs).length = rs.length := by unfold intL; rw [List.length_map]
      rw [lrs, List.take_length]
      refine ⟨_, rfl, ?_⟩
      try dsimp only [List.set]
      have lw : (wid rs p).length ≤ 1000 := by
        have go : ∀ ts : List Nat, (wid ts p).length ≤ 7 * ts.length := fun ts => by
          induction ts with
          | nil => simp [wid]
          | cons t ts ih =>
            have e : wid (t :: ts) p = (if t &&& p = 0 then (ones p).map fun o => t ||| o else []) ++ wid ts p := rfl
            rw [e, List.length_append, List.length_cons]
            split
            · rw [List.length_map]; omega
            · simp; omega
        have := go rs
        omega
      refine xs_set (by decide) <| xe_ofO <| xo_cat <| xe_var rfl <| xe_ofO <| xo_fg (v := 5) (g := fun l : Nat => .int (l : Int)) (f := fun l : Nat => .int (l : Int)) (p := fun l => !(meet rs p).any fun m => decide (l &&& m = m)) <| xi_list <| xe_var rfl ⟨_, .inl rfl, wid rs p, rfl, rfl, by omega, fun l hl => ?_, _, rfl, _, _, rfl, rfl, ?_, _, rfl, nxtL rs p, .d (.int p), .d (.lst (intL (meet rs p))), .d (.lst (intL (wid rs p))), ?_, ?_⟩
      · try dsimp only [List.set]
        refine xt_not <| xt_B <| xr_call (fun _ => .nil) <| xa_cons <| xe_var rfl <| xa_cons <| xe_var rfl <| xa_nil ⟨l, meet rs p, rfl, by omega, on_d ⟨_, rfl, ?_⟩⟩
        exact ⟨rfl, rfl, fun _ => xe_var rfl ⟨rfl, rfl⟩⟩
      · have := List.length_filter_le (fun l => !(meet rs p).any fun m => decide (l &&& m = m)) (wid rs p)
        unfold intL
        rw [List.length_map, List.length_map]
        omega
      · show _ = [S.d (D.lst (intL ps)), S.d (D.lst (intL (nxtL rs p))), S.d (D.int p), S.d (D.lst (intL (meet rs p))), S.d (D.lst (intL (wid rs p))), S.no, S.no]
        unfold nxtL
        rw [intL_app]
        rfl
      · rw [GS.take_get hp]
        exact le.next pm
    · rintro δ1 ⟨rs, s2, s3, s4, rfl, le⟩
      have : (intL ps).length = ps.length := by unfold intL; rw [List.length_map]
      rw [this, List.take_length] at le
      exact xs_ret <| xe_var rfl <| fin rs le
/-! ### points -/
abbrev Pt := Str × Int × Int
def ptD (p : Pt) : D := .tup [.str p.1, .int p.2.1, .int p.2.2]
def Sml (i : Int) : Prop := -(2 ^ 40) ≤ i ∧ i ≤ 2 ^ 40
structure PtOk (p : Pt) : Prop where
  n : NmOk p.1
  s : PyData.strOk p.1 = true
  x : Sml p.2.1
  y : Sml p.2.2
def turnI (p a b : Pt) : Int := (a.2.1 - p.2.1) * (b.2.2 - p.2.2) - (a.2.2 - p.2.2) * (b.2.1 - p.2.1)
def openI (p a b : Pt) : Int := (a.2.1 - p.2.1) * (b.2.1 - p.2.1) + (a.2.2 - p.2.2) * (b.2.2 - p.2.2)
def Btw (p a b : Pt) : Prop := turnI p a b = 0 ∧ openI p a b < 0
instance (p a b : Pt) : Decidable (Btw p a b) := inferInstanceAs (Decidable (_ ∧ _))
def Ins (p a b c : Pt) : Prop := (0 < turnI p a b ∧ 0 < turnI p b c ∧ 0 < turnI p c a) ∨ (turnI p a b < 0 ∧ turnI p b c < 0 ∧ turnI p c a < 0)
instance (p a b c : Pt) : Decidable (Ins p a b c) := inferInstanceAs (Decidable (_ ∨ _))
theorem sml_sub {i j : Int} (h : Sml i) (k : Sml j) : -(2 ^ 90) ≤ i - j ∧ i - j ≤ 2 ^ 90 := by
  obtain ⟨h1, h2⟩ := h
  obtain ⟨k1, k2⟩ := k
  omega
def F_turn : FR := fun ds Φ => ∃ p a b : Pt, ds = [ptD p, ptD a, ptD b] ∧ PtOk p ∧ PtOk a ∧ PtOk b ∧ Φ (.d (.int (turnI p a b)))
theorem ok_turn (T : Txt K mg a) : FnOk P w K mg base CX0 1 a.f_turn a.fd_turn ["point", "first", "second"] (spR (ZZ K a) F_turn) := by
  refine T.F_turn.ok sc_turn (fun vs H Q E h => ?_) (fun cdv A outer s H vs Q E hr h => ?_)
  · obtain ⟨M, ds, Φ, _, al, ⟨p, a, b, rfl, _⟩, _⟩ := h
    exact al.len
  · obtain ⟨M, ds, Φ, ex, al, ⟨p, u, v, rfl, hp, hu, hv, fin⟩, q⟩ := h
    refine ⟨_, (pss_one (ps_ret (pe_op op_sub (pe_op op_mulW (pe_op op_sub (pe_ix (show IxR _ (rIx K) from ix_seq) (pv 1) pe_int (fun _ _ => rfl)) (pe_ix (show IxR _ (rIx K) from ix_seq) (pv 0) pe_int (fun _ _ => rfl))) (pe_op op_sub (pe_ix (show IxR _ (rIx K) from ix_seq) (pv 2) pe_int (fun _ _ => rfl)) (pe_ix (show IxR _ (rIx K) from ix_seq) (pv 0) pe_int (fun _ _ => rfl)))) (pe_op op_mulW (pe_op op_sub (pe_ix (show IxR _ (rIx K) from ix_seq) (pv 1) pe_int (fun _ _ => rfl)) (pe_ix (show IxR _ (rIx K) from ix_seq) (pv 0) pe_int (fun _ _ => rfl))) (pe_op op_sub (pe_ix (show IxR _ (rIx K) from ix_seq) (pv 2) pe_int (fun _ _ => rfl)) (pe_ix (show IxR _ (rIx K) from ix_seq) (pv 0) pe_int (fun _ _ => rfl))))))), entR (n := 0) ex al rfl q ?_⟩
    walk_at "ent"
    refine xs_ret <| xe_I0 <| xe_I <| xe_I0 <| xe_ix <| xe_var rfl <| xe_int ⟨1, _, rfl, rfl, xe_ix <| xe_var rfl <| xe_int ⟨1, _, rfl, rfl, _, _, rfl, rfl, ?_⟩⟩
    refine xe_I0 <| xe_ix <| xe_var rfl <| xe_int ⟨2, _, rfl, rfl, xe_ix <| xe_var rfl <| xe_int ⟨2, _, rfl, rfl, _, _, rfl, rfl, _, _, rfl, rfl, mulw (sml_sub hu.x hp.x) (sml_sub hv.y hp.y), ?_⟩⟩
    refine xe_I <| xe_I0 <| xe_ix <| xe_var rfl <| xe_int ⟨2, _, rfl, rfl, xe_ix <| xe_var rfl <| xe_int ⟨2, _, rfl, rfl, _, _, rfl, rfl, ?_⟩⟩
    exact xe_I0 <| xe_ix <| xe_var rfl <| xe_int ⟨1, _, rfl, rfl, xe_ix <| xe_var rfl <| xe_int ⟨1, _, rfl, rfl, _, _, rfl, rfl, _, _, rfl, rfl, mulw (sml_sub hu.y hp.y) (sml_sub hv.x hp.x), _, _, rfl, rfl, fin⟩⟩
def F_opened : FR := fun ds Φ => ∃ p a b : Pt, ds = [ptD p, ptD a, ptD b] ∧ PtOk p ∧ PtOk a ∧ PtOk b ∧ Φ (.d (.int (openI p a b)))
theorem ok_opened (T : Txt K mg a) : FnOk P w K mg base CX0 1 a.f_opened a.fd_opened ["point", "first", "second"] (spR (ZZ K a) F_opened) := by
  refine T.F_opened.ok sc_opened (fun vs H Q E h => ?_) (fun cdv A outer s H vs Q E hr h => ?_)
  · obtain ⟨M, ds, Φ, _, al, ⟨p, a, b, rfl, _⟩, _⟩ := h
    exact al.len
  · obtain ⟨M, ds, Φ, ex, al, ⟨p, u, v, rfl, hp, hu, hv, fin⟩, q⟩ := h
    refine ⟨_, (pss_one (ps_ret (pe_op op_add (pe_op op_mulW (pe_op op_sub (pe_ix (show IxR _ (rIx K) from ix_seq) (pv 1) pe_int (fun _ _ => rfl)) (pe_ix (show IxR _ (rIx K) from ix_seq) (pv 0) pe_int (fun _ _ => rfl))) (pe_op op_sub (pe_ix (show IxR _ (rIx K) from ix_seq) (pv 2) pe_int (fun _ _ => rfl)) (pe_ix (show IxR _ (rIx K) from ix_seq) (pv 0) pe_int (fun _ _ => rfl)))) (pe_op op_mulW (pe_op op_sub (pe_ix (show IxR _ (rIx K) from ix_seq) (pv 1) pe_int (fun _ _ => rfl)) (pe_ix (show IxR _ (rIx K) from ix_seq) (pv 0) pe_int (fun _ _ => rfl))) (pe_op op_sub (pe_ix (show IxR _ (rIx K) from ix_seq) (pv 2) pe_int (fun _ _ => rfl)) (pe_ix (show IxR _ (rIx K) from ix_seq) (pv 0) pe_int (fun _ _ => rfl))))))), entR (n := 0) ex al rfl q ?_⟩
    walk_at "ent"
    refine xs_ret <| xe_I0 <| xe_I <| xe_I0 <| xe_ix <| xe_var rfl <| xe_int ⟨1, _, rfl, rfl, xe_ix <| xe_var rfl <| xe_int ⟨1, _, rfl, rfl, _, _, rfl, rfl, ?_⟩⟩
    refine xe_I0 <| xe_ix <| xe_var rfl <| xe_int ⟨1, _, rfl, rfl, xe_ix <| xe_var rfl <| xe_int ⟨1, _, rfl, rfl, _, _, rfl, rfl, _, _, rfl, rfl, mulw (sml_sub hu.x hp.x) (sml_sub hv.x hp.x), ?_⟩⟩
    refine xe_I <| xe_I0 <| xe_ix <| xe_var rfl <| xe_int ⟨2, _, rfl, rfl, xe_ix <| xe_var rfl <| xe_int ⟨2, _, rfl, rfl, _, _, rfl, rfl, ?_⟩⟩
    exact xe_I0 <| xe_ix <| xe_var rfl <| xe_int ⟨2, _, rfl, rfl, xe_ix <| xe_var rfl <| xe_int ⟨2, _, rfl, rfl, _, _, rfl, rfl, _, _, rfl, rfl, mulw (sml_sub hu.y hp.y) (sml_sub hv.y hp.y), _, _, rfl, rfl, fin⟩⟩
def F_between : FR := fun ds Φ => ∃ p a b : Pt, ds = [ptD p, ptD a, ptD b] ∧ PtOk p ∧ PtOk a ∧ PtOk b ∧ Φ (.d (.bl (decide (Btw p a b))))
theorem ok_between (T : Txt K mg a) (G_turn : FnOk P w K mg base CX0 1 a.f_turn a.fd_turn ["point", "first", "second"] (spR (ZZ K a) F_turn)) (G_opened : FnOk P w K mg base CX0 1 a.f_opened a.fd_opened ["point", "first", "second"] (spR (ZZ K a) F_opened)) : FnOk P w K mg base CX0 2 a.f_is_between a.fd_is_between ["point", "first", "second"] (spR (ZZ K a) F_between) := by
  refine T.F_is_between.ok sc_is_between (fun vs H Q E h => ?_) (fun cdv A outer s H vs Q E hr h => ?_)
  · obtain ⟨M, ds, Φ, _, al, ⟨p, a, b, rfl, _⟩, _⟩ := h
    exact al.len
  · obtain ⟨M, ds, Φ, ex, al, ⟨p, u, v, rfl, hp, hu, hv, fin⟩, q⟩ := h
    refine ⟨_, (pss_one (ps_ret (pe_and (pe_cmpR op_eq (pe_call G_turn (hr.mono (by decide)) (by rfl) T.m_turn T.F_turn.kp T.b_turn .nil pass0 (pa_cons (pv 0) (pa_cons (pv 1) (pa_cons (pv 2) pa_nil)))) pe_int (nomark _)) (pe_one (pe_cmpR op_lt (pe_call G_opened (hr.mono (by decide)) (by rfl) T.m_opened T.F_opened.kp T.b_opened .nil pass0 (pa_cons (pv 0) (pa_cons (pv 1) (pa_cons (pv 2) pa_nil)))) pe_int (nomark _)))))), entR (n := 0) ex al rfl q ?_⟩
    walk_at "ent"
    refine xs_ret <| xe_andV <| xe_eq <| xr_call (fun _ => .nil) <| xa_cons <| xe_var rfl <| xa_cons <| xe_var rfl <| xa_cons <| xe_var rfl <| xa_nil ⟨p, u, v, rfl, hp, hu, hv, on_d <| xe_int ⟨_, _, rfl, rfl, rfl, _, rfl, ?_⟩⟩
    by_cases c : turnI p u v = 0
    · rw [c, decide_eq_true rfl]
      refine if_tt <| xe_B0 <| xr_call (fun _ => .nil) <| xa_cons <| xe_var rfl <| xa_cons <| xe_var rfl <| xa_cons <| xe_var rfl <| xa_nil ⟨p, u, v, rfl, hp, hu, hv, on_d <| xe_int ⟨_, _, rfl, rfl, ?_⟩⟩
      rw [show decide (Btw p u v) = decide (openI p u v < 0) from by unfold Btw; simp [c]] at fin
      exact fin
    · rw [show decide (V.int (turnI p u v) = V.int 0) = false from decide_eq_false fun e => c (V.int.inj e)]
      rw [show decide (Btw p u v) = false from by unfold Btw; simp [c]] at fin
      exact if_ff fin
theorem min_pos {x y z m : Int} (hm : m ∈ [x, y, z]) (le : ∀ n ∈ [x, y, z], m ≤ n) : (0 < m ↔ 0 < x ∧ 0 < y ∧ 0 < z) := by
  have h1 := le x (by simp)
  have h2 := le y (by simp)
  have h3 := le z (by simp)
  simp only [List.mem_cons, List.not_mem_nil, or_false] at hm
  constructor
  · intro h; omega
  · rintro ⟨a, b, c⟩
    rcases hm with rfl | rfl | rfl <;> assumption
theorem max_neg {x y z m : Int} (hm : m ∈ [x, y, z]) (le : ∀ n ∈ [x, y, z], n ≤ m) : (m < 0 ↔ x < 0 ∧ y < 0 ∧ z < 0) := by
  have h1 := le x (by simp)
  have h2 := le y (by simp)
  have h3 := le z (by simp)
  simp only [List.mem_cons, List.not_mem_nil, or_false] at hm
  constructor
  · intro h; omega
  · rintro ⟨a, b, c⟩
    rcases hm with rfl | rfl | rfl <;> assumption
theorem xe_min1 {Z : Wd} {δ : List S} {te : TE} {Φ : D → List S → Prop} (h : XE Z te δ fun d δ1 => ∃ ns : List Int, d = .lst (ns.map .int) ∧ ns ≠ [] ∧ ∀ m ∈ ns, (∀ y ∈ ns, m ≤ y) → Φ (.int m) δ1) : XE Z (tCB (rMin Z.K) (tCons te tNil)) δ Φ := XE.mk fun B W M H σ Q I q =>
  h.run I fun M1 H1 δ1 x a h1 e1 I1 at1 => by
    obtain ⟨ns, rfl, ne, f⟩ := h1
    cases at1 with
    | @lst p us _ k l c =>
      have := AtL.ints (Z := Z) (M := M1) ⟨l, c⟩
      subst this
      exact ⟨p, ns, rfl, SqL.of (I1.ex _ _ k), List.length_pos_iff.mpr ne, fun m hm low => q M1 H1 δ1 _ _ (f m hm low) e1 I1 .int⟩
def F_inside : FR := fun ds Φ => ∃ p a b c : Pt, ds = [ptD p, ptD a, ptD b, ptD c] ∧ PtOk p ∧ PtOk a ∧ PtOk b ∧ PtOk c ∧ Φ (.d (.bl (decide (Ins p a b c))))
theorem ok_inside (T : Txt K mg a) (G_turn : FnOk P w K mg base CX0 1 a.f_turn a.fd_turn ["point", "first", "second"] (spR (ZZ K a) F_turn)) : FnOk P w K mg base CX0 2 a.f_is_inside a.fd_is_inside ["point", "first", "second", "third"] (spR (ZZ K a) F_inside) := by
  refine T.F_is_inside.ok sc_is_inside (fun vs H Q E h => ?_) (fun cdv A outer s H vs Q E hr h => ?_)
  · obtain ⟨M, ds, Φ, _, al, ⟨p, a, b, c, rfl, _⟩, _⟩ := h
    exact al.len
  · obtain ⟨M, ds, Φ, ex, al, ⟨p, u, v, x, rfl, hp, hu, hv, hx, fin⟩, q⟩ := h
    refine ⟨_, (pss_cons (ps_set (i := 4) sc_is_inside.nd rfl (Or.inl rfl) (pe_lst (pa_cons (pe_call G_turn (hr.mono (by decide)) (by rfl) T.m_turn T.F_turn.kp T.b_turn .nil pass0 (pa_cons (pv 0) (pa_cons (pv 1) (pa_cons (pv 2) pa_nil)))) (pa_cons (pe_call G_turn (hr.mono (by decide)) (by rfl) T.m_turn T.F_turn.kp T.b_turn .nil pass0 (pa_cons (pv 0) (pa_cons (pv 2) (pa_cons (pv 3) pa_nil)))) (pa_cons (pe_call G_turn (hr.mono (by decide)) (by rfl) T.m_turn T.F_turn.kp T.b_turn .nil pass0 (pa_cons (pv 0) (pa_cons (pv 3) (pa_cons (pv 1) pa_nil)))) pa_nil)))))
      (pss_one (ps_ret (pe_or (pe_cmpR op_gt (pe_callB (cr_min rfl) (by rfl) T.n_min (by decide +kernel) (pa_cons (pv 4) pa_nil)) pe_int (nomark _)) (pe_one (pe_cmpR op_lt (pe_callB (cr_max rfl) (by rfl) T.n_max (by decide +kernel) (pa_cons (pv 4) pa_nil)) pe_int (nomark _))))))), entR (n := 1) ex al rfl q ?_⟩
    walk_at "ent"
    refine xs_seq <| xs_set (by decide) <| xe_ofO <| xo_lst <| xa_cons <| xr_call (fun _ => .nil) <| xa_cons <| xe_var rfl <| xa_cons <| xe_var rfl <| xa_cons <| xe_var rfl <| xa_nil ⟨p, u, v, rfl, hp, hu, hv, on_d <| xa_cons <| xr_call (fun _ => .nil) <| xa_cons <| xe_var rfl <| xa_cons <| xe_var rfl <| xa_cons <| xe_var rfl <| xa_nil ⟨p, v, x, rfl, hp, hv, hx, on_d <| xa_cons <| xr_call (fun _ => .nil) <| xa_cons <| xe_var rfl <| xa_cons <| xe_var rfl <| xa_cons <| xe_var rfl <| xa_nil ⟨p, x, u, rfl, hp, hx, hu, on_d <| xa_nil ⟨by simp, _, rfl, ?_⟩⟩⟩⟩
    try dsimp only [List.set]
    refine xs_ret <| xe_orV <| xe_B0 <| xe_min1 <| xe_var rfl ⟨[turnI p u v, turnI p v x, turnI p x u], rfl, by simp, fun m hm le => xe_int ⟨_, _, rfl, rfl, _, rfl, ?_⟩⟩
    have pos := min_pos hm le
    by_cases c1 : 0 < m
    · rw [show decide (Ins p u v x) = true from decide_eq_true (.inl (pos.mp c1))] at fin
      rw [show decide (m > 0) = true from decide_eq_true c1]
      exact if_tt fin
    · rw [show decide (m > 0) = false from decide_eq_false c1]
      refine if_ff <| xe_B0 <| xe_maxI <| xe_var rfl ⟨[turnI p u v, turnI p v x, turnI p x u], rfl, by simp, fun m' hm' le' => xe_int ⟨_, _, rfl, rfl, ?_⟩⟩
      have neg := max_neg hm' le'
      have e : decide (Ins p u v x) = decide (m' < 0) := by
        rw [Bool.eq_iff_iff, decide_eq_true_eq, decide_eq_true_eq]
        exact ⟨fun h => h.elim (fun h => absurd (pos.mpr h) c1) fun h => neg.mpr h, fun h => .inr (neg.mp h)⟩
      rw [e] at fin
      exact fin
/-! ### values that are no drawing -/
theorem xe_isiTyR {Z : Wd} {δ : List S} {te : TE} {Φ : D → List S → Prop} {m : String} (h : XE Z te δ fun d δ1 => ∃ t b, TyD Z d t ∧ PySem.W.kitOne Z.K t (.type m) = some b ∧ Φ (.bl b) δ1) : XE Z (tCB (rIsi Z.K) (tCons te (tCons (tC (.ty m)) tNil))) δ Φ := XE.mk fun B W M H σ Q I q =>
  h.run I fun M1 H1 δ1 x a h1 e1 I1 at1 => by
    obtain ⟨t, b, e, k, f⟩ := h1
    exact ⟨x, .ty m, t, .type m, b, rfl, .ty m, at1.tyR I1.ex e, k, q M1 H1 δ1 _ _ f e1 I1 .bl⟩
def isTup : D → Option (List D) | .tup xs => some xs | _ => none
def SeqK (K : PySem.W.Frag) (a : Ads) (d : D) : Prop := ∃ t, TyD (ZZ K a) d t ∧ PySem.W.kitAny K t [.type "list", .type "tuple"] = some (seqOf d).isSome
def TupK (K : PySem.W.Frag) (a : Ads) (d : D) : Prop := ∃ t, TyD (ZZ K a) d t ∧ PySem.W.kitOne K t (.type "tuple") = some (isTup d).isSome
/-- any value that a drawing may hold -/
structure AnyE (K : PySem.W.Frag) (a : Ads) (d : D) : Prop where
  t : TupK K a d
  s : ∀ xs, d = .tup xs → okS d
theorem tupK_ty {d : D} {n : String} (h : tyD d = some n) : TupK K a d := by
  refine ⟨_, .ty h, ?_⟩
  have : kitB n "tuple" = some (isTup d).isSome := by
    cases d <;> first | (cases h; done) | (cases h; rfl)
  exact kit_ty this
theorem seqK_ty {d : D} {n : String} (h : tyD d = some n) : SeqK K a d := by
  refine ⟨_, .ty h, ?_⟩
  rw [kit_seq' h]
  cases d <;> first | (cases h; done) | (cases h; rfl)
theorem anyE_s {d : D} (h : okS d) : AnyE K a d := by
  obtain ⟨⟨⟨t, ht⟩, _⟩, _⟩ := id h
  exact ⟨tupK_ty ht, fun _ _ => h⟩
def isLen (n : Nat) (d : D) : Bool := match isTup d with | some xs => decide (xs.length = n) | none => false
def F_tuple_of (K : PySem.W.Frag) (a : Ads) : FR := fun ds Φ => ∃ (d : D) (n : Nat), ds = [d, .int n] ∧ TupK K a d ∧ Φ (.d (.bl (isLen n d)))
theorem ok_tuple_of (T : Txt K mg a) : FnOk P w K mg base CX0 1 a.f_is_tuple_of a.fd_is_tuple_of ["value", "many"] (spR (ZZ K a) (F_tuple_of K a)) := by
  refine T.F_is_tuple_of.ok sc_is_tuple_of (fun vs H Q E h => ?_) (fun cdv A outer s H vs Q E hr h => ?_)
  · obtain ⟨M, ds, Φ, _, al, ⟨d, n, rfl, _⟩, _⟩ := h
    exact al.len
  · obtain ⟨M, ds, Φ, ex, al, ⟨d, n, rfl, ⟨t, ht, hk⟩, fin⟩, q⟩ := h
    refine ⟨_, (pss_one (ps_ret (pe_and (pe_callB call_isi (by rfl) T.n_isinstance (by decide +kernel) (pa_cons (pv 0) (pa_cons (pe_bltn (v := .ty "tuple") (u := .type "tuple") (by rfl) T.n_tuple (by decide +kernel) rfl) pa_nil))) (pe_one (pe_cmpR op_eq (pe_callB (show CallR _ (.builtin "len") (G.rLen K) from call_len) (by rfl) T.n_len PySem.boot_len (pa_cons (pv 0) pa_nil)) (pv 1) (nomark _)))))), entR (n := 0) ex al rfl q ?_⟩
    walk_at "ent"
    refine xs_ret <| xe_andV <| xe_isiTyR <| xe_var rfl ⟨t, _, ht, hk, _, rfl, ?_⟩
    unfold isLen at fin
    cases e : isTup d with
    | none =>
      rw [e] at fin
      exact if_ff fin
    | some xs =>
      rw [e] at fin
      have : d = .tup xs := by cases d <;> first | (cases e; done) | (cases e; rfl)
      subst this
      refine if_tt <| xe_eq <| xe_len <| xe_var rfl ⟨xs.length, rfl, xe_var rfl ⟨_, _, rfl, rfl, rfl, ?_⟩⟩
      rw [show decide (V.int (xs.length : Int) = V.int (n : Int)) = decide (xs.length = n) from by
        rw [decide_eq_decide]; exact ⟨fun h => by have := V.int.inj h; omega, fun h => by rw [h]⟩]
      exact fin
def isI : D → Bool | .int _ => true | _ => false
def F_is_intB : FR := fun ds Φ => ∃ d, ds = [d] ∧ (∃ t, tyD d = some t) ∧ Φ (.d (.bl (isI d)))
theorem ok_is_intB (T : Txt K mg a) : FnOk P w K mg base CX0 1 a.f_is_int a.fd_is_int ["value"] (spR (ZZ K a) F_is_intB) := by
  refine T.F_is_int.ok sc_is_int (fun vs H Q E h => ?_) (fun cdv A outer s H vs Q E hr h => ?_)
  · obtain ⟨M, ds, Φ, _, al, ⟨d, rfl, _⟩, _⟩ := h
    exact al.len
  · obtain ⟨M, ds, Φ, ex, al, ⟨d, rfl, ⟨t, ht⟩, fin⟩, q⟩ := h
    refine ⟨_, (pss_one (ps_ret (pe_and (pe_callB call_isi (by rfl) T.n_isinstance (by decide +kernel) (pa_cons (pv 0) (pa_cons (pe_bltn (v := .ty "int") (u := .type "int") (by rfl) T.n_int (by decide +kernel) rfl) pa_nil))) (pe_one (pe_not (pe_callB call_isi (by rfl) T.n_isinstance (by decide +kernel) (pa_cons (pv 0) (pa_cons (pe_bltn (v := .ty "bool") (u := .type "bool") (by rfl) T.n_bool (by decide +kernel) rfl) pa_nil)))))))), entR (n := 0) ex al rfl q ?_⟩
    walk_at "ent"
    cases d with
    | int i =>
      refine xs_ret <| xe_andV <| xe_isi <| xe_var rfl ⟨_, _, rfl, rfl, _, rfl, if_tt ?_⟩
      exact xe_notV <| xe_isi <| xe_var rfl ⟨_, _, rfl, rfl, _, rfl, fin⟩
    | bl b =>
      refine xs_ret <| xe_andV <| xe_isi <| xe_var rfl ⟨_, _, rfl, rfl, _, rfl, if_tt ?_⟩
      exact xe_notV <| xe_isi <| xe_var rfl ⟨_, _, rfl, rfl, _, rfl, fin⟩
    | non => exact xs_ret <| xe_andV <| xe_isi <| xe_var rfl ⟨_, _, rfl, rfl, _, rfl, if_ff fin⟩
    | str s => exact xs_ret <| xe_andV <| xe_isi <| xe_var rfl ⟨_, _, rfl, rfl, _, rfl, if_ff fin⟩
    | lst s => exact xs_ret <| xe_andV <| xe_isi <| xe_var rfl ⟨_, _, rfl, rfl, _, rfl, if_ff fin⟩
    | tup s => exact xs_ret <| xe_andV <| xe_isi <| xe_var rfl ⟨_, _, rfl, rfl, _, rfl, if_ff fin⟩
    | _ => cases ht
def isPtB (d : D) : Bool := match isTup d with | some [x, y, z] => isNm x && (isI y && isI z) | _ => false
def F_is_point (K : PySem.W.Frag) (a : Ads) : FR := fun ds Φ => ∃ d : D, ds = [d] ∧ AnyE K a d ∧ Φ (.d (.bl (isPtB d)))
theorem ok_is_point (T : Txt K mg a) (G_is_name : FnOk P w K mg base CX0 1 a.f_is_name a.fd_is_name ["value"] (spR (ZZ K a) F_is_name)) (G_is_int : FnOk P w K mg base CX0 1 a.f_is_int a.fd_is_int ["value"] (spR (ZZ K a) F_is_intB)) (G_is_tuple_of : FnOk P w K mg base CX0 1 a.f_is_tuple_of a.fd_is_tuple_of ["value", "many"] (spR (ZZ K a) (F_tuple_of K a))) : FnOk P w K mg base CX0 2 a.f_is_point a.fd_is_point ["value"] (spR (ZZ K a) (F_is_point K a)) := by
  refine T.F_is_point.ok sc_is_point (fun vs H Q E h => ?_) (fun cdv A outer s H vs Q E hr h => ?_)
  · obtain ⟨M, ds, Φ, _, al, ⟨d, rfl, _⟩, _⟩ := h
    exact al.len
  · obtain ⟨M, ds, Φ, ex, al, ⟨d, rfl, any, fin⟩, q⟩ := h
    refine ⟨_, (pss_one (ps_ret (pe_and (pe_call G_is_tuple_of (hr.mono (by decide)) (by rfl) T.m_is_tuple_of T.F_is_tuple_of.kp T.b_is_tuple_of .nil pass0 (pa_cons (pv 0) (pa_cons pe_int pa_nil))) (pe_and (pe_call G_is_name (hr.mono (by decide)) (by rfl) T.m_is_name T.F_is_name.kp T.b_is_name .nil pass0 (pa_cons (pe_ix (show IxR _ (rIx K) from ix_seq) (pv 0) pe_int (fun _ _ => rfl)) pa_nil)) (pe_and (pe_call G_is_int (hr.mono (by decide)) (by rfl) T.m_is_int T.F_is_int.kp T.b_is_int .nil pass0 (pa_cons (pe_ix (show IxR _ (rIx K) from ix_seq) (pv 0) pe_int (fun _ _ => rfl)) pa_nil)) (pe_one (pe_call G_is_int (hr.mono (by decide)) (by rfl) T.m_is_int T.F_is_int.kp T.b_is_int .nil pass0 (pa_cons (pe_ix (show IxR _ (rIx K) from ix_seq) (pv 0) pe_int (fun _ _ => rfl)) pa_nil)))))))), entR (n := 0) ex al rfl q ?_⟩
    walk_at "ent"
    refine xs_ret <| xe_andV <| xr_call (fun _ => .nil) <| xa_cons <| xe_var rfl <| xa_cons <| xe_int <| xa_nil ⟨d, 3, rfl, any.t, on_d ⟨_, rfl, ?_⟩⟩
    by_cases c : ∃ x y z, d = .tup [x, y, z]
    · obtain ⟨x, y, z, rfl⟩ := c
      obtain ⟨_, hs⟩ := any.s _ rfl
      obtain ⟨_, hx⟩ := hs _ (.inr rfl)
      have ox := hx x (by simp)
      obtain ⟨⟨ty, hy⟩, _⟩ := hx y (by simp)
      obtain ⟨⟨tz, hz⟩, _⟩ := hx z (by simp)
      have fin : Φ (.d (.bl (isNm x && (isI y && isI z)))) := fin
      refine if_tt <| xe_andV <| xr_call (fun _ => .nil) <| xa_cons <| xe_ix <| xe_var rfl <| xe_int ⟨0, x, rfl, rfl, xa_nil ⟨x, rfl, ox, on_d ⟨_, rfl, ?_⟩⟩⟩
      cases e1 : isNm x with
      | false => rw [e1] at fin; exact if_ff fin
      | true =>
        rw [e1] at fin
        refine if_tt <| xe_andV <| xr_call (fun _ => .nil) <| xa_cons <| xe_ix <| xe_var rfl <| xe_int ⟨1, y, rfl, rfl, xa_nil ⟨y, rfl, ⟨ty, hy⟩, on_d ⟨_, rfl, ?_⟩⟩⟩
        cases e2 : isI y with
        | false => rw [e2] at fin; exact if_ff fin
        | true =>
          rw [e2] at fin
          exact if_tt <| xr_call (fun _ => .nil) <| xa_cons <| xe_ix <| xe_var rfl <| xe_int ⟨2, z, rfl, rfl, xa_nil ⟨z, rfl, ⟨tz, hz⟩, on_d fin⟩⟩
    · have e1 : isLen 3 d = false ∧ isPtB d = false := by
        unfold isLen isPtB
        cases e : isTup d with
        | none => exact ⟨rfl, rfl⟩
        | some xs =>
          have : d = .tup xs := by cases d <;> first | (cases e; done) | (cases e; rfl)
          subst this
          match xs with
          | [] => exact ⟨rfl, rfl⟩
          | [_] => exact ⟨rfl, rfl⟩
          | [_, _] => exact ⟨rfl, rfl⟩
          | [x, y, z] => exact absurd ⟨x, y, z, rfl⟩ c
          | _ :: _ :: _ :: _ :: r => exact ⟨decide_eq_false (by simp), rfl⟩
      rw [e1.1]
      rw [e1.2] at fin
      exact if_ff fin
theorem okS_pt {p : Pt} (h : PtOk p) : okS (ptD p) := by
  refine ⟨⟨⟨_, rfl⟩, nofun⟩, fun xs hx => ?_⟩
  obtain rfl : xs = [.str p.1, .int p.2.1, .int p.2.2] := by
    rcases hx with hx | hx
    · cases hx
    · exact (D.tup.inj hx).symm
  refine ⟨by simp, fun x hx => ?_⟩
  simp only [List.mem_cons, List.not_mem_nil, or_false] at hx
  rcases hx with rfl | rfl | rfl
  · exact ⟨⟨_, rfl⟩, fun s e => by cases e; exact h.n.1⟩
  · exact ⟨⟨_, rfl⟩, nofun⟩
  · exact ⟨⟨_, rfl⟩, nofun⟩
theorem isPt_pt {p : Pt} (h : PtOk p) : isPtB (ptD p) = true := by
  show (isNm (.str p.1) && (true && true)) = true
  rw [show isNm (.str p.1) = true from h.n.2]; rfl
/-! ### the lots around a point -/
theorem eqv_iI (a b : Int) : PyData.eqv (.int a) (.int b) = decide (a = b) := by
  unfold PyData.eqv
  rfl
theorem eqv_sS' (a b : Str) : PyData.eqv (.str a) (.str b) = decide (a = b) := by
  unfold PyData.eqv
  rfl
theorem eqv_pt (p q : Pt) : PyData.eqv (py (ptD p)) (py (ptD q)) = decide (p = q) := by
  have h : PyData.eqv (py (ptD p)) (py (ptD q)) = (PyData.eqv (.str p.1) (.str q.1) && (PyData.eqv (.int p.2.1) (.int q.2.1) && (PyData.eqv (.int p.2.2) (.int q.2.2) && true))) := rfl
  rw [h, eqv_sS', eqv_iI, eqv_iI, Bool.and_true, Bool.eq_iff_iff, Bool.and_eq_true, Bool.and_eq_true, decide_eq_true_iff, decide_eq_true_iff, decide_eq_true_iff, decide_eq_true_iff]
  exact ⟨fun h => Prod.ext h.1 (Prod.ext h.2.1 h.2.2), fun h => by rw [h]; exact ⟨rfl, rfl, rfl⟩⟩
theorem shp_pt {p : Pt} (h : PyData.strOk p.1 = true) : SeqAt.shaped (py (ptD p)) = true := by
  show ((PyData.tuple [PyData.str p.1, PyData.int p.2.1, PyData.int p.2.2]).canLay0 && decide ((PyData.tuple [PyData.str p.1, PyData.int p.2.1, PyData.int p.2.2]).depth ≤ 64)) = true
  simp [PyData.canLay0, PyData.canLay0.eq_6, PyData.depth, PyData.canLayAll0, PyData.depthAll, h]
def AroB (rest : List Pt) (p : Pt) (L : Nat → Nat → Prop) (q : List Str) : Prop :=
  (∃ i j a b, j < i ∧ L i j ∧ rest[i]? = some a ∧ rest[j]? = some b ∧ Btw p a b ∧ q = [a.1, b.1]) ∨
  (∃ i j k a b c, k < j ∧ j < i ∧ L i j ∧ rest[i]? = some a ∧ rest[j]? = some b ∧ rest[k]? = some c ∧ Ins p a b c ∧ q = [a.1, b.1, c.1])
theorem AroB.mono {rest : List Pt} {p : Pt} {L L' : Nat → Nat → Prop} (h : ∀ i j, j < i → i < rest.length → (L i j ↔ L' i j)) {q : List Str} : AroB rest p L q ↔ AroB rest p L' q := by
  have lt : ∀ {i a}, rest[i]? = some a → i < rest.length := fun h => (List.getElem?_eq_some_iff.mp h).1
  constructor
  · rintro (⟨i, j, a, b, h1, h2, h3, h4⟩ | ⟨i, j, k, a, b, c, h1, h2, h3, h4, h5⟩)
    · exact .inl ⟨i, j, a, b, h1, (h i j h1 (lt h3)).mp h2, h3, h4⟩
    · exact .inr ⟨i, j, k, a, b, c, h1, h2, (h i j h2 (lt h4)).mp h3, h4, h5⟩
  · rintro (⟨i, j, a, b, h1, h2, h3, h4⟩ | ⟨i, j, k, a, b, c, h1, h2, h3, h4, h5⟩)
    · exact .inl ⟨i, j, a, b, h1, (h i j h1 (lt h3)).mpr h2, h3, h4⟩
    · exact .inr ⟨i, j, k, a, b, c, h1, h2, (h i j h2 (lt h4)).mpr h3, h4, h5⟩
theorem AroB.step {rest : List Pt} {p a b : Pt} {n m : Nat} (hm : m < n) (ha : rest[n]? = some a) (hb : rest[m]? = some b) {q : List Str} : AroB rest p (fun i j => i < n ∨ (i = n ∧ j < m + 1)) q ↔ AroB rest p (fun i j => i < n ∨ (i = n ∧ j < m)) q ∨ (Btw p a b ∧ q = [a.1, b.1]) ∨ ∃ c ∈ rest.take m, Ins p a b c ∧ q = [a.1, b.1, c.1] := by
  constructor
  · rintro (⟨i, j, a', b', h1, h2, h3, h4, h5, h6⟩ | ⟨i, j, k, a', b', c, h1, h2, h3, h4, h5, h6, h7, h8⟩)
    · by_cases e : i = n ∧ j = m
      · obtain ⟨rfl, rfl⟩ := e
        rw [ha] at h3; rw [hb] at h4
        cases h3; cases h4
        exact .inr (.inl ⟨h5, h6⟩)
      · exact .inl (.inl ⟨i, j, a', b', h1, by omega, h3, h4, h5, h6⟩)
    · by_cases e : i = n ∧ j = m
      · obtain ⟨rfl, rfl⟩ := e
        rw [ha] at h4; rw [hb] at h5
        cases h4; cases h5
        exact .inr (.inr ⟨c, List.mem_iff_getElem?.mpr ⟨k, by rw [List.getElem?_take_of_lt h1]; exact h6⟩, h7, h8⟩)
      · exact .inl (.inr ⟨i, j, k, a', b', c, h1, h2, by omega, h4, h5, h6, h7, h8⟩)
  · rintro ((⟨i, j, a', b', h1, h2, h3, h4⟩ | ⟨i, j, k, a', b', c, h1, h2, h3, h4⟩) | ⟨h1, h2⟩ | ⟨c, h1, h2, h3⟩)
    · exact .inl ⟨i, j, a', b', h1, by omega, h3, h4⟩
    · exact .inr ⟨i, j, k, a', b', c, h1, h2, by omega, h4⟩
    · exact .inl ⟨n, m, a, b, hm, by omega, ha, hb, h1, h2⟩
    · obtain ⟨k, hk⟩ := List.mem_iff_getElem?.mp h1
      have := (List.getElem?_eq_some_iff.mp hk).1
      rw [List.length_take] at this
      rw [List.getElem?_take_of_lt (by omega)] at hk
      exact .inr ⟨n, m, k, a, b, c, by omega, hm, by omega, ha, hb, hk, h2, h3⟩
theorem AroB.row {rest : List Pt} {p : Pt} {n : Nat} {q : List Str} : AroB rest p (fun i j => i < n + 1) q ↔ AroB rest p (fun i j => i < n ∨ (i = n ∧ j < n)) q := AroB.mono fun i j h1 h2 => by omega
theorem AroB.row0 {rest : List Pt} {p : Pt} {n : Nat} {q : List Str} : AroB rest p (fun i j => i < n ∨ (i = n ∧ j < 0)) q ↔ AroB rest p (fun i j => i < n) q := AroB.mono fun i j h1 h2 => by omega
def restOf (ps : List Pt) (p : Pt) : List Pt := ps.filter fun q => decide (q ≠ p)
def F_around : FR := fun ds Φ => ∃ (ps : List Pt) (p : Pt) (d : D), ds = [d, ptD p] ∧ (d = .lst (ps.map ptD) ∨ d = .tup (ps.map ptD)) ∧ ps.length ≤ 7 ∧ (∀ q ∈ ps, PtOk q) ∧ PtOk p ∧ ∀ qs : List (List Str), qs.length ≤ 400 → (∀ q, q ∈ qs ↔ AroB (restOf ps p) p (fun _ _ => True) q) → Φ (.own (.lst (qs.map lotD)))
theorem ok_around (T : Txt K mg a) (G_is_between : FnOk P w K mg base CX0 2 a.f_is_between a.fd_is_between ["point", "first", "second"] (spR (ZZ K a) F_between)) (G_is_inside : FnOk P w K mg base CX0 2 a.f_is_inside a.fd_is_inside ["point", "first", "second", "third"] (spR (ZZ K a) F_inside)) : FnOk P w K mg base CX0 3 a.f_around a.fd_around ["points", "point"] (spR (ZZ K a) F_around) := by
  refine T.F_around.ok sc_around (fun vs H Q E h => ?_) (fun cdv A outer s H vs Q E hr h => ?_)
  · obtain ⟨M, ds, Φ, _, al, ⟨ps, p, d, rfl, _⟩, _⟩ := h
    exact al.len
  · obtain ⟨M, ds, Φ, ex, al, ⟨ps, p, d, rfl, hd, l7, ok, hp, fin⟩, q⟩ := h
    refine ⟨_, (pss_cons (ps_setLc (own := [("other", 8)]) (g := (gName 8))  (i := 2) rfl sc_around.nd rfl rfl (sw_true rfl rfl rfl (by decide +kernel)) (G.pi_or (pi_list (pv 0)) (pi_tupK (K := K) rfl (pv 0))) (blkOk_by (N := N_around) (sc := defScope s_around) (by decide +kernel)) (fun _ _ _ _ _ => (pg_name (i := 8) sc_around.nd rfl (Or.inl rfl))) (fun _ _ _ _ _ => pts_one (pt_cmpR (show OpR _ (compareOp .NotEq) (rNeD K) from op_neD hr.units) (pv 8) (pv 1) (nomark _))) (fun _ _ _ _ _ => (pv 8)))
      (pss_cons (ps_set (i := 3) sc_around.nd rfl (Or.inl rfl) (pe_lst pa_nil))
      (pss_cons (ps_for PassesOwn.never rfl (pi_enum (by rfl) T.n_enumerate (pa_cons (pv 2) pa_nil)) (pg_tup rfl (pgs_cons (pg_name (i := 4) sc_around.nd rfl (Or.inl rfl)) (pgs_cons (pg_name (i := 5) sc_around.nd rfl (Or.inr rfl)) pgs_nil)))
      (pss_one (ps_for PassesOwn.never rfl (pi_enum (by rfl) T.n_enumerate (pa_cons (pe_slice (show SlR _ (rSlL K) from sl_list) (pv 2) po_none (po_some (pv 4))) pa_nil)) (pg_tup rfl (pgs_cons (pg_name (i := 6) sc_around.nd rfl (Or.inl rfl)) (pgs_cons (pg_name (i := 7) sc_around.nd rfl (Or.inr rfl)) pgs_nil)))
      (pss_cons (ps_if (pt_val (pe_call G_is_between (hr.mono (by decide)) (by rfl) T.m_is_between T.F_is_between.kp T.b_is_between .nil pass0 (pa_cons (pv 1) (pa_cons (pv 5) (pa_cons (pv 7) pa_nil))))) (pss_one (ps_expr (pe_bm PySem.F.plainAttrs_list PySem.F.slot_list_append PySem.F.type_list_append mt_append (pv 3) (pa_cons (pe_tup (pa_cons (pe_ix (show IxR _ (rIx K) from ix_seq) (pv 5) pe_int (fun _ _ => rfl)) (pa_cons (pe_ix (show IxR _ (rIx K) from ix_seq) (pv 7) pe_int (fun _ _ => rfl)) pa_nil))) pa_nil)))) pss_nil)
      (pss_one (ps_expr (pe_bm PySem.F.plainAttrs_list PySem.F.slot_list_extend PySem.F.type_list_extend mt_extend (pv 3) (pa_cons (pe_lc (own := [("third", 9)]) (g := (gName 9))  rfl sc_around.nd (pi_list (pe_slice (show SlR _ (rSlL K) from sl_list) (pv 2) po_none (po_some (pv 6)))) (blkOk_by (N := N_around) (sc := defScope s_around) (by decide +kernel)) (fun _ _ _ _ _ => (pg_name (i := 9) sc_around.nd rfl (Or.inl rfl))) (fun _ _ _ _ _ => pts_one (pt_val (pe_call G_is_inside (hr.mono (by decide)) (by rfl) T.m_is_inside T.F_is_inside.kp T.b_is_inside .nil pass0 (pa_cons (pv 1) (pa_cons (pv 5) (pa_cons (pv 7) (pa_cons (pv 9) pa_nil))))))) (fun _ _ _ _ _ => (pe_tup (pa_cons (pe_ix (show IxR _ (rIx K) from ix_seq) (pv 5) pe_int (fun _ _ => rfl)) (pa_cons (pe_ix (show IxR _ (rIx K) from ix_seq) (pv 7) pe_int (fun _ _ => rfl)) (pa_cons (pe_ix (show IxR _ (rIx K) from ix_seq) (pv 9) pe_int (fun _ _ => rfl)) pa_nil)))))) pa_nil))))))))
      (pss_one (ps_ret (pv 3)))))), entR (n := 8) ex al rfl q ?_⟩
    walk_at "ent"
    refine xs_seq <| xs_set (by decide) <| xe_ofO <| xo_fg (v := 8) (g := ptD) (f := ptD) (p := fun q => decide (q ≠ p)) <| xi_seqV rfl hd ⟨ps, rfl, rfl, by omega, fun x hx => ?_, _, rfl, ?_⟩
    · try dsimp only [List.set]
      refine xt_test <| xe_neD <| xe_var rfl <| xe_var rfl ⟨rfl, rfl, shp_pt (ok x hx).s, shp_pt hp.s, _, rfl, ?_, rfl, fun _ => xe_var rfl ⟨rfl, rfl⟩⟩
      rw [eqv_pt]
      by_cases c : x = p
      · simp [c]
      · simp [c]
    have rl : (restOf ps p).length ≤ 7 := Nat.le_trans (List.length_filter_le _ _) l7
    have rok : ∀ q ∈ restOf ps p, PtOk q := fun q hq => ok q (List.mem_filter.mp hq).1
    change XS _ _ _ (List.set _ _ (S.d (D.lst ((restOf ps p).map ptD)))) _
    generalize hrest : restOf ps p = rest at fin rl rok
    try dsimp only [List.set]
    refine xs_seq <| xs_setO (by decide) <| xo_lst <| xa_nil ⟨by simp, by simp, ?_⟩
    try dsimp only [List.set]
    refine xs_seq <| xs_for (vs := [4, 5]) <| xi_enum <| xe_var rfl ⟨_, rfl, ?_⟩
    refine ⟨fun n δ => ∃ (qs : List (List Str)) (s4 s5 s6 s7 : S), δ = [.d d, .d (ptD p), .d (.lst (rest.map ptD)), .own (.lst (qs.map lotD)), s4, s5, s6, s7, .no, .no] ∧ qs.length ≤ 56 * n ∧ ∀ q, q ∈ qs ↔ AroB rest p (fun i _ => i < n) q, ⟨[], _, _, _, _, rfl, by simp, fun q => ?_⟩, ?_, ?_⟩
    · constructor
      · intro h; cases h
      · rintro (⟨i, j, a, b, _, h, _⟩ | ⟨i, j, k, a, b, c, _, _, h, _⟩) <;> exact absurd h (Nat.not_lt_zero _)
    · rintro n x δ1 hn ⟨qs, s4, s5, s6, s7, rfl, lq, mq⟩
      obtain ⟨y, hy, rfl⟩ := enumD_at hn
      obtain ⟨u, hu, rfl⟩ : ∃ u, rest[n]? = some u ∧ ptD u = y := by simpa using hy
      have nl := (List.getElem?_eq_some_iff.mp hu).1
      have hup := rok u (List.mem_of_getElem? hu)
      refine xg_tup (xs := [.int n, ptD u]) rfl <| xgs_cons <| xg_name (by decide) (by decide) <| xgs_cons <| xg_name (by decide) (by decide) <| xgs_nil ?_
      try dsimp only [List.set]
      refine xs_for (vs := [6, 7]) <| xi_enum <| xe_ofO <| xo_sl <| xe_var rfl <| xp_no <| xp_part <| xe_var rfl ⟨_, rfl, _, rfl, _, rfl, _, rfl, ?_⟩
      rw [cut_to (Int.natCast_nonneg n), Int.toNat_natCast, ← List.map_take]
      refine ⟨fun m δ => ∃ (qs : List (List Str)) (s6 s7 : S), δ = [.d d, .d (ptD p), .d (.lst (rest.map ptD)), .own (.lst (qs.map lotD)), .d (.int n), .d (ptD u), s6, s7, .no, .no] ∧ qs.length ≤ 56 * n + 8 * m ∧ ∀ q, q ∈ qs ↔ AroB rest p (fun i j => i < n ∨ (i = n ∧ j < m)) q, ⟨qs, s6, s7, rfl, by omega, fun q => by rw [mq, AroB.row0]⟩, ?_, ?_⟩
      · rintro m x δ1 hm ⟨qs, s6, s7, rfl, lq, mq⟩
        obtain ⟨y, hy, rfl⟩ := enumD_at hm
        obtain ⟨v, hv, rfl⟩ : ∃ v, (rest.take n)[m]? = some v ∧ ptD v = y := by rw [List.getElem?_map] at hy; exact Option.map_eq_some_iff.mp hy
        have ml := (List.getElem?_eq_some_iff.mp hv).1
        rw [List.length_take] at ml
        have mn : m < n := by omega
        rw [List.getElem?_take_of_lt mn] at hv
        have hvp := rok v (List.mem_of_getElem? hv)
        refine xg_tup (xs := [.int m, ptD v]) rfl <| xgs_cons <| xg_name (by decide) (by decide) <| xgs_cons <| xg_name (by decide) (by decide) <| xgs_nil ?_
        try dsimp only [List.set]
        have tl : rest.take m = restOf (rest.take m) p ∨ True := .inr trivial
        have mem3 : ∀ qs0 : List (List Str), (∀ q, q ∈ qs0 ↔ q ∈ qs ∨ (Btw p u v ∧ q = [u.1, v.1])) → ∀ q, q ∈ qs0 ++ ((rest.take m).filter fun c => decide (Ins p u v c)).map (fun c => [u.1, v.1, c.1]) ↔ AroB rest p (fun i j => i < n ∨ (i = n ∧ j < m + 1)) q := fun qs0 h q => by
          rw [AroB.step mn hu hv, ← mq, List.mem_append, h, or_assoc]
          refine or_congr_right (or_congr_right ?_)
          simp only [List.mem_map, List.mem_filter, decide_eq_true_eq]
          exact ⟨fun ⟨c, ⟨h1, h2⟩, h3⟩ => ⟨c, h1, h2, h3.symm⟩, fun ⟨c, h1, h2, h3⟩ => ⟨c, ⟨h1, h2⟩, h3.symm⟩⟩
        have l3 : (((rest.take m).filter fun c => decide (Ins p u v c)).map (fun c => [u.1, v.1, c.1])).length ≤ 6 := by
          rw [List.length_map]
          have := List.length_filter_le (fun c => decide (Ins p u v c)) (rest.take m)
          rw [List.length_take] at this
          omega
        refine xs_seq <| xs_mid (J := fun δ => ∃ qs0 : List (List Str), δ = [.d d, .d (ptD p), .d (.lst (rest.map ptD)), .own (.lst (qs0.map lotD)), .d (.int n), .d (ptD u), .d (.int m), .d (ptD v), .no, .no] ∧ qs0.length ≤ qs.length + 1 ∧ ∀ q, q ∈ qs0 ↔ q ∈ qs ∨ (Btw p u v ∧ q = [u.1, v.1])) ?_ ?_
        · refine xs_if <| xt_test <| xr_call (fun _ => .nil) <| xa_cons <| xe_var rfl <| xa_cons <| xe_var rfl <| xa_cons <| xe_var rfl <| xa_nil ⟨p, u, v, rfl, hp, hup, hvp, on_d ⟨_, rfl, ?_⟩⟩
          by_cases c : Btw p u v
          · rw [decide_eq_true c]
            refine if_tt <| xs_drop <| xe_app ⟨_, rfl⟩ <| xe_tup <| xa_cons <| xe_ix <| xe_var rfl <| xe_int ⟨0, _, rfl, rfl, xa_cons <| xe_ix <| xe_var rfl <| xe_int ⟨0, _, rfl, rfl, xa_nil ⟨by simp, _, rfl, by rw [List.length_map]; omega, qs ++ [[u.1, v.1]], ?_, by simp, fun q => ?_⟩⟩⟩
            · rw [List.map_append]; rfl
            · rw [List.mem_append, List.mem_singleton]
              exact or_congr_right ⟨fun h => ⟨c, h⟩, fun h => h.2⟩
          · rw [decide_eq_false c]
            exact if_ff <| xs_next ⟨qs, rfl, by omega, fun q => ⟨.inl, fun h => h.elim id fun h => absurd h.1 c⟩⟩
        · rintro δ' ⟨qs0, rfl, l0, m0⟩
          refine xs_drop <| xe_ext ⟨_, rfl⟩ <| xe_ofO <| xo_fg (v := 9) (g := ptD) (f := fun c => lotD [u.1, v.1, c.1]) (p := fun c => decide (Ins p u v c)) <| xi_list <| xe_ofO <| xo_sl <| xe_var rfl <| xp_no <| xp_part <| xe_var rfl ⟨_, rfl, _, rfl, _, rfl, ?_⟩
          rw [cut_to (Int.natCast_nonneg m), Int.toNat_natCast, ← List.map_take]
          refine ⟨_, .inl rfl, rest.take m, rfl, rfl, by rw [List.length_take]; omega, fun x hx => ?_, _, rfl, ?_⟩
          · try dsimp only [List.set]
            refine xt_test <| xr_call (fun _ => .nil) <| xa_cons <| xe_var rfl <| xa_cons <| xe_var rfl <| xa_cons <| xe_var rfl <| xa_cons <| xe_var rfl <| xa_nil ⟨p, u, v, x, rfl, hp, hup, hvp, rok x (List.mem_of_mem_take hx), on_d ⟨_, rfl, rfl, rfl, fun _ => ?_⟩⟩
            exact xe_tup <| xa_cons <| xe_ix <| xe_var rfl <| xe_int ⟨0, _, rfl, rfl, xa_cons <| xe_ix <| xe_var rfl <| xe_int ⟨0, _, rfl, rfl, xa_cons <| xe_ix <| xe_var rfl <| xe_int ⟨0, _, rfl, rfl, xa_nil ⟨by simp, rfl, rfl⟩⟩⟩⟩
          · refine ⟨qs0.map lotD, _, rfl, rfl, ?_, qs0 ++ ((rest.take m).filter fun c => decide (Ins p u v c)).map (fun c => [u.1, v.1, c.1]), .d (.int m), .d (ptD v), ?_, ?_, mem3 qs0 m0⟩
            · rw [List.length_map, List.length_map]
              rw [List.length_map] at l3
              omega
            · rw [List.map_append, List.map_map]; rfl
            · rw [List.length_append]; omega
      · rintro δ1 ⟨qs, s6, s7, rfl, lq, mq⟩
        rw [enumD_len, List.length_map, List.length_take, show min n rest.length = n from by omega] at mq lq
        exact ⟨qs, _, _, s6, s7, rfl, by omega, fun q => by rw [mq, AroB.row]⟩
    · rintro δ1 ⟨qs, s4, s5, s6, s7, rfl, lq, mq⟩
      rw [enumD_len, List.length_map] at mq lq
      refine xs_retV (by decide) rfl (fin qs (by omega) fun q => by rw [mq]; exact AroB.mono fun i j h1 h2 => by simp [h2])
def F_is_seqR (K : PySem.W.Frag) (a : Ads) : FR := fun ds Φ => ∃ d, ds = [d] ∧ (∃ t, TyD (ZZ K a) d t ∧ PySem.W.kitAny K t [.type "list", .type "tuple"] = some (seqOf d).isSome) ∧ Φ (.d (.bl (seqOf d).isSome))
theorem ok_is_seqR (T : Txt K mg a) : FnOk P w K mg base CX0 1 a.f_is_sequence a.fd_is_sequence ["value"] (spR (ZZ K a) (F_is_seqR K a)) := by
  refine T.F_is_sequence.ok sc_is_sequence (fun vs H Q E h => ?_) (fun cdv A outer s H vs Q E hr h => ?_)
  · obtain ⟨M, ds, Φ, _, al, ⟨n, rfl, _⟩, _⟩ := h
    exact al.len
  · obtain ⟨M, ds, Φ, ex, al, ⟨d, rfl, ⟨t, ht, hk⟩, fin⟩, q⟩ := h
    refine ⟨_, (pss_one (ps_ret (pe_callB call_isiT (by rfl) T.n_isinstance (by decide +kernel) (pa_cons (pv 0) (pa_cons (pe_tup (pa_cons (pe_bltn (v := .ty "list") (u := .type "list") (by rfl) T.n_list (by decide +kernel) rfl) (pa_cons (pe_bltn (v := .ty "tuple") (u := .type "tuple") (by rfl) T.n_tuple (by decide +kernel) rfl) pa_nil))) pa_nil))))), entR (n := 0) ex al rfl q ?_⟩
    walk_at "ent"
    exact xs_ret <| xe_isiSeqR <| xe_var rfl ⟨t, _, ht, hk, fin⟩
/-! ### points that are good -/
theorem xi_slSeq {Z : Wd} {δ : List S} {Λ : List D → List S → Prop} {i j : Nat} {d : D} {xs : List D} {n : Int} (h : δ[i]? = some (.d d)) (hd : d = .lst xs ∨ d = .tup xs) (hj : δ[j]? = some (.d (.int n))) (k : Λ (cut xs none (some n)) δ) : XI Z (fun σ H R => iList Z.K (tSl (GR.rSlS Z.K) (tVar i) tNoPart (tPart (tVar j))) σ H R ∨ iTup Z.K (tSl (GR.rSlS Z.K) (tVar i) tNoPart (tPart (tVar j))) σ H R) δ Λ := by
  rcases hd with rfl | rfl
  · exact xi_l <| xi_list <| xe_slS <| xe_var h <| xp_no <| xp_part <| xe_var hj ⟨_, rfl, _, rfl, _, .inl rfl, k⟩
  · exact xi_r <| xi_tup <| xe_slS <| xe_var h <| xp_no <| xp_part <| xe_var hj ⟨_, rfl, _, rfl, _, rfl, k⟩
structure PtsOk (ps : List Pt) : Prop where
  l : ps.length ≤ 7
  ok : ∀ p ∈ ps, PtOk p
  nn : (ps.map (·.1)).Nodup
  np : (ps.map (·.2)).Nodup
theorem shp_xy (x y : Int) : SeqAt.shaped (py (.tup [.int x, .int y])) = true := by
  show ((PyData.tuple [PyData.int x, PyData.int y]).canLay0 && decide ((PyData.tuple [PyData.int x, PyData.int y]).depth ≤ 64)) = true
  simp [PyData.canLay0, PyData.canLay0.eq_6, PyData.depth, PyData.canLayAll0, PyData.depthAll]
theorem eqv_xy (x y u v : Int) : PyData.eqv (py (.tup [.int x, .int y])) (py (.tup [.int u, .int v])) = decide ((x, y) = (u, v)) := by
  have h : PyData.eqv (py (.tup [.int x, .int y])) (py (.tup [.int u, .int v])) = (PyData.eqv (.int x) (.int u) && (PyData.eqv (.int y) (.int v) && true)) := rfl
  rw [h, eqv_iI, eqv_iI, Bool.and_true, Bool.eq_iff_iff, Bool.and_eq_true, decide_eq_true_iff, decide_eq_true_iff, decide_eq_true_iff]
  exact ⟨fun h => Prod.ext h.1 h.2, fun h => by rw [Prod.mk.injEq] at h; exact h⟩
def TailP (K : PySem.W.Frag) (a : Ads) (ps : List Pt) (x : D) : Prop := (AnyE K a x ∧ isPtB x = false) ∨ ∃ p, x = ptD p ∧ PtOk p ∧ (p.1 ∈ ps.map (·.1) ∨ p.2 ∈ ps.map (·.2))
def F_check_pointsX (K : PySem.W.Frag) (a : Ads) : FRX := fun ds Φ Ξ => ∃ d : D, ds = [d] ∧ SeqK K a d ∧ (seqOf d = none → Ξ 6 (.int 0)) ∧ ∀ xs, seqOf d = some xs → ∃ (ps : List Pt) (tl : List D), xs = ps.map ptD ++ tl ∧ xs.length ≤ 1000 ∧ PtsOk ps ∧ (tl = [] → Φ (.d .non)) ∧ ∀ x rest, tl = x :: rest → TailP K a ps x ∧ Ξ 6 (.int ps.length)
theorem shareG {α : Type} {G : Prop} (ok : α → Prop) (f : (∀ c, ok c → G) → G) (h : ∀ c, ok c → G) : G := f h
def dupB (p u : Pt) : Bool := decide (p.1 = u.1) || decide (p.2 = u.2)
theorem ok_check_pointsX (T : Txt K mg a) (G_is_sequence : FnOk P w K mg base CX0 1 a.f_is_sequence a.fd_is_sequence ["value"] (spR (ZZ K a) (F_is_seqR K a))) (G_is_point : FnOk P w K mg base CX0 2 a.f_is_point a.fd_is_point ["value"] (spR (ZZ K a) (F_is_point K a))) : FnOk P w K mg base (L2.CX P w) 3 a.f_check_points a.fd_check_points ["points"] (spRX (ZZ K a) (F_check_pointsX K a)) := by
  refine T.F_check_points.okX sc_check_points (fun vs H Q E h => ?_) (fun cdv A outer s H vs Q E hr h => ?_)
  · obtain ⟨M, ds, Φ, Ξ, _, al, ⟨d, rfl, _⟩, _⟩ := h
    exact al.len
  · obtain ⟨M, ds, Φ, Ξ, ex, al, ⟨d, rfl, sk, out0, rest⟩, q, qx⟩ := h
    refine ⟨_, (pss_cons (ps_if (pt_not (pt_val (pe_call G_is_sequence (hr.mono (by decide)) (by rfl) T.m_is_sequence T.F_is_sequence.kp T.b_is_sequence .nil pass0 (pa_cons (pv 0) pa_nil)))) (pss_one (GX.ps_raiseO rfl (takes_of rfl rfl rfl rfl) T.oe_InvalidDrawing T.ei_InvalidDrawing T.et_InvalidDrawing (ok_InvalidDrawing_init T) (hr.mono (by decide)) T.b_InvalidDrawing_init (by rfl) T.m_InvalidDrawing (pa_cons pe_int pa_nil))) pss_nil)
      (pss_one (ps_for (passes_of rfl) rfl (G.pi_or (pi_enum (by rfl) T.n_enumerate (pa_cons (pv 0) pa_nil)) (GE.pi_enumT (by rfl) T.n_enumerate (pa_cons (pv 0) pa_nil))) (pg_tup rfl (pgs_cons (pg_name (i := 1) sc_check_points.nd rfl (Or.inl rfl)) (pgs_cons (pg_name (i := 2) sc_check_points.nd rfl (Or.inr rfl)) pgs_nil)))
      (pss_one (ps_if (PW.pt (pw_or (pt_not (pt_val (pe_call G_is_point (hr.mono (by decide)) (by rfl) T.m_is_point T.F_is_point.kp T.b_is_point .nil pass0 (pa_cons (pv 2) pa_nil)))) (pw_or1 (pt_val (pe_callB (cr_any rfl) (by rfl) T.n_any (by decide +kernel) (pa_cons (pe_lc (own := [("name", 3), ("x", 4), ("y", 5)]) (g := (gTup K 3 (gCons (gName 3) (gCons (gName 4) (gCons (gName 5) gNil))))) (tt := tYes) rfl sc_check_points.nd (G.pi_or (pi_list (pe_slice (show SlR _ (GR.rSlS K) from GR.sl_seq) (pv 0) po_none (po_some (pv 1)))) (pi_tupK (K := K) rfl (pe_slice (show SlR _ (GR.rSlS K) from GR.sl_seq) (pv 0) po_none (po_some (pv 1))))) (blkOk_by (N := N_check_points) (sc := defScope s_check_points) (by decide +kernel)) (fun _ _ _ _ _ => (pg_tup rfl (pgs_cons (pg_name (i := 3) sc_check_points.nd rfl (Or.inl rfl)) (pgs_cons (pg_name (i := 4) sc_check_points.nd rfl (Or.inl rfl)) (pgs_cons (pg_name (i := 5) sc_check_points.nd rfl (Or.inl rfl)) pgs_nil))))) (fun _ _ _ _ _ => pts_nil) (fun _ _ _ _ _ => (pe_or (pe_cmpR op_eq (pe_ix (show IxR _ (rIx K) from ix_seq) (pv 2) pe_int (fun _ _ => rfl)) (pv 3) (nomark _)) (pe_one (pe_cmpR (show OpR _ (compareOp .Eq) (rEqD K) from op_eqD hr.units) (pe_slice (show SlR _ (rSlA K) from sl_tupA) (pv 2) (po_some pe_int) po_none) (pe_tup (pa_cons (pv 4) (pa_cons (pv 5) pa_nil))) (nomark _)))))) pa_nil)))))) (pss_one (GX.ps_raiseO rfl (takes_of rfl rfl rfl rfl) T.oe_InvalidDrawing T.ei_InvalidDrawing T.et_InvalidDrawing (ok_InvalidDrawing_init T) (hr.mono (by decide)) T.b_InvalidDrawing_init (by rfl) T.m_InvalidDrawing (pa_cons (pv 1) pa_nil))) pss_nil))))), entRX (n := 5) ex al rfl q ?_⟩
    walk_at "ent"
    refine xs_seq <| xs_if <| xt_not <| xt_test <| xr_call (fun _ => .nil) <| xa_cons <| xe_var rfl <| xa_nil ⟨d, rfl, sk, on_d ⟨_, rfl, ?_⟩⟩
    cases sq : seqOf d with
    | none => exact if_nf <| xs_raise (c := 6) T.oe_InvalidDrawing T.en_InvalidDrawing <| xe_int <| xw_R qx (out0 sq)
    | some xs =>
      obtain ⟨ps, tl, exs, xl, ok, fin, bad⟩ := rest xs sq
      have hd : d = .lst xs ∨ d = .tup xs := by
        cases d with
        | lst ys => cases sq; exact .inl rfl
        | tup ys => cases sq; exact .inr rfl
        | _ => cases sq
      have l7 := ok.l
      refine if_nt <| xs_next ?_
      refine xs_for (vs := [1, 2]) <| xi_enumV (d := d) (xs := xs) rfl hd ⟨fun i δ => ∃ s1 s2 : S, δ = [.d d, s1, s2, .no, .no, .no] ∧ i ≤ ps.length, ⟨_, _, rfl, Nat.zero_le _⟩, ?_, ?_⟩
      · rintro i x δ1 hi ⟨s1, s2, rfl, ip⟩
        obtain ⟨y, hy, rfl⟩ := enumD_at hi
        refine xg_tup (xs := [.int i, y]) rfl <| xgs_cons <| xg_name (by decide) (by decide) <| xgs_cons <| xg_name (by decide) (by decide) <| xgs_nil ?_
        try dsimp only [List.set]
        have cut : cut xs none (some (i : Int)) = (ps.take i).map ptD := by
          rw [cut_to (Int.natCast_nonneg i), Int.toNat_natCast, exs, List.take_append_of_le_length (by rw [List.length_map]; exact ip), ← List.map_take]
        refine shareG (α := Pt) (fun p => y = ptD p ∧ PtOk p ∧ ((ps.take i).any (dupB p) = false → i + 1 ≤ ps.length) ∧ ((ps.take i).any (dupB p) = true → Ξ 6 (.int i))) (fun go => ?_) ?_
        · by_cases c : i < ps.length
          · obtain ⟨p, hp⟩ : ∃ p, ps[i]? = some p := ⟨_, List.getElem?_eq_getElem c⟩
            have ey : y = ptD p := by
              rw [exs, List.getElem?_append_left (by rw [List.length_map]; exact c), List.getElem?_map, hp] at hy
              exact (Option.some.inj hy).symm
            have no : (ps.take i).any (dupB p) = false := List.any_eq_false.mpr fun u hu => by
              obtain ⟨t, ht⟩ := List.mem_iff_getElem?.mp hu
              have tl := (List.getElem?_eq_some_iff.mp ht).1
              rw [List.length_take] at tl
              rw [List.getElem?_take_of_lt (by omega)] at ht
              unfold dupB
              rw [Bool.or_eq_true, decide_eq_true_iff, decide_eq_true_iff]
              rintro (e | e)
              · have := (List.getElem?_inj (by rw [List.length_map]; exact c) ok.nn (j := t)).mp (by rw [List.getElem?_map, List.getElem?_map, hp, ht]; exact congrArg some e)
                omega
              · have := (List.getElem?_inj (by rw [List.length_map]; exact c) ok.np (j := t)).mp (by rw [List.getElem?_map, List.getElem?_map, hp, ht]; exact congrArg some e)
                omega
            exact go p ⟨ey, ok.ok p (List.mem_of_getElem? hp), fun _ => c, fun h => by rw [no] at h; cases h⟩
          · have ei : i = ps.length := by omega
            obtain ⟨rs, etl⟩ : ∃ rs, tl = y :: rs := by
              rw [exs, List.getElem?_append_right (by rw [List.length_map]; omega), List.length_map, ei, Nat.sub_self] at hy
              cases tl with
              | nil => cases hy
              | cons z zs => cases hy; exact ⟨zs, rfl⟩
            obtain ⟨tp, xi⟩ := bad y rs etl
            rw [← ei] at xi
            rcases tp with ⟨any, np⟩ | ⟨p, ey, pok, dup⟩
            · refine xs_if <| xt_or <| xt_not <| xt_test <| xr_call (fun _ => .nil) <| xa_cons <| xe_var rfl <| xa_nil ⟨y, rfl, any, on_d ⟨_, rfl, ?_⟩⟩
              rw [np]
              exact if_nf <| if_tt <| xs_raise (c := 6) T.oe_InvalidDrawing T.en_InvalidDrawing <| xe_var rfl <| xw_R qx xi
            · have yes : (ps.take i).any (dupB p) = true := by
                rw [ei, List.take_length, List.any_eq_true]
                rcases dup with h | h
                · obtain ⟨u, hu, e⟩ := List.mem_map.mp h
                  exact ⟨u, hu, by unfold dupB; rw [decide_eq_true e.symm]; rfl⟩
                · obtain ⟨u, hu, e⟩ := List.mem_map.mp h
                  exact ⟨u, hu, by unfold dupB; rw [decide_eq_true e.symm, Bool.or_true]⟩
              exact go p ⟨ey, pok, (fun h => absurd (yes.symm.trans h) (by decide)), fun _ => xi⟩
        · rintro p ⟨ey, pok, h0, h1⟩
          subst ey
          refine xs_if <| xt_or <| xt_not <| xt_test <| xr_call (fun _ => .nil) <| xa_cons <| xe_var rfl <| xa_nil ⟨ptD p, rfl, anyE_s (okS_pt pok), on_d ⟨_, rfl, ?_⟩⟩
          rw [isPt_pt pok]
          refine if_nt <| xt_test <| xe_any <| xe_ofO <| xo_lc <| xi_slSeq (d := d) (xs := xs) rfl hd rfl ?_
          rw [cut]
          refine ⟨fun v hv => by simp at hv; rcases hv with rfl | rfl | rfl <;> rfl, by simp; omega, fun t acc δ => δ = [.d d, .d (.int i), .d (ptD p), .no, .no, .no] ∧ acc = ((ps.take i).take t).map fun u => D.bl (dupB p u), ⟨rfl, by simp⟩, ?_, ?_⟩
          · rintro t x acc δ2 bs hb ht ⟨rfl, rfl⟩
            obtain ⟨u, hu, rfl⟩ : ∃ u, (ps.take i)[t]? = some u ∧ ptD u = x := by rw [List.getElem?_map] at ht; exact Option.map_eq_some_iff.mp ht
            have tk : (ps.take i).take (t + 1) = (ps.take i).take t ++ [u] := GS.take_get hu
            refine xg_tup (xs := [.str u.1, .int u.2.1, .int u.2.2]) rfl <| xgs_cons <| xg_name (by decide) (hb _ (by decide)) <| xgs_cons <| xg_name (by decide) (hb _ (by decide)) <| xgs_cons <| xg_name (by decide) (hb _ (by decide)) <| xgs_nil ?_
            try dsimp only [List.set]
            refine xt_yes <| if_tt <| xe_orV <| xe_eq <| xe_ix <| xe_var rfl <| xe_int ⟨0, _, rfl, rfl, xe_var rfl ⟨_, _, rfl, rfl, rfl, _, rfl, ?_⟩⟩
            by_cases e1 : p.1 = u.1
            · rw [decide_eq_true (congrArg V.str e1)]
              refine if_tt ⟨rfl, ?_⟩
              rw [tk, List.map_append]
              refine congrArg (_ ++ [D.bl ·]) ?_
              show true = dupB p u
              unfold dupB
              rw [decide_eq_true e1]; rfl
            · rw [decide_eq_false fun e => e1 (V.str.inj e)]
              refine if_ff <| xe_eqD <| xe_slA <| xe_var rfl <| xp_part <| xe_int ⟨_, rfl, xp_no ⟨_, rfl, xe_tup <| xa_cons <| xe_var rfl <| xa_cons <| xe_var rfl <| xa_nil ⟨by simp, rfl, rfl, shp_xy _ _, shp_xy _ _, ?_⟩⟩⟩
              refine ⟨rfl, ?_⟩
              rw [tk, List.map_append]
              refine congrArg (_ ++ [D.bl ·]) ?_
              refine (eqv_xy p.2.1 p.2.2 u.2.1 u.2.2).trans ?_
              unfold dupB
              rw [decide_eq_false e1, Bool.false_or]
          · rintro acc δ2 ⟨rfl, rfl⟩
            rw [List.length_map, List.take_length]
            refine ⟨_, rfl, (ps.take i).map (dupB p), by rw [List.map_map]; rfl, _, rfl, ?_⟩
            rw [show ((ps.take i).map (dupB p)).any id = (ps.take i).any (dupB p) from by rw [List.any_map]; rfl]
            cases e : (ps.take i).any (dupB p) with
            | false => exact if_ff <| xs_next ⟨_, _, rfl, h0 e⟩
            | true => exact if_tt <| xs_raise (c := 6) T.oe_InvalidDrawing T.en_InvalidDrawing <| xe_var rfl <| xw_R qx (h1 e)
      · rintro δ1 ⟨s1, s2, rfl, ip⟩
        rw [enumD_len, exs, List.length_append, List.length_map] at ip
        refine fin ?_
        cases tl with
        | nil => rfl
        | cons x xs => rw [List.length_cons] at ip; omega
/-! ### numbers as lots -/
def unb (ns : List Str) (b : Nat) : List Str := ns.filter fun n => b.testBit (ns.idxOf n)
theorem min_private {ps : List Nat} {r : Nat} (m : MinHit ps r) {i : Nat} (hi : r.testBit i = true) : ∃ p ∈ ps, p.testBit i = true ∧ ∀ j, r.testBit j = true → p.testBit j = true → j = i := by
  refine Classical.byContradiction fun c => ?_
  have bit : ∀ j, (r ^^^ 2 ^ i).testBit j = (r.testBit j != decide (i = j)) := fun j => by rw [Nat.testBit_xor, Nat.testBit_two_pow]
  have sub : Sub (r ^^^ 2 ^ i) r := fun j hj => by
    rw [bit] at hj
    by_cases e : i = j
    · subst e; exact hi
    · simpa [e] using hj
  have := m.m _ sub fun p hp => by
    obtain ⟨j, h1, h2⟩ := m.h p hp
    by_cases e : i = j
    · subst e
      refine Classical.byContradiction fun no => c ⟨p, hp, h2, fun k hk pk => Classical.byContradiction fun ne => no ⟨k, ?_, pk⟩⟩
      have ne : ¬ i = k := fun e => ne e.symm
      rw [bit, hk]; simp [ne]
    · exact ⟨j, by rw [bit, h1]; simp [e], h2⟩
  have b := bit i
  rw [this, hi] at b
  simp at b
theorem bo_bit {ns S : List Str} (i : Nat) : (bo ns S).testBit i = match ns[i]? with | some n => decide (n ∈ S) | none => false := by
  unfold bo
  rw [nbv_bit]
  unfold bitAt
  cases ns[i]? <;> rfl
theorem bo_unb {ns : List Str} {r : Nat} (nd : ns.Nodup) (h : r < 2 ^ ns.length) : bo ns (unb ns r) = r := by
  refine Nat.eq_of_testBit_eq fun i => ?_
  rw [bo_bit]
  cases e : ns[i]? with
  | none =>
    have := List.getElem?_eq_none_iff.mp e
    exact (Nat.testBit_lt_two_pow (Nat.lt_of_lt_of_le h (Nat.pow_le_pow_right (by decide) this))).symm
  | some n =>
    have hi := (List.getElem?_eq_some_iff.mp e).1
    have en : ns[i] = n := (List.getElem?_eq_some_iff.mp e).2
    have ix : ns.idxOf n = i := by
      have nm : n ∈ ns := List.mem_of_getElem? e
      have lt := List.idxOf_lt_length_of_mem nm
      have := (List.getElem_inj nd (h₀ := lt) (h₁ := hi)).mp (by rw [List.getElem_idxOf lt, en])
      exact this
    show decide (n ∈ unb ns r) = r.testBit i
    unfold unb
    rw [Bool.eq_iff_iff, decide_eq_true_eq, List.mem_filter, ix]
    exact ⟨fun h => h.2, fun h => ⟨List.mem_of_getElem? e, h⟩⟩
theorem bo_mem {ns S : List Str} {w : Str} (hw : w ∈ ns) : (bo ns S).testBit (ns.idxOf w) = decide (w ∈ S) := by
  rw [bo_bit]
  have lt := List.idxOf_lt_length_of_mem hw
  rw [List.getElem?_eq_getElem lt, List.getElem_idxOf lt]
/-! ### few can meet all parts -/
def chains6 : List (List Nat) := [[0, 32, 48, 56, 60, 62, 63], [1, 33, 49, 57, 61], [2, 34, 50, 58, 59], [3, 35, 51], [4, 36, 52, 54, 55], [5, 37, 53], [6, 38, 39], [7], [8, 40, 44, 46, 47], [9, 41, 45], [10, 42, 43], [11], [12, 14, 15], [13], [16, 24, 28, 30, 31], [17, 25, 29], [18, 26, 27], [19], [20, 22, 23], [21]]
def widen6 (i r : Nat) : Nat := r % 2 ^ i + r / 2 ^ i * 2 ^ (i + 1)
def chainsAt (i : Nat) : List (List Nat) := chains6.map fun c => c.map (widen6 i)
theorem chains_all : ∀ i : Fin 7, ∀ r : Fin 128, r.val.testBit i.val = false → (chainsAt i.val).any (fun c => c.contains r.val) = true := by decide +kernel
theorem chains_cmp : ∀ i : Fin 7, (chainsAt i.val).all (fun c => c.all fun a => c.all fun b => (a &&& b == a) || (a &&& b == b)) = true := by decide +kernel
theorem chains_len (i : Nat) : (chainsAt i).length = 20 := by unfold chainsAt; rw [List.length_map]; rfl
theorem anti20 {i : Nat} (hi : i < 7) {rs : List Nat} (nd : rs.Nodup) (lt : ∀ r ∈ rs, r < 128 ∧ r.testBit i = false) (anti : ∀ r ∈ rs, ∀ s ∈ rs, Sub r s → r = s) : rs.length ≤ 20 := by
  have at' : ∀ r ∈ rs, ∃ k, k < 20 ∧ ∃ c, (chainsAt i)[k]? = some c ∧ r ∈ c := fun r hr => by
    obtain ⟨l, b⟩ := lt r hr
    have := chains_all ⟨i, hi⟩ ⟨r, l⟩ b
    obtain ⟨c, hc, hm⟩ := List.any_eq_true.mp this
    obtain ⟨k, hk⟩ := List.mem_iff_getElem?.mp hc
    have kl := (List.getElem?_eq_some_iff.mp hk).1
    rw [chains_len] at kl
    exact ⟨k, kl, c, hk, by simpa using hm⟩
  let idx : Nat → Nat := fun r => if h : ∃ k, k < 20 ∧ ∃ c, (chainsAt i)[k]? = some c ∧ r ∈ c then Classical.choose h else 0
  have spec : ∀ r ∈ rs, idx r < 20 ∧ ∃ c, (chainsAt i)[idx r]? = some c ∧ r ∈ c := fun r hr => by
    show (if h : ∃ k, k < 20 ∧ ∃ c, (chainsAt i)[k]? = some c ∧ r ∈ c then Classical.choose h else 0) < 20 ∧ ∃ c, (chainsAt i)[(if h : ∃ k, k < 20 ∧ ∃ c, (chainsAt i)[k]? = some c ∧ r ∈ c then Classical.choose h else 0)]? = some c ∧ r ∈ c
    rw [dif_pos (at' r hr)]
    exact Classical.choose_spec (at' r hr)
  have nd2 : (rs.map idx).Nodup := by
    rw [List.nodup_iff_pairwise_ne, List.pairwise_map]
    refine (List.nodup_iff_pairwise_ne.mp nd).imp_of_mem fun {r s} hr hs ne e => ne ?_
    obtain ⟨_, c, hc, rc⟩ := spec r hr
    obtain ⟨_, c', hc', sc⟩ := spec s hs
    rw [e, hc'] at hc
    cases hc
    have cm := List.all_eq_true.mp (chains_cmp ⟨i, hi⟩) c (List.mem_of_getElem? hc')
    have := List.all_eq_true.mp (List.all_eq_true.mp cm r rc) s sc
    rw [Bool.or_eq_true, beq_iff_eq, beq_iff_eq] at this
    rcases this with h | h
    · exact anti r hr s hs (and_sub.mp (by rw [Nat.and_comm]; exact h))
    · exact (anti s hs r hr (and_sub.mp h)).symm
  have := nd2.length_le_of_subset (l₂ := List.range 20) fun k hk => by
    obtain ⟨r, hr, rfl⟩ := List.mem_map.mp hk
    exact List.mem_range.mpr (spec r hr).1
  simpa using this
/-! ### rooms kept by parts -/
abbrev PN := Str × List (List Str)
def kpE (p : PN) : Key × D := (.inr p.1, .lst (p.2.map lotD))
structure PssOk (pss : List PN) : Prop where
  l : pss.length ≤ 7
  nd : (pss.map (·.1)).Nodup
  nm : ∀ p ∈ pss, NmOk p.1
  pl : ∀ p ∈ pss, p.2.length ≤ 400
  pt : ∀ p ∈ pss, ∀ q ∈ p.2, q ≠ [] ∧ q.Nodup ∧ p.1 ∉ q ∧ ∀ w ∈ q, w ∈ pss.map (·.1)
def wy (ns : List Str) (t : Nat) : List Str := ns.filter fun n => decide (n ∈ unb ns t)
theorem mem_wy {ns : List Str} {t : Nat} {x : Str} : x ∈ wy ns t ↔ x ∈ ns ∧ t.testBit (ns.idxOf x) = true := by
  unfold wy unb
  rw [List.mem_filter, decide_eq_true_eq, List.mem_filter]
  exact ⟨fun h => h.2, fun h => ⟨h.1, h⟩⟩
theorem bo_lt7 {ns S : List Str} (h : ns.length ≤ 7) : bo ns S < 128 := Nat.lt_of_lt_of_le bo_lt (Nat.pow_le_pow_right (by decide) h)
theorem min_lt {ns : List Str} {qs : List (List Str)} {t : Nat} (m : MinHit (qs.map (bo ns)) t) : t < 2 ^ ns.length := by
  refine Nat.lt_pow_two_of_testBit _ fun i hi => ?_
  cases e : t.testBit i with
  | false => rfl
  | true =>
    obtain ⟨p, hp, pi, _⟩ := min_private m e
    obtain ⟨q, _, rfl⟩ := List.mem_map.mp hp
    rw [bo_bit, List.getElem?_eq_none_iff.mpr hi] at pi
    cases pi
theorem min_off {ns : List Str} {qs : List (List Str)} {t : Nat} {x : Str} (hx : x ∈ ns) (out : ∀ q ∈ qs, x ∉ q) (m : MinHit (qs.map (bo ns)) t) : t.testBit (ns.idxOf x) = false := by
  cases e : t.testBit (ns.idxOf x) with
  | false => rfl
  | true =>
    obtain ⟨p, hp, pi, _⟩ := min_private m e
    obtain ⟨q, hq, rfl⟩ := List.mem_map.mp hp
    rw [bo_mem hx] at pi
    exact absurd (of_decide_eq_true pi) (out q hq)
theorem idx_at {ns : List Str} (nd : ns.Nodup) {i : Nat} {n : Str} (h : ns[i]? = some n) : ns.idxOf n = i := by
  have lt := List.idxOf_lt_length_of_mem (List.mem_of_getElem? h)
  have hi := (List.getElem?_eq_some_iff.mp h).1
  exact (List.getElem?_inj lt nd).mp (by rw [h, List.getElem?_eq_getElem lt, List.getElem_idxOf lt])
theorem hit_wy {ns : List Str} (nd : ns.Nodup) {qs : List (List Str)} (sub : ∀ q ∈ qs, ∀ w ∈ q, w ∈ ns) {gs : List Str} : (∃ t, MinHit (qs.map (bo ns)) t ∧ ∀ w ∈ wy ns t, w ∈ gs) ↔ ∀ q ∈ qs, ∃ w ∈ q, w ∈ gs := by
  constructor
  · rintro ⟨t, m, h⟩ q hq
    obtain ⟨i, h1, h2⟩ := m.h _ (List.mem_map_of_mem (f := bo ns) hq)
    rw [bo_bit] at h2
    cases e : ns[i]? with
    | none => rw [e] at h2; cases h2
    | some n =>
      rw [e] at h2
      have wq : n ∈ q := of_decide_eq_true h2
      have nm : n ∈ ns := List.mem_of_getElem? e
      exact ⟨n, wq, h n (mem_wy.mpr ⟨nm, by rw [idx_at nd e]; exact h1⟩)⟩
  · intro h
    obtain ⟨t, s, m⟩ := min_of (ps := qs.map (bo ns)) (bo ns gs) (Nat.le_refl _) fun p hp => by
      obtain ⟨q, hq, rfl⟩ := List.mem_map.mp hp
      obtain ⟨w, h1, h2⟩ := h q hq
      have wn := sub q hq w h1
      exact ⟨ns.idxOf w, by rw [bo_mem wn]; exact decide_eq_true h2, by rw [bo_mem wn]; exact decide_eq_true h1⟩
    refine ⟨t, m, fun w hw => ?_⟩
    obtain ⟨h1, h2⟩ := mem_wy.mp hw
    have := s _ h2
    rw [bo_mem h1] at this
    exact of_decide_eq_true this
/-! ### the room that parts keep -/
structure KeptR (pss : List PN) (os : List Rl) (ns : List Str) : Prop where
  few : Few os ns
  rok : RoomOk os ns
  nm : ∀ x ∈ ns, NmOk x
  ns : ∀ x, x ∈ ns ↔ x ∈ pss.map (·.1)
  may : ∀ p ∈ pss, ∀ gs, p.1 ∈ mayS os gs ↔ p.1 ∉ gs ∧ ∀ q ∈ p.2, ∃ w ∈ q, w ∈ gs
structure KeptI (pss : List PN) (ns : List Str) (k : Nat) (rs : List Rl) : Prop where
  l : rs.length ≤ 20 * k
  is : ∀ r ∈ rs, r.1 ∈ ns.take k ∧ ∃ p ∈ pss, p.1 = r.1 ∧ ∃ t, MinHit (p.2.map (bo ns)) t ∧ r.2 = wy ns t
  all : ∀ p ∈ pss, p.1 ∈ ns.take k → ∀ t, MinHit (p.2.map (bo ns)) t → (p.1, wy ns t) ∈ rs
theorem KeptI.done {pss : List PN} {ns ns' : List Str} {rs : List Rl} (ok : PssOk pss) (hl : GS.IsLot ns (pss.map (·.1))) (h : KeptI pss ns ns.length rs) (hn : GS.IsLot ns' (wantAll rs)) : ns' = ns ∧ KeptR pss rs ns := by
  have nd := GS.Asc.nodup hl.asc
  have l7 : ns.length ≤ 7 := by
    have := nodup_len nd fun x hx => (hl.mem x).mp hx
    rw [List.length_map] at this
    exact Nat.le_trans this ok.l
  have sub : ∀ p ∈ pss, ∀ q ∈ p.2, ∀ w ∈ q, w ∈ ns := fun p hp q hq w hw => (hl.mem w).mpr ((ok.pt p hp q hq).2.2.2 w hw)
  have tk : ns.take ns.length = ns := List.take_length
  have wsub : ∀ {t w}, w ∈ wy ns t → w ∈ ns := fun h => (mem_wy.mp h).1
  have wasc : ∀ t, GS.Asc (wy ns t) := fun t => hl.asc.sublist List.filter_sublist
  have wl : ∀ t, (wy ns t).length ≤ 7 := fun t => Nat.le_trans (List.length_filter_le _ _) l7
  have l140 : rs.length ≤ 140 := by have := h.l; omega
  have e : ns' = ns := by
    refine GS.Asc.uniq hn.asc hl.asc fun x => ?_
    rw [hn.mem, mem_wantAll]
    constructor
    · rintro ⟨r, hr, c⟩
      obtain ⟨h1, p, hp, h2, t, h3, h4⟩ := h.is r hr
      rw [tk] at h1
      rcases c with rfl | c
      · exact h1
      · rw [h4] at c; exact wsub c
    · intro hx
      obtain ⟨p, hp, rfl⟩ := List.mem_map.mp ((hl.mem x).mp hx)
      obtain ⟨t, m, _⟩ := (hit_wy nd (sub p hp) (gs := ns)).mpr fun q hq => by
        obtain ⟨h1, _, _, h2⟩ := ok.pt p hp q hq
        obtain ⟨w, hw⟩ := List.exists_mem_of_ne_nil _ h1
        exact ⟨w, hw, sub p hp q hq w hw⟩
      exact ⟨_, h.all p hp (by rw [tk]; exact hx) t m, .inl rfl⟩
  refine ⟨e, ⟨hl.asc, fun r hr w hw => ?_, l7, by omega, fun r hr => ?_⟩, ⟨e ▸ hn, by omega, fun r hr => ?_, fun r hr => ?_⟩, fun x hx => ?_, hl.mem, fun p hp gs => ?_⟩
  · obtain ⟨h1, p, hp, h2, t, h3, h4⟩ := h.is r hr
    rw [tk] at h1
    rcases List.mem_cons.mp hw with rfl | c
    · exact h1
    · rw [h4] at c; exact wsub c
  · obtain ⟨h1, p, hp, h2, t, h3, h4⟩ := h.is r hr
    rw [h4]
    have := wl t
    exact ⟨by omega, GS.Asc.nodup (wasc t)⟩
  · obtain ⟨h1, p, hp, h2, t, h3, h4⟩ := h.is r hr
    rw [h4]
    have := wl t
    omega
  · obtain ⟨h1, p, hp, h2, t, h3, h4⟩ := h.is r hr
    rw [h4]
    exact wasc t
  · obtain ⟨p, hp, rfl⟩ := List.mem_map.mp ((hl.mem x).mp hx)
    exact ok.nm p hp
  · rw [mem_may]
    refine and_congr_right fun _ => ?_
    rw [← hit_wy nd (sub p hp)]
    constructor
    · rintro ⟨ws, h1, h2⟩
      obtain ⟨_, p', hp', h3, t, h4, h5⟩ := h.is _ h1
      obtain ⟨i, hi⟩ := List.mem_iff_getElem?.mp hp
      obtain ⟨j, hj⟩ := List.mem_iff_getElem?.mp hp'
      have il := (List.getElem?_eq_some_iff.mp hi).1
      have ij := (List.getElem?_inj (by rw [List.length_map]; exact il) ok.nd (j := j)).mp (by rw [List.getElem?_map, List.getElem?_map, hi, hj]; exact congrArg some h3.symm)
      subst ij
      rw [hi] at hj
      cases hj
      have h5 : ws = wy ns t := h5
      exact ⟨t, h4, by rw [← h5]; exact h2⟩
    · rintro ⟨t, m, h1⟩
      exact ⟨wy ns t, h.all p hp (by rw [tk, hl.mem]; exact List.mem_map_of_mem hp) t m, h1⟩
theorem kp_get {pss : List PN} (nd : (pss.map (·.1)).Nodup) {p : PN} (hp : p ∈ pss) : dget (pss.map kpE) (.inr p.1) = some (.lst (p.2.map lotD)) := by
  induction pss with
  | nil => cases hp
  | cons a pss ih =>
    obtain ⟨n1, n2⟩ := List.nodup_cons.mp nd
    rcases List.mem_cons.mp hp with rfl | h
    · simp [dget, kpE]
    · have ne : a.1 ≠ p.1 := fun e => n1 (List.mem_map.mpr ⟨p, h, e.symm⟩)
      have ih := ih n2 h
      unfold dget at ih ⊢
      rw [List.map_cons, List.find?_cons_of_neg]
      · exact ih
      · simpa [kpE] using ne
def F_kept_by : FR := fun ds Φ => ∃ pss : List PN, ds = [.dic ((pss.map kpE).map (·.1)) ((pss.map kpE).map (·.2))] ∧ PssOk pss ∧ ∀ os ns, KeptR pss os ns → Φ (.d (roomF os ns))
theorem ok_kept_by (T : Txt K mg a) (G_lot_of : FnOk P w K mg base CX0 1 a.f_lot_of a.fd_lot_of ["names"] (spR (ZZ K a) F_lot_ofF)) (G_bits_of : FnOk P w K mg base CX0 1 a.f_bits_of a.fd_bits_of ["names", "some"] (spR (ZZ K a) F_bits_of)) (G_names_of : FnOk P w K mg base CX0 1 a.f_names_of a.fd_names_of ["names", "bits"] (spR (ZZ K a) F_names_of)) (G_least_meeting : FnOk P w K mg base CX0 2 a.f_least_meeting a.fd_least_meeting ["parts"] (spR (ZZ K a) F_least)) (G_Rule_init : FnOk P w K mg base CX0 3 a.f_Rule_init a.fd_Rule_init ["self", "name", "gone"] (spB (ZZ K a) F_Rule_initN)) (G_Room_init : FnOk P w K mg base CX0 2 a.f_Room_init a.fd_Room_init ["self", "rules"] (spB (ZZ K a) F_Room_initF)) : FnOk P w K mg base CX0 5 a.f_room_kept_by a.fd_room_kept_by ["parts"] (spR (ZZ K a) F_kept_by) := by
  refine T.F_room_kept_by.ok sc_room_kept_by (fun vs H Q E h => ?_) (fun cdv A outer s H vs Q E hr h => ?_)
  · obtain ⟨M, ds, Φ, _, al, ⟨pss, rfl, _⟩, _⟩ := h
    exact al.len
  · obtain ⟨M, ds, Φ, ex, al, ⟨pss, rfl, ok, fin⟩, q⟩ := h
    refine ⟨_, (pss_cons (ps_set (i := 1) sc_room_kept_by.nd rfl (Or.inr rfl) (pe_call G_lot_of (hr.mono (by decide)) (by rfl) T.m_lot_of T.F_lot_of.kp T.b_lot_of .nil pass0 (pa_cons (pe_callTy (call_listD rfl) (by rfl) T.n_list (by decide +kernel) (pa_cons (pv 0) pa_nil)) pa_nil)))
      (pss_cons (ps_set (i := 2) sc_room_kept_by.nd rfl (Or.inl rfl) (pe_lst pa_nil))
      (pss_cons (ps_for PassesOwn.never rfl (pi_tupK (K := K) rfl (pv 1)) (pg_name (i := 3) sc_room_kept_by.nd rfl (Or.inr rfl))
      (pss_cons (ps_set (i := 4) sc_room_kept_by.nd rfl (Or.inl rfl) (pe_call G_least_meeting (hr.mono (by decide)) (by rfl) T.m_least_meeting T.F_least_meeting.kp T.b_least_meeting .nil pass0 (pa_cons (pe_lc (own := [("part", 5)]) (g := (gName 5)) (tt := tYes) rfl sc_room_kept_by.nd (pi_list (pe_dget (units1 hr) (pv 0) (pv 3) (fun _ _ => rfl))) (blkOk_by (N := N_room_kept_by) (sc := defScope s_room_kept_by) (by decide +kernel)) (fun _ _ _ _ _ => (pg_name (i := 5) sc_room_kept_by.nd rfl (Or.inl rfl))) (fun _ _ _ _ _ => pts_nil) (fun _ _ _ _ _ => (pe_call G_bits_of (hr.mono (by decide)) (by rfl) T.m_bits_of T.F_bits_of.kp T.b_bits_of .nil pass0 (pa_cons (pv 1) (pa_cons (pv 5) pa_nil))))) pa_nil)))
      (pss_one (ps_expr (pe_bm PySem.F.plainAttrs_list PySem.F.slot_list_extend PySem.F.type_list_extend mt_extend (pv 2) (pa_cons (pe_lc (own := [("way", 6)]) (g := (gName 6)) (tt := tYes) rfl sc_room_kept_by.nd (pi_list (pv 4)) (blkOk_by (N := N_room_kept_by) (sc := defScope s_room_kept_by) (by decide +kernel)) (fun _ _ _ _ _ => (pg_name (i := 6) sc_room_kept_by.nd rfl (Or.inl rfl))) (fun _ _ _ _ _ => pts_nil) (fun _ _ _ _ _ => (pe_make T.mk_Rule G_Rule_init (hr.mono (by decide)) (by rfl) T.m_Rule T.b_Rule_init .nil pass0 (pa_cons (pv 3) (pa_cons (pe_call G_names_of (hr.mono (by decide)) (by rfl) T.m_names_of T.F_names_of.kp T.b_names_of .nil pass0 (pa_cons (pv 1) (pa_cons (pv 6) pa_nil))) pa_nil))))) pa_nil))))))
      (pss_one (ps_ret (pe_make T.mk_Room G_Room_init (hr.mono (by decide)) (by rfl) T.m_Room T.b_Room_init .nil pass0 (pa_cons (pv 2) pa_nil))))))), entR (n := 6) ex al rfl q ?_⟩
    walk_at "ent"
    have l7 := ok.l
    refine xs_seq <| xs_set (by decide) <| xr_call (fun _ => .nil) <| xa_cons <| xe_ofO <| xo_listD <| xe_var rfl ⟨pss.map kpE, rfl, _, rfl, xa_nil ⟨pss.map (·.1), .inr (by rw [List.map_map, List.map_map]; rfl), by rw [List.length_map]; omega, fun ns hl len => on_d ?_⟩⟩
    try dsimp only [List.set]
    have nd := GS.Asc.nodup hl.asc
    rw [List.length_map] at len
    refine xs_seq <| xs_setO (by decide) <| xo_lst <| xa_nil ⟨by simp, by simp, ?_⟩
    try dsimp only [List.set]
    refine xs_seq <| xs_for (vs := [3]) <| xi_tup <| xe_wk <| xe_var rfl ⟨ns.map .str, rfl, _, rfl, ?_⟩
    refine ⟨fun k δ => ∃ (rs : List Rl) (s3 s4 : S), δ = [.d (.dic ((pss.map kpE).map (·.1)) ((pss.map kpE).map (·.2))), .d (.tupF (ns.map .str)), .own (.lst (rs.map ruleO)), s3, s4, .no, .no] ∧ KeptI pss ns k rs, ⟨[], _, _, rfl, by simp, fun r h => (nomatch h), fun p _ h => (by simp at h)⟩, ?_, ?_⟩
    · rintro k d δ1 hk ⟨rs, s3, s4, rfl, inv⟩
      obtain ⟨x, hx, rfl⟩ : ∃ x, ns[k]? = some x ∧ D.str x = d := by rw [List.getElem?_map] at hk; exact Option.map_eq_some_iff.mp hk
      have kl := (List.getElem?_eq_some_iff.mp hx).1
      have xm := List.mem_of_getElem? hx
      obtain ⟨p, hp, rfl⟩ := List.mem_map.mp ((hl.mem x).mp xm)
      have pt := ok.pt p hp
      have tk : ns.take (k + 1) = ns.take k ++ [p.1] := GS.take_get hx
      have sub : ∀ q ∈ p.2, ∀ w ∈ q, w ∈ ns := fun q hq w hw => (hl.mem w).mpr ((pt q hq).2.2.2 w hw)
      refine xg_name (by decide) (by decide) ?_
      try dsimp only [List.set]
      refine xs_seq <| xs_set (by decide) <| xr_call (fun _ => .nil) <| xa_cons <| xe_ofO <| xo_fg (v := 5) (g := lotD) (f := fun q => .int (bo ns q)) (p := fun _ => true) <| xi_list <| xe_dget <| xe_var rfl <| xe_var rfl ⟨pss.map kpE, .inr p.1, _, rfl, rfl, kp_get ok.nd hp, _, .inl rfl, p.2, rfl, rfl, by have := ok.pl p hp; omega, fun q hq => ?_, _, rfl, xa_nil ⟨p.2.map (bo ns), ?_, fun t ht => ?_, by have := ok.pl p hp; rw [List.length_map]; omega, fun ts hts => on_d ?_⟩⟩
      · try dsimp only [List.set]
        have ql := nodup_len (pt q hq).2.1 (sub q hq)
        exact xt_yes ⟨rfl, rfl, fun _ => xr_call (fun _ => .nil) <| xa_cons <| xe_var rfl <| xa_cons <| xe_var rfl <| xa_nil ⟨ns, q, _, rfl, .inr rfl, nd, (pt q hq).2.1, sub q hq, by omega, by omega, on_d ⟨rfl, rfl⟩⟩⟩
      · rw [filter_tt]
        unfold intL
        rw [List.map_map]; rfl
      · obtain ⟨q, _, rfl⟩ := List.mem_map.mp ht
        exact bo_lt7 (by omega)
      try dsimp only [List.set]
      have tm : ∀ t ∈ ts, MinHit (p.2.map (bo ns)) t := fun t ht => (hts.is t).mp ht
      have off : ∀ t ∈ ts, t.testBit (ns.idxOf p.1) = false := fun t ht => min_off xm (fun q hq => (pt q hq).2.2.1) (tm t ht)
      have ix7 : ns.idxOf p.1 < 7 := by have := List.idxOf_lt_length_of_mem xm; omega
      have l20 : ts.length ≤ 20 := anti20 ix7 hts.nd (fun t ht => ⟨hts.lt t ht, off t ht⟩) fun r hr s hs h => (tm s hs).m r h (tm r hr).h
      refine xs_drop <| xe_ext ⟨_, rfl⟩ <| xe_ofO <| xo_fg (v := 6) (g := fun t : Nat => .int (t : Int)) (f := fun t => ruleO (p.1, wy ns t)) (p := fun _ => true) <| xi_list <| xe_var rfl ⟨_, .inl rfl, ts, rfl, rfl, by omega, fun t ht => ?_, _, rfl, ?_⟩
      · try dsimp only [List.set]
        have wl : (wy ns t).length ≤ ns.length := List.length_filter_le _ _
        refine xt_yes ⟨rfl, rfl, fun _ => xe_make (c := 0) rfl (fun _ => .nil) <| xa_cons <| xe_var rfl <| xa_cons <| xe_wk <| xr_call (fun _ => .nil) <| xa_cons <| xe_var rfl <| xa_cons <| xe_var rfl <| xa_nil ⟨ns, unb ns t, by rw [bo_unb nd (min_lt (tm t ht))]; rfl, by omega, on_d ⟨_, rfl, xa_nil ⟨p.1, wy ns t, _, rfl, rfl, .inr rfl, ok.nm p hp, fun w hw => ?_, by omega, fun lot hlot => ⟨rfl, _, rfl, rfl, ?_⟩⟩⟩⟩⟩
        · obtain ⟨h1, h2⟩ := mem_wy.mp hw
          obtain ⟨p', hp', rfl⟩ := List.mem_map.mp ((hl.mem w).mp h1)
          exact ⟨ok.nm p' hp', fun e => by rw [e, off t ht] at h2; cases h2⟩
        · have : lot = wy ns t := GS.Asc.uniq hlot.asc (hl.asc.sublist List.filter_sublist) fun x => hlot.mem x
          rw [this]; exact ⟨rfl, rfl⟩
      · refine ⟨rs.map ruleO, _, rfl, rfl, ?_, rs ++ ts.map fun t => (p.1, wy ns t), .d (.str p.1), .d (.lst (intL ts)), ?_, ?_, fun r hr => ?_, fun p' hp' hm t m => ?_⟩
        · have := inv.l
          rw [filter_tt, List.length_map, List.length_map]; omega
        · rw [filter_tt, List.map_append, show (ts.map fun t => (p.1, wy ns t)).map ruleO = ts.map fun t => ruleO (p.1, wy ns t) from by rw [List.map_map]; rfl]; rfl
        · have := inv.l
          rw [List.length_append, List.length_map]; omega
        · rcases List.mem_append.mp hr with z | z
          · obtain ⟨h1, h2⟩ := inv.is r z
            exact ⟨by rw [tk]; exact List.mem_append_left _ h1, h2⟩
          · obtain ⟨t, ht, rfl⟩ := List.mem_map.mp z
            exact ⟨by rw [tk]; simp, p, hp, rfl, t, tm t ht, rfl⟩
        · rw [tk] at hm
          rcases List.mem_append.mp hm with z | z
          · exact List.mem_append_left _ (inv.all p' hp' z t m)
          · have e : p'.1 = p.1 := List.mem_singleton.mp z
            obtain ⟨i, hi⟩ := List.mem_iff_getElem?.mp hp
            obtain ⟨j, hj⟩ := List.mem_iff_getElem?.mp hp'
            have il := (List.getElem?_eq_some_iff.mp hi).1
            have ij := (List.getElem?_inj (by rw [List.length_map]; exact il) ok.nd (j := j)).mp (by rw [List.getElem?_map, List.getElem?_map, hi, hj]; exact congrArg some e.symm)
            subst ij
            rw [hi] at hj
            cases hj
            exact List.mem_append_right _ (List.mem_map.mpr ⟨t, (hts.is t).mpr m, rfl⟩)
    · rintro δ1 ⟨rs, s3, s4, rfl, inv⟩
      rw [List.length_map] at inv
      have l140 := inv.l
      refine xs_freeze (i := 2) (by decide) rfl ?_
      try dsimp only [List.set]
      refine xs_ret <| xe_make (c := 1) rfl (fun _ => .nil) <| xa_cons <| xe_var rfl <| xa_nil ⟨rs, rfl, .inl rfl, by omega, fun r hr => ?_, fun ns' hns => ⟨rfl, _, rfl, rfl, ?_⟩⟩
      · obtain ⟨_, p, hp, h2, t, h3, h4⟩ := inv.is r hr
        rw [h4]
        have : (wy ns t).length ≤ ns.length := List.length_filter_le _ _
        omega
      · obtain ⟨rfl, kept⟩ := inv.done ok hl hns
        exact fin rs _ kept
/-! ### points peeled -/
def Hull (p : Pt) (L : List Pt) : Prop := (∃ a ∈ L, ∃ b ∈ L, Btw p a b) ∨ ∃ a ∈ L, ∃ b ∈ L, ∃ c ∈ L, Ins p a b c
theorem turn_swap (p a b : Pt) : turnI p b a = - turnI p a b := by
  unfold turnI
  rw [Int.neg_sub, Int.mul_comm (b.2.1 - p.2.1), Int.mul_comm (b.2.2 - p.2.2)]
theorem turn_self (p a : Pt) : turnI p a a = 0 := by
  have := turn_swap p a a
  omega
theorem open_swap (p a b : Pt) : openI p b a = openI p a b := by
  unfold openI
  rw [Int.mul_comm (b.2.1 - p.2.1), Int.mul_comm (b.2.2 - p.2.2)]
theorem sq_nonneg (x : Int) : 0 ≤ x * x := by rw [← Int.natAbs_mul_self]; exact Int.natCast_nonneg _
theorem open_self (p a : Pt) : 0 ≤ openI p a a := by
  unfold openI
  have h1 : 0 ≤ (a.2.1 - p.2.1) * (a.2.1 - p.2.1) := sq_nonneg _
  have h2 : 0 ≤ (a.2.2 - p.2.2) * (a.2.2 - p.2.2) := sq_nonneg _
  omega
theorem Btw.swap {p a b : Pt} (h : Btw p a b) : Btw p b a := ⟨by rw [turn_swap, h.1]; rfl, by rw [open_swap]; exact h.2⟩
theorem Btw.ne {p a b : Pt} (h : Btw p a b) : a ≠ b := fun e => by
  subst e
  have := open_self p a
  have := h.2
  omega
theorem Ins.rot {p a b c : Pt} (h : Ins p a b c) : Ins p b c a := by
  rcases h with ⟨h1, h2, h3⟩ | ⟨h1, h2, h3⟩
  · exact .inl ⟨h2, h3, h1⟩
  · exact .inr ⟨h2, h3, h1⟩
theorem Ins.flip {p a b c : Pt} (h : Ins p a b c) : Ins p b a c := by
  unfold Ins at h ⊢
  rw [turn_swap p a b, turn_swap p c a, turn_swap p b c]
  omega
theorem Ins.ne {p a b c : Pt} (h : Ins p a b c) : a ≠ b := fun e => by
  subst e
  have := turn_self p a
  unfold Ins at h
  omega
theorem aro_hull {rest : List Pt} {p : Pt} {gs : List Str} : (∃ q, AroB rest p (fun _ _ => True) q ∧ ∀ w ∈ q, w ∉ gs) ↔ Hull p (rest.filter fun u => !decide (u.1 ∈ gs)) := by
  have mf : ∀ {u i}, rest[i]? = some u → u.1 ∉ gs → u ∈ rest.filter fun u => !decide (u.1 ∈ gs) := fun {u i} h n => List.mem_filter.mpr ⟨List.mem_of_getElem? h, by simpa using n⟩
  have fm : ∀ {u}, u ∈ rest.filter (fun u => !decide (u.1 ∈ gs)) → ∃ i : Nat, rest[i]? = some u ∧ u.1 ∉ gs := fun {u} h => by
    obtain ⟨h1, h2⟩ := List.mem_filter.mp h
    obtain ⟨i, hi⟩ := List.mem_iff_getElem?.mp h1
    exact ⟨i, hi, by simpa using h2⟩
  constructor
  · rintro ⟨q, ⟨i, j, a, b, _, _, h1, h2, h3, rfl⟩ | ⟨i, j, k, a, b, c, _, _, _, h1, h2, h3, h4, rfl⟩, n⟩
    · exact .inl ⟨a, mf h1 (n _ (by simp)), b, mf h2 (n _ (by simp)), h3⟩
    · exact .inr ⟨a, mf h1 (n _ (by simp)), b, mf h2 (n _ (by simp)), c, mf h3 (n _ (by simp)), h4⟩
  · rintro (⟨a, ha, b, hb, h⟩ | ⟨a, ha, b, hb, c, hc, h⟩)
    · obtain ⟨i, hi, ni⟩ := fm ha
      obtain ⟨j, hj, nj⟩ := fm hb
      rcases Nat.lt_trichotomy i j with e | e | e
      · exact ⟨_, .inl ⟨j, i, b, a, e, trivial, hj, hi, h.swap, rfl⟩, by simp [ni, nj]⟩
      · subst e
        rw [hi] at hj; cases hj
        exact absurd rfl h.ne
      · exact ⟨_, .inl ⟨i, j, a, b, e, trivial, hi, hj, h, rfl⟩, by simp [ni, nj]⟩
    · obtain ⟨i, hi, ni⟩ := fm ha
      obtain ⟨j, hj, nj⟩ := fm hb
      obtain ⟨k, hk, nk⟩ := fm hc
      have ij : i ≠ j := fun e => by subst e; rw [hi] at hj; cases hj; exact h.ne rfl
      have jk : j ≠ k := fun e => by subst e; rw [hj] at hk; cases hk; exact h.rot.ne rfl
      have ki : k ≠ i := fun e => by subst e; rw [hk] at hi; cases hi; exact h.rot.rot.ne rfl
      have put : ∀ {i j k a b c}, k < j → j < i → rest[i]? = some a → rest[j]? = some b → rest[k]? = some c → Ins p a b c → a.1 ∉ gs → b.1 ∉ gs → c.1 ∉ gs → ∃ q, AroB rest p (fun _ _ => True) q ∧ ∀ w ∈ q, w ∉ gs := fun {i j k a b c} h1 h2 h3 h4 h5 h6 na nb nc => ⟨_, .inr ⟨i, j, k, a, b, c, h1, h2, trivial, h3, h4, h5, h6, rfl⟩, by simp [na, nb, nc]⟩
      by_cases c1 : k < j
      · by_cases c2 : j < i
        · exact put c1 c2 hi hj hk h ni nj nk
        · by_cases c3 : k < i
          · exact put c3 (by omega) hj hi hk h.flip nj ni nk
          · exact put (by omega) c1 hj hk hi h.rot nj nk ni
      · by_cases c2 : k < i
        · by_cases c3 : j < i
          · exact put (by omega) c2 hi hk hj h.rot.rot.flip.rot.rot.flip.rot.rot.flip ni nk nj
          · exact absurd c3 (by omega)
        · by_cases c3 : j < i
          · exact put c3 (by omega) hk hi hj h.rot.rot nk ni nj
          · exact put (by omega) (by omega) hk hj hi h.rot.flip nk nj ni
structure PeelR (ps : List Pt) (os : List Rl) (ns : List Str) : Prop where
  few : Few os ns
  rok : RoomOk os ns
  nm : ∀ x ∈ ns, NmOk x
  ns : ∀ x, x ∈ ns ↔ x ∈ ps.map (·.1)
  may : ∀ p ∈ ps, ∀ gs, p.1 ∈ mayS os gs ↔ p.1 ∉ gs ∧ ¬ Hull p ((restOf ps p).filter fun u => !decide (u.1 ∈ gs))
structure PeelI (ps : List Pt) (k : Nat) (pss : List PN) : Prop where
  nm : pss.map (·.1) = (ps.take k).map (·.1)
  is : ∀ e ∈ pss, ∃ p ∈ ps, e.1 = p.1 ∧ e.2.length ≤ 400 ∧ ∀ q, q ∈ e.2 ↔ AroB (restOf ps p) p (fun _ _ => True) q
theorem mem_rest {ps : List Pt} (ok : PtsOk ps) {p q : Pt} (hp : p ∈ ps) (hq : q ∈ restOf ps p) : q ∈ ps ∧ q.1 ≠ p.1 := by
  obtain ⟨h1, h2⟩ := List.mem_filter.mp hq
  refine ⟨h1, fun e => of_decide_eq_true h2 ?_⟩
  obtain ⟨i, hi⟩ := List.mem_iff_getElem?.mp hp
  obtain ⟨j, hj⟩ := List.mem_iff_getElem?.mp h1
  have il := (List.getElem?_eq_some_iff.mp hi).1
  have ij := (List.getElem?_inj (by rw [List.length_map]; exact il) ok.nn (j := j)).mp (by rw [List.getElem?_map, List.getElem?_map, hi, hj]; exact congrArg some e.symm)
  subst ij
  rw [hi] at hj
  cases hj; rfl
theorem rest_nd {ps : List Pt} (ok : PtsOk ps) (p : Pt) : ((restOf ps p).map (·.1)).Nodup := ok.nn.sublist (List.filter_sublist.map _)
theorem PeelI.pss {ps : List Pt} (ok : PtsOk ps) {pss : List PN} (h : PeelI ps ps.length pss) : PssOk pss := by
  have e : pss.map (·.1) = ps.map (·.1) := by rw [h.nm, List.take_length]
  refine ⟨?_, e ▸ ok.nn, fun p hp => ?_, fun p hp => ?_, fun p hp q hq => ?_⟩
  · have := congrArg List.length e
    rw [List.length_map, List.length_map] at this
    rw [this]; exact ok.l
  · obtain ⟨u, hu, h1, _⟩ := h.is p hp
    rw [h1]; exact (ok.ok u hu).n
  · obtain ⟨u, hu, _, h1, _⟩ := h.is p hp
    exact h1
  · obtain ⟨u, hu, h0, _, h1⟩ := h.is p hp
    have at' : ∀ {i : Nat} {a : Pt}, (restOf ps u)[i]? = some a → a.1 ≠ p.1 ∧ a.1 ∈ pss.map (·.1) := fun {i a} ha => by
      obtain ⟨h2, h3⟩ := mem_rest ok hu (List.mem_of_getElem? ha)
      exact ⟨by rw [h0]; exact h3, by rw [e]; exact List.mem_map_of_mem h2⟩
    have ne : ∀ {i j : Nat} {a b : Pt}, j < i → (restOf ps u)[i]? = some a → (restOf ps u)[j]? = some b → a.1 ≠ b.1 := fun {i j a b} lt ha hb e => by
      have il := (List.getElem?_eq_some_iff.mp ha).1
      have := (List.getElem?_inj (by rw [List.length_map]; exact il) (rest_nd ok u) (j := j)).mp (by rw [List.getElem?_map, List.getElem?_map, ha, hb]; exact congrArg some e)
      omega
    rcases (h1 q).mp hq with ⟨i, j, a, b, lt, _, ha, hb, _, rfl⟩ | ⟨i, j, k, a, b, c, lt2, lt, _, ha, hb, hc, _, rfl⟩
    · have n1 := ne lt ha hb
      obtain ⟨a1, a2⟩ := at' ha
      obtain ⟨b1, b2⟩ := at' hb
      exact ⟨by simp, by simp [n1], by simp [a1.symm, b1.symm], fun w hw => by
        rcases List.mem_cons.mp hw with rfl | hw
        · exact a2
        · rw [List.mem_singleton.mp hw]; exact b2⟩
    · have n1 := ne lt ha hb
      have n2 := ne lt2 hb hc
      have n3 := ne (Nat.lt_trans lt2 lt) ha hc
      obtain ⟨a1, a2⟩ := at' ha
      obtain ⟨b1, b2⟩ := at' hb
      obtain ⟨c1, c2⟩ := at' hc
      exact ⟨by simp, by simp [n1, n2, n3], by simp [a1.symm, b1.symm, c1.symm], fun w hw => by
        rcases List.mem_cons.mp hw with rfl | hw
        · exact a2
        · rcases List.mem_cons.mp hw with rfl | hw
          · exact b2
          · rw [List.mem_singleton.mp hw]; exact c2⟩
theorem PeelI.done {ps : List Pt} (ok : PtsOk ps) {pss : List PN} (h : PeelI ps ps.length pss) {os : List Rl} {ns : List Str} (k : KeptR pss os ns) : PeelR ps os ns := by
  have e : pss.map (·.1) = ps.map (·.1) := by rw [h.nm, List.take_length]
  refine ⟨k.few, k.rok, k.nm, fun x => by rw [k.ns, e], fun p hp gs => ?_⟩
  obtain ⟨en, he, e1⟩ := List.mem_map.mp (show p.1 ∈ pss.map (·.1) from e ▸ List.mem_map_of_mem hp)
  obtain ⟨u, hu, h0, _, h1⟩ := h.is en he
  have up : u = p := by
    by_cases c : u = p
    · exact c
    · have := (mem_rest ok hp (List.mem_filter.mpr ⟨hu, decide_eq_true c⟩)).2
      exact absurd (h0.symm.trans e1) this
  subst up
  have := k.may en he gs
  rw [e1] at this
  rw [this, ← aro_hull]
  refine and_congr_right fun _ => ⟨fun h2 ⟨q, h3, h4⟩ => ?_, fun h2 q hq => ?_⟩
  · obtain ⟨w, h5, h6⟩ := h2 q ((h1 q).mpr h3)
    exact h4 w h5 h6
  · refine Classical.byContradiction fun no => h2 ⟨q, (h1 q).mp hq, fun w hw hg => no ⟨w, hw, hg⟩⟩
theorem kp_none {pss : List PN} {x : Str} (h : x ∉ pss.map (·.1)) : dget (pss.map kpE) (.inr x) = none := by
  unfold dget
  rw [List.find?_eq_none.mpr]
  · rfl
  · intro kv hkv
    obtain ⟨e, he, rfl⟩ := List.mem_map.mp hkv
    have : e.1 ≠ x := fun z => h (List.mem_map.mpr ⟨e, he, z⟩)
    simpa [kpE] using this
def F_peeledX (K : PySem.W.Frag) (a : Ads) : FRX := fun ds Φ Ξ => ∃ d : D, ds = [d] ∧ SeqK K a d ∧ (seqOf d = none → Ξ 6 (.int 0)) ∧ ∀ xs, seqOf d = some xs → ∃ (ps : List Pt) (tl : List D), xs = ps.map ptD ++ tl ∧ xs.length ≤ 1000 ∧ PtsOk ps ∧ (tl = [] → ∀ os ns, PeelR ps os ns → Φ (.d (roomF os ns))) ∧ ∀ x rest, tl = x :: rest → TailP K a ps x ∧ Ξ 6 (.int ps.length)
theorem ok_peeledX (T : Txt K mg a) (X_check_points : FnOk P w K mg base (L2.CX P w) 3 a.f_check_points a.fd_check_points ["points"] (spRX (ZZ K a) (F_check_pointsX K a))) (G_around : FnOk P w K mg base CX0 3 a.f_around a.fd_around ["points", "point"] (spR (ZZ K a) F_around)) (G_room_kept_by : FnOk P w K mg base CX0 5 a.f_room_kept_by a.fd_room_kept_by ["parts"] (spR (ZZ K a) F_kept_by)) : FnOk P w K mg base (L2.CX P w) 6 a.f_peeled a.fd_peeled ["points"] (spRX (ZZ K a) (F_peeledX K a)) := by
  refine T.F_peeled.okX sc_peeled (fun vs H Q E h => ?_) (fun cdv A outer s H vs Q E hr h => ?_)
  · obtain ⟨M, ds, Φ, Ξ, _, al, ⟨d, rfl, _⟩, _⟩ := h
    exact al.len
  · obtain ⟨M, ds, Φ, Ξ, ex, al, ⟨d, rfl, sk, out0, rest⟩, q, qx⟩ := h
    refine ⟨_, (pss_cons (ps_expr (pe_callSD X_check_points (hr.mono (by decide)) (by rfl) T.m_check_points T.F_check_points.kp T.b_check_points .nil (fun σ => passAt (takes_of rfl rfl rfl rfl) σ) (pa_cons (pv 0) pa_nil)))
      (pss_one (ps_ret (pe_call G_room_kept_by (hr.mono (by decide)) (by rfl) T.m_room_kept_by T.F_room_kept_by.kp T.b_room_kept_by .nil pass0 (pa_cons (pe_dc (own := [("point", 1)]) (g := (gName 1)) (tt := tYes) rfl sc_peeled.nd (G.pi_or (pi_list (pv 0)) (pi_tupK (K := K) rfl (pv 0))) (blkOk_by (N := N_peeled) (sc := defScope s_peeled) (by decide +kernel)) (fun _ _ _ _ _ => (pg_name (i := 1) sc_peeled.nd rfl (Or.inl rfl))) (fun _ _ _ _ _ => pts_nil) (fun _ _ _ _ _ => (pe_ix (show IxR _ (rIx K) from ix_seq) (pv 1) pe_int (fun _ _ => rfl))) (fun _ _ _ _ _ => (pe_call G_around (hr.mono (by decide)) (by rfl) T.m_around T.F_around.kp T.b_around .nil pass0 (pa_cons (pv 0) (pa_cons (pv 1) pa_nil))))) pa_nil))))), entRX (n := 1) ex al rfl q ?_⟩
    walk_at "ent"
    refine xs_seq <| xs_dropX <| xrx_call (fun _ => .nil) <| xa_cons <| xe_var rfl <| xa_nil ⟨d, rfl, sk, fun sq => xw_R qx (out0 sq), fun xs sq => ?_⟩
    obtain ⟨ps, tl, exs, xl, ok, good, bad⟩ := rest xs sq
    refine ⟨ps, tl, exs, xl, ok, fun etl => on_d ?_, fun x rs etl => ?_⟩
    rotate_left
    · obtain ⟨h1, h2⟩ := bad x rs etl
      exact ⟨h1, xw_R qx h2⟩
    subst etl
    have fin := good rfl
    have hd : d = .lst (ps.map ptD) ∨ d = .tup (ps.map ptD) := by
      rw [List.append_nil] at exs
      subst exs
      cases d with
      | lst ys => cases sq; exact .inl rfl
      | tup ys => cases sq; exact .inr rfl
      | _ => cases sq
    have l7 := ok.l
    refine xs_ret <| xr_call (fun _ => .nil) <| xa_cons <| xe_ofOD <| xo_dc (vs := [1]) <| xi_seqV rfl hd ⟨by simp, by rw [List.length_map]; omega, fun k acc δ => δ = [.d d, .no] ∧ ∃ pss, acc = pss.map kpE ∧ PeelI ps k pss, ⟨rfl, [], rfl, by simp, fun e h => (nomatch h)⟩, ?_, ?_⟩
    · rintro k x acc δ1 bs hb hk ⟨rfl, pss, rfl, inv⟩
      obtain ⟨p, hp, rfl⟩ : ∃ p, ps[k]? = some p ∧ ptD p = x := by rw [List.getElem?_map] at hk; exact Option.map_eq_some_iff.mp hk
      have kl := (List.getElem?_eq_some_iff.mp hp).1
      have pm := List.mem_of_getElem? hp
      have tk : ps.take (k + 1) = ps.take k ++ [p] := GS.take_get hp
      refine xg_name (by decide) (hb 1 (by decide)) ?_
      try dsimp only [List.set]
      have new : p.1 ∉ pss.map (·.1) := fun c => by
        rw [inv.nm, List.mem_map] at c
        obtain ⟨u, hu, e⟩ := c
        obtain ⟨j, hj⟩ := List.mem_iff_getElem?.mp hu
        have jl := (List.getElem?_eq_some_iff.mp hj).1
        rw [List.length_take] at jl
        rw [List.getElem?_take_of_lt (by omega)] at hj
        have := (List.getElem?_inj (by rw [List.length_map]; exact kl) ok.nn (j := j)).mp (by rw [List.getElem?_map, List.getElem?_map, hp, hj]; exact congrArg some e.symm)
        omega
      refine xt_yes <| if_tt <| xe_ix <| xe_var rfl <| xe_int ⟨0, _, rfl, rfl, ?_⟩
      refine xe_ofO <| xr_call (fun _ => .nil) <| xa_cons <| xe_var rfl <| xa_cons <| xe_var rfl <| xa_nil ⟨ps, p, d, rfl, hd, l7, ok.ok, ok.ok p pm, fun qs lq mq => on_o ⟨_, rfl, .inr p.1, rfl, kp_none new, rfl, pss ++ [(p.1, qs)], by rw [List.map_append]; rfl, by rw [tk, List.map_append, List.map_append, inv.nm]; rfl, fun e he => ?_⟩⟩
      rcases List.mem_append.mp he with z | z
      · exact inv.is e z
      · rw [List.mem_singleton.mp z]
        exact ⟨p, pm, rfl, lq, mq⟩
    · rintro acc δ1 ⟨rfl, pss, rfl, inv⟩
      rw [List.length_map] at inv
      exact ⟨pss.map kpE, rfl, xa_nil ⟨pss, rfl, inv.pss ok, fun os ns k => on_d (fin os ns (inv.done ok k))⟩⟩
/-! ### edges -/
abbrev Ed := Str × Str
def edD (e : Ed) : D := .tup [.str e.1, .str e.2]
def EdsD (d : D) (es : List Ed) : Prop := d = .lst (es.map edD) ∨ d = .tup (es.map edD)
def Jn (es : List Ed) (x y : Str) : Prop := (x, y) ∈ es ∨ (y, x) ∈ es
instance (es : List Ed) (x y : Str) : Decidable (Jn es x y) := inferInstanceAs (Decidable (_ ∨ _))
theorem Jn.symm {es : List Ed} {x y : Str} (h : Jn es x y) : Jn es y x := Or.symm h
theorem pla_eds : ∀ es : List Ed, plaL (es.map edD) = true
  | [] => rfl
  | _ :: es => by
    show (true && plaL (es.map edD)) = true
    rw [pla_eds es]; rfl
theorem eqv_ed (p q : Ed) : PyData.eqv (py (edD p)) (py (edD q)) = decide (p = q) := by
  have h : PyData.eqv (py (edD p)) (py (edD q)) = (PyData.eqv (.str p.1) (.str q.1) && (PyData.eqv (.str p.2) (.str q.2) && true)) := rfl
  rw [h, eqv_sS', eqv_sS', Bool.and_true, Bool.eq_iff_iff, Bool.and_eq_true, decide_eq_true_iff, decide_eq_true_iff, decide_eq_true_iff]
  exact ⟨fun h => Prod.ext h.1 h.2, fun h => by rw [h]; exact ⟨rfl, rfl⟩⟩
theorem any_eds (m : Ed) : ∀ es : List Ed, ((pyL (es.map edD)).any fun z => PyData.eqv z (py (edD m))) = decide (m ∈ es)
  | [] => rfl
  | p :: es => by
    show (PyData.eqv (py (edD p)) (py (edD m)) || (pyL (es.map edD)).any fun z => PyData.eqv z (py (edD m))) = _
    rw [any_eds m es, eqv_ed, Bool.eq_iff_iff, Bool.or_eq_true, decide_eq_true_iff, decide_eq_true_iff, decide_eq_true_iff, List.mem_cons]
    exact ⟨fun h => h.imp Eq.symm id, fun h => h.imp Eq.symm id⟩
def StrOkE (es : List Ed) : Prop := ∀ e ∈ es, PyData.strOk e.1 = true ∧ PyData.strOk e.2 = true
theorem shp_ed {p : Ed} (h : PyData.strOk p.1 = true ∧ PyData.strOk p.2 = true) : SeqAt.shaped (py (edD p)) = true := by
  show ((PyData.tuple [PyData.str p.1, PyData.str p.2]).canLay0 && decide ((PyData.tuple [PyData.str p.1, PyData.str p.2]).depth ≤ 64)) = true
  simp [PyData.canLay0, PyData.canLay0.eq_6, PyData.depth, PyData.canLayAll0, PyData.depthAll, h]
theorem lay_eds : ∀ {es : List Ed}, StrOkE es → PyData.canLayAll0 (pyL (es.map edD)) = true ∧ PyData.depthAll (pyL (es.map edD)) ≤ 2
  | [], _ => ⟨rfl, Nat.zero_le _⟩
  | e :: es, h => by
    obtain ⟨h1, h2⟩ := lay_eds (es := es) fun x hx => h x (List.mem_cons_of_mem _ hx)
    obtain ⟨s1, s2⟩ := h e (by simp)
    refine ⟨?_, ?_⟩
    · show PyData.canLayAll0 (PyData.tuple [.str e.1, .str e.2] :: pyL (es.map edD)) = true
      simp [PyData.canLay0, PyData.canLay0.eq_6, PyData.canLayAll0, s1, s2, h1]
    · show PyData.depthAll (PyData.tuple [.str e.1, .str e.2] :: pyL (es.map edD)) ≤ 2
      simp [PyData.depth, PyData.depthAll]
      omega
theorem shp_eds {d : D} {es : List Ed} (hd : EdsD d es) (h : StrOkE es) : SeqAt.shaped (py d) = true := by
  obtain ⟨h1, h2⟩ := lay_eds h
  rcases hd with rfl | rfl
  · show ((PyData.list (pyL (es.map edD))).canLay0 && decide ((PyData.list (pyL (es.map edD))).depth ≤ 64)) = true
    simp [PyData.canLay0, PyData.depth, h1]
    omega
  · show ((PyData.tuple (pyL (es.map edD))).canLay0 && decide ((PyData.tuple (pyL (es.map edD))).depth ≤ 64)) = true
    simp [PyData.canLay0, PyData.canLay0.eq_6, PyData.depth, h1]
    omega
def F_are_joined : FR := fun ds Φ => ∃ (es : List Ed) (d : D) (x y : Str), ds = [d, .str x, .str y] ∧ EdsD d es ∧ StrOkE es ∧ PyData.strOk x = true ∧ PyData.strOk y = true ∧ Φ (.d (.bl (decide (Jn es x y))))
theorem ok_are_joined (T : Txt K mg a) : FnOk P w K mg base CX0 1 a.f_are_joined a.fd_are_joined ["edges", "one", "other"] (spR (ZZ K a) F_are_joined) := by
  refine T.F_are_joined.ok sc_are_joined (fun vs H Q E h => ?_) (fun cdv A outer s H vs Q E hr h => ?_)
  · obtain ⟨M, ds, Φ, _, al, ⟨es, d, x, y, rfl, _⟩, _⟩ := h
    exact al.len
  · obtain ⟨M, ds, Φ, ex, al, ⟨es, d, x, y, rfl, hd, ok, sx, sy, fin⟩, q⟩ := h
    refine ⟨_, (pss_one (ps_ret (pe_or (pe_cmpR (show OpR _ (compareOp .In) (GX.rInSeq K) from GX.op_inSeq (units65 hr)) (pe_tup (pa_cons (pv 1) (pa_cons (pv 2) pa_nil))) (pv 0) rfl) (pe_one (pe_cmpR (show OpR _ (compareOp .In) (GX.rInSeq K) from GX.op_inSeq (units65 hr)) (pe_tup (pa_cons (pv 2) (pa_cons (pv 1) pa_nil))) (pv 0) rfl))))), entR (n := 0) ex al rfl q ?_⟩
    walk_at "ent"
    have go : ∀ u v : Str, PyData.strOk u = true → PyData.strOk v = true → pla (edD (u, v)) = true ∧ SeqAt.shaped (py (edD (u, v))) = true := fun u v hu hv => ⟨rfl, shp_ed ⟨hu, hv⟩⟩
    refine xs_ret <| xe_orV <| xe_inSeq <| xe_tup <| xa_cons <| xe_var rfl <| xa_cons <| xe_var rfl <| xa_nil ⟨by simp, xe_var rfl ⟨es.map edD, hd, rfl, pla_eds es, (go x y sx sy).2, shp_eds hd ok, _, rfl, ?_⟩⟩
    have e1 := any_eds (x, y) es
    have e2 := any_eds (y, x) es
    rw [show D.tup [D.str x, D.str y] = edD (x, y) from rfl, e1]
    by_cases c : (x, y) ∈ es
    · rw [decide_eq_true c]
      rw [decide_eq_true (show Jn es x y from .inl c)] at fin
      exact if_tt fin
    · rw [decide_eq_false c]
      refine if_ff <| xe_inSeq <| xe_tup <| xa_cons <| xe_var rfl <| xa_cons <| xe_var rfl <| xa_nil ⟨by simp, xe_var rfl ⟨es.map edD, hd, rfl, pla_eds es, (go y x sy sx).2, shp_eds hd ok, ?_⟩⟩
      rw [show D.tup [D.str y, D.str x] = edD (y, x) from rfl, e2]
      rw [show decide (Jn es x y) = decide ((y, x) ∈ es) from by
        rw [Bool.eq_iff_iff, decide_eq_true_eq, decide_eq_true_eq]
        exact ⟨fun h => h.elim (fun h => absurd h c) id, .inr⟩] at fin
      exact fin
/-! ### corners beside one -/
def ltN (u v : Str) : Bool := PySem.W.dataLt (.str u) (.str v)
theorem ltN_tri {u v : Str} (h1 : ltN u v = false) (h2 : ltN v u = false) : u = v := by
  unfold ltN PySem.W.dataLt at h1 h2
  have e := PyProof.Rows.lex_total _ _ h1 h2
  have e2 : PySem.W.keyToksAll ([u].map .str) = PySem.W.keyToksAll ([v].map .str) := by
    show PySem.W.keyToksAll [.str u] = PySem.W.keyToksAll [.str v]
    simp [PySem.W.keyToksAll, e]
  exact (List.cons.inj (GX.toks_S e2)).1
def Unj (es : List Ed) (ns : List Str) (c : Str) : List (List Str) := (ns.filter fun u => decide (Jn es c u)).flatMap fun u => ((ns.filter fun u => decide (Jn es c u)).filter fun v => ltN u v && !decide (Jn es u v)).map fun v => [u, v]
theorem flat_take {α β : Type} {xs : List α} {f : α → List β} {i : Nat} {x : α} (h : xs[i]? = some x) : (xs.take (i + 1)).flatMap f = (xs.take i).flatMap f ++ f x := by
  rw [show xs.take (i + 1) = xs.take i ++ [x] from GS.take_get h, List.flatMap_append]; simp
def F_unjoined : FR := fun ds Φ => ∃ (es : List Ed) (d : D) (ns : List Str) (c : Str), ds = [d, .tup (ns.map .str), .str c] ∧ EdsD d es ∧ StrOkE es ∧ ns.length ≤ 100 ∧ (∀ n ∈ ns, PyData.strOk n = true) ∧ PyData.strOk c = true ∧ Φ (.own (.lst ((Unj es ns c).map lotD)))
theorem ok_unjoined (T : Txt K mg a) (G_are_joined : FnOk P w K mg base CX0 1 a.f_are_joined a.fd_are_joined ["edges", "one", "other"] (spR (ZZ K a) F_are_joined)) : FnOk P w K mg base CX0 2 a.f_unjoined_beside a.fd_unjoined_beside ["edges", "names", "corner"] (spR (ZZ K a) F_unjoined) := by
  refine T.F_unjoined_beside.ok sc_unjoined_beside (fun vs H Q E h => ?_) (fun cdv A outer s H vs Q E hr h => ?_)
  · obtain ⟨M, ds, Φ, _, al, ⟨es, d, ns, c, rfl, _⟩, _⟩ := h
    exact al.len
  · obtain ⟨M, ds, Φ, ex, al, ⟨es, d, ns, c, rfl, hd, ok, l, nok, cok, fin⟩, q⟩ := h
    refine ⟨_, (pss_cons (ps_set (i := 3) sc_unjoined_beside.nd rfl (Or.inr rfl) (pe_lc (own := [("name", 4)]) (g := (gName 4))  rfl sc_unjoined_beside.nd (pi_tupK (K := K) rfl (pv 1)) (blkOk_by (N := N_unjoined_beside) (sc := defScope s_unjoined_beside) (by decide +kernel)) (fun _ _ _ _ _ => (pg_name (i := 4) sc_unjoined_beside.nd rfl (Or.inl rfl))) (fun _ _ _ _ _ => pts_one (pt_val (pe_call G_are_joined (hr.mono (by decide)) (by rfl) T.m_are_joined T.F_are_joined.kp T.b_are_joined .nil pass0 (pa_cons (pv 0) (pa_cons (pv 2) (pa_cons (pv 4) pa_nil)))))) (fun _ _ _ _ _ => (pv 4))))
      (pss_one (ps_ret (pe_lc2 (own := [("one", 5), ("other", 6)]) (vs1 := [6]) (g := (gName 5)) (g1 := (gName 6)) (tt := tYes)  rfl sc_unjoined_beside.nd (pi_list (pv 3)) (blkOk_by (N := N_unjoined_beside) (sc := defScope s_unjoined_beside) (by decide +kernel)) (by decide) (fun _ _ _ _ _ => (pg_name (i := 5) sc_unjoined_beside.nd rfl (Or.inl rfl))) (fun _ _ _ _ _ => pts_nil) (fun _ _ _ _ _ => (pi_listK (K := K) rfl (pv 3))) (fun _ _ _ _ _ => (pg_name (i := 6) sc_unjoined_beside.nd rfl (Or.inl rfl))) (fun _ _ _ _ _ => pts_one (PW.pt (pw_and (pt_cmpR (show OpR _ _ (GX.rLtAny K) from GX.op_ltAny (units65 hr)) (pv 5) (pv 6) (nomark _)) (pw_and1 (pt_not (pt_val (pe_call G_are_joined (hr.mono (by decide)) (by rfl) T.m_are_joined T.F_are_joined.kp T.b_are_joined .nil pass0 (pa_cons (pv 0) (pa_cons (pv 5) (pa_cons (pv 6) pa_nil)))))))))) (fun _ _ _ _ _ => (pe_tup (pa_cons (pv 5) (pa_cons (pv 6) pa_nil)))))))), entR (n := 4) ex al rfl q ?_⟩
    walk_at "ent"
    refine xs_seq <| xs_set (by decide) <| xe_ofO <| xo_fg (v := 4) (g := D.str) (f := D.str) (p := fun u => decide (Jn es c u)) <| xi_tup <| xe_var rfl ⟨_, rfl, ns, rfl, rfl, by omega, fun u hu => ?_, _, rfl, ?_⟩
    · try dsimp only [List.set]
      exact xt_test <| xr_call (fun _ => .nil) <| xa_cons <| xe_var rfl <| xa_cons <| xe_var rfl <| xa_cons <| xe_var rfl <| xa_nil ⟨es, d, c, u, rfl, hd, ok, cok, nok u hu, on_d ⟨_, rfl, rfl, rfl, fun _ => xe_var rfl ⟨rfl, rfl⟩⟩⟩
    try dsimp only [List.set]
    have un : Unj es ns c = (ns.filter fun u => decide (Jn es c u)).flatMap fun u => ((ns.filter fun u => decide (Jn es c u)).filter fun v => ltN u v && !decide (Jn es u v)).map fun v => [u, v] := rfl
    have bok : ∀ u ∈ ns.filter fun u => decide (Jn es c u), PyData.strOk u = true := fun u hu => nok u (List.mem_filter.mp hu).1
    have bl : (ns.filter fun u => decide (Jn es c u)).length ≤ 100 := Nat.le_trans (List.length_filter_le _ _) l
    generalize (ns.filter fun u => decide (Jn es c u)) = us at *
    rw [un] at fin
    refine xs_retO <| xo_lc2 (vs := [5, 6]) (vs1 := [6]) <| xi_list <| xe_var rfl ⟨_, .inl rfl, fun v hv => by simp at hv; rcases hv with rfl | rfl <;> rfl, by simp, by simp; omega, fun i acc δ => δ = [.d d, .d (.tup (ns.map .str)), .d (.str c), .d (.lst (us.map .str)), .no, .no, .no] ∧ acc = ((us.take i).flatMap fun u => (us.filter fun v => ltN u v && !decide (Jn es u v)).map fun v => [u, v]).map lotD, ⟨rfl, rfl⟩, ?_, ?_⟩
    · rintro i x acc δ1 bs hb hi ⟨rfl, rfl⟩
      obtain ⟨u, hu, rfl⟩ : ∃ u, us[i]? = some u ∧ D.str u = x := by rw [List.getElem?_map] at hi; exact Option.map_eq_some_iff.mp hi
      have uok := bok u (List.mem_of_getElem? hu)
      refine xg_name (by decide) (hb _ (by decide)) ?_
      try dsimp only [List.set]
      refine xt_yes <| if_tt <| xi_list <| xe_var rfl ⟨_, .inl rfl, by simp; omega, fun v hv => by simp at hv; subst hv; rfl, fun j acc δ => δ = [.d d, .d (.tup (ns.map .str)), .d (.str c), .d (.lst (us.map .str)), .no, .d (.str u), .no] ∧ acc = ((us.take i).flatMap fun u => (us.filter fun v => ltN u v && !decide (Jn es u v)).map fun v => [u, v]).map lotD ++ (((us.take j).filter fun v => ltN u v && !decide (Jn es u v)).map fun v => [u, v]).map lotD, ⟨rfl, by simp⟩, ?_, ?_⟩
      · rintro j x acc δ5 bs5 hb5 hj ⟨rfl, rfl⟩
        obtain ⟨v, hv, rfl⟩ : ∃ v, us[j]? = some v ∧ D.str v = x := by rw [List.getElem?_map] at hj; exact Option.map_eq_some_iff.mp hj
        have vok := bok v (List.mem_of_getElem? hv)
        have tk : us.take (j + 1) = us.take j ++ [v] := GS.take_get hv
        refine xg_name (by decide) (hb5 _ (by decide)) ?_
        try dsimp only [List.set]
        have e : PySem.W.dataLt (py (.str u)) (py (.str v)) = ltN u v := rfl
        refine xt_and <| xt_test <| xe_ltAny <| xe_var rfl <| xe_var rfl ⟨rfl, rfl, rfl, nofun, by simp [py, PyData.depth], _, rfl, ?_⟩
        rw [e]
        cases h1 : ltN u v with
        | false =>
          refine if_ff <| if_ff ⟨rfl, ?_⟩
          rw [tk, List.filter_append]
          simp [h1]
        | true =>
          refine if_tt <| xt_not <| xt_test <| xr_call (fun _ => .nil) <| xa_cons <| xe_var rfl <| xa_cons <| xe_var rfl <| xa_cons <| xe_var rfl <| xa_nil ⟨es, d, u, v, rfl, hd, ok, uok, vok, on_d ⟨_, rfl, ?_⟩⟩
          by_cases h2 : Jn es u v
          · rw [decide_eq_true h2]
            refine if_nt <| ⟨rfl, ?_⟩
            rw [tk, List.filter_append]
            simp [h1, h2]
          · rw [decide_eq_false h2]
            refine if_nf <| xe_tup <| xa_cons <| xe_var rfl <| xa_cons <| xe_var rfl <| xa_nil ⟨by simp, rfl, ?_⟩
            rw [tk, List.filter_append]
            simp [h1, h2, lotD]
      · rintro acc δ5 ⟨rfl, rfl⟩
        rw [List.length_map, List.take_length]
        exact ⟨rfl, by rw [flat_take hu, List.map_append]⟩
    · rintro acc δ1 ⟨rfl, rfl⟩
      rw [List.length_map, List.take_length]
      exact fin
/-! ### edges that are good; graphs taken down -/
structure EdsOk (es : List Ed) : Prop where
  l : es.length ≤ 100
  nm : ∀ e ∈ es, NmOk e.1 ∧ NmOk e.2 ∧ e.1 ≠ e.2
  s : StrOkE es
def ends (es : List Ed) : List Str := es.flatMap fun e => [e.1, e.2]
theorem mem_ends {es : List Ed} {x : Str} : x ∈ ends es ↔ ∃ e ∈ es, x = e.1 ∨ x = e.2 := by
  unfold ends
  simp [List.mem_flatMap]
theorem Jn.ends {es : List Ed} {x y : Str} (h : Jn es x y) : x ∈ ends es ∧ y ∈ ends es := by
  rcases h with h | h
  · exact ⟨mem_ends.mpr ⟨_, h, .inl rfl⟩, mem_ends.mpr ⟨_, h, .inr rfl⟩⟩
  · exact ⟨mem_ends.mpr ⟨_, h, .inr rfl⟩, mem_ends.mpr ⟨_, h, .inl rfl⟩⟩
theorem Jn.ne {es : List Ed} (ok : EdsOk es) {x y : Str} (h : Jn es x y) : x ≠ y := by
  rcases h with h | h
  · exact (ok.nm _ h).2.2
  · exact (ok.nm _ h).2.2.symm
theorem EdsOk.end' {es : List Ed} (ok : EdsOk es) {x : Str} (h : x ∈ ends es) : NmOk x ∧ PyData.strOk x = true := by
  obtain ⟨e, he, rfl | rfl⟩ := mem_ends.mp h
  · exact ⟨(ok.nm e he).1, (ok.s e he).1⟩
  · exact ⟨(ok.nm e he).2.1, (ok.s e he).2⟩
theorem ok1_nm {x : Str} (h : NmOk x) : ok1 (.str x) := ⟨⟨_, rfl⟩, fun s e => by cases e; exact h.1⟩
theorem ed_okS {e : Ed} (h : NmOk e.1 ∧ NmOk e.2) : okS (edD e) := by
  refine ⟨⟨⟨_, rfl⟩, nofun⟩, fun xs hx => ?_⟩
  obtain rfl : xs = [.str e.1, .str e.2] := by
    rcases hx with hx | hx
    · cases hx
    · exact (D.tup.inj hx).symm
  refine ⟨by simp, fun x hx => ?_⟩
  rcases List.mem_cons.mp hx with rfl | hx
  · exact ok1_nm h.1
  · rw [List.mem_singleton.mp hx]; exact ok1_nm h.2
def EdG (d : D) : Prop := ∃ e : Ed, d = edD e ∧ NmOk e.1 ∧ NmOk e.2 ∧ e.1 ≠ e.2
def F_check_edgesX (K : PySem.W.Frag) (a : Ads) : FRX := fun ds Φ Ξ => ∃ d : D, ds = [d] ∧ SeqK K a d ∧ (seqOf d = none → Ξ 6 (.int 0)) ∧ ∀ xs, seqOf d = some xs → ∃ (es : List Ed) (tl : List D), xs = es.map edD ++ tl ∧ xs.length ≤ 1000 ∧ EdsOk es ∧ (tl = [] → Φ (.d .non)) ∧ ∀ x rest, tl = x :: rest → AnyE K a x ∧ ¬ EdG x ∧ Ξ 6 (.int es.length)
theorem ok_check_edgesX (T : Txt K mg a) (G_is_sequence : FnOk P w K mg base CX0 1 a.f_is_sequence a.fd_is_sequence ["value"] (spR (ZZ K a) (F_is_seqR K a))) (G_is_tuple_of : FnOk P w K mg base CX0 1 a.f_is_tuple_of a.fd_is_tuple_of ["value", "many"] (spR (ZZ K a) (F_tuple_of K a))) (G_are_unlike : FnOk P w K mg base CX0 3 a.f_are_unlike a.fd_are_unlike ["value"] (spR (ZZ K a) F_are_unlike)) : FnOk P w K mg base (L2.CX P w) 4 a.f_check_edges a.fd_check_edges ["edges"] (spRX (ZZ K a) (F_check_edgesX K a)) := by
  refine T.F_check_edges.okX sc_check_edges (fun vs H Q E h => ?_) (fun cdv A outer s H vs Q E hr h => ?_)
  · obtain ⟨M, ds, Φ, Ξ, _, al, ⟨d, rfl, _⟩, _⟩ := h
    exact al.len
  · obtain ⟨M, ds, Φ, Ξ, ex, al, ⟨d, rfl, sk, out0, rest⟩, q, qx⟩ := h
    refine ⟨_, (pss_cons (ps_if (pt_not (pt_val (pe_call G_is_sequence (hr.mono (by decide)) (by rfl) T.m_is_sequence T.F_is_sequence.kp T.b_is_sequence .nil pass0 (pa_cons (pv 0) pa_nil)))) (pss_one (GX.ps_raiseO rfl (takes_of rfl rfl rfl rfl) T.oe_InvalidDrawing T.ei_InvalidDrawing T.et_InvalidDrawing (ok_InvalidDrawing_init T) (hr.mono (by decide)) T.b_InvalidDrawing_init (by rfl) T.m_InvalidDrawing (pa_cons pe_int pa_nil))) pss_nil)
      (pss_one (ps_for (passes_of rfl) rfl (G.pi_or (pi_enum (by rfl) T.n_enumerate (pa_cons (pv 0) pa_nil)) (GE.pi_enumT (by rfl) T.n_enumerate (pa_cons (pv 0) pa_nil))) (pg_tup rfl (pgs_cons (pg_name (i := 1) sc_check_edges.nd rfl (Or.inl rfl)) (pgs_cons (pg_name (i := 2) sc_check_edges.nd rfl (Or.inl rfl)) pgs_nil)))
      (pss_one (ps_if (PW.pt (pw_or (pt_not (pt_val (pe_call G_is_tuple_of (hr.mono (by decide)) (by rfl) T.m_is_tuple_of T.F_is_tuple_of.kp T.b_is_tuple_of .nil pass0 (pa_cons (pv 2) (pa_cons pe_int pa_nil))))) (pw_or1 (pt_not (pt_val (pe_call G_are_unlike (hr.mono (by decide)) (by rfl) T.m_are_unlike T.F_are_unlike.kp T.b_are_unlike .nil pass0 (pa_cons (pv 2) pa_nil))))))) (pss_one (GX.ps_raiseO rfl (takes_of rfl rfl rfl rfl) T.oe_InvalidDrawing T.ei_InvalidDrawing T.et_InvalidDrawing (ok_InvalidDrawing_init T) (hr.mono (by decide)) T.b_InvalidDrawing_init (by rfl) T.m_InvalidDrawing (pa_cons (pv 1) pa_nil))) pss_nil))))), entRX (n := 2) ex al rfl q ?_⟩
    walk_at "ent"
    refine xs_seq <| xs_if <| xt_not <| xt_test <| xr_call (fun _ => .nil) <| xa_cons <| xe_var rfl <| xa_nil ⟨d, rfl, sk, on_d ⟨_, rfl, ?_⟩⟩
    cases sq : seqOf d with
    | none => exact if_nf <| xs_raise (c := 6) T.oe_InvalidDrawing T.en_InvalidDrawing <| xe_int <| xw_R qx (out0 sq)
    | some xs =>
      obtain ⟨es, tl, exs, xl, ok, fin, bad⟩ := rest xs sq
      have hd : d = .lst xs ∨ d = .tup xs := by
        cases d with
        | lst ys => cases sq; exact .inl rfl
        | tup ys => cases sq; exact .inr rfl
        | _ => cases sq
      refine if_nt <| xs_next ?_
      refine xs_for (vs := [1, 2]) <| xi_enumV (d := d) (xs := xs) rfl hd ⟨fun i δ => ∃ s1 s2 : S, δ = [.d d, s1, s2] ∧ i ≤ es.length, ⟨_, _, rfl, Nat.zero_le _⟩, ?_, ?_⟩
      · rintro i x δ1 hi ⟨s1, s2, rfl, ip⟩
        obtain ⟨y, hy, rfl⟩ := enumD_at hi
        refine xg_tup (xs := [.int i, y]) rfl <| xgs_cons <| xg_name (by decide) (by decide) <| xgs_cons <| xg_name (by decide) (by decide) <| xgs_nil ?_
        try dsimp only [List.set]
        by_cases c : i < es.length
        · obtain ⟨e, he⟩ : ∃ e, es[i]? = some e := ⟨_, List.getElem?_eq_getElem c⟩
          have ey : y = edD e := by
            rw [exs, List.getElem?_append_left (by rw [List.length_map]; exact c), List.getElem?_map, he] at hy
            exact (Option.some.inj hy).symm
          subst ey
          obtain ⟨n1, n2, ne⟩ := ok.nm e (List.mem_of_getElem? he)
          have os := ed_okS (e := e) ⟨n1, n2⟩
          refine xs_if <| xt_or <| xt_not <| xt_test <| xr_call (fun _ => .nil) <| xa_cons <| xe_var rfl <| xa_cons <| xe_int <| xa_nil ⟨_, 2, rfl, (anyE_s os).t, on_d ⟨_, rfl, if_nt ?_⟩⟩
          refine xt_not <| xt_test <| xr_call (fun _ => .nil) <| xa_cons <| xe_var rfl <| xa_nil ⟨edD e, rfl, os, fun b hb => on_d ⟨_, rfl, ?_⟩⟩
          have : b = true := hb.mpr ⟨[e.1, e.2], .inr rfl, fun w hw => by
            rcases List.mem_cons.mp hw with rfl | hw
            · exact n1.2
            · rw [List.mem_singleton.mp hw]; exact n2.2, by simp [ne]⟩
          subst this
          exact if_nt <| xs_next ⟨_, _, rfl, c⟩
        · have ei : i = es.length := by omega
          obtain ⟨rs, etl⟩ : ∃ rs, tl = y :: rs := by
            rw [exs, List.getElem?_append_right (by rw [List.length_map]; omega), List.length_map, ei, Nat.sub_self] at hy
            cases tl with
            | nil => cases hy
            | cons z zs => cases hy; exact ⟨zs, rfl⟩
          obtain ⟨any, ng, xi⟩ := bad y rs etl
          rw [← ei] at xi
          refine xs_if <| xt_or <| xt_not <| xt_test <| xr_call (fun _ => .nil) <| xa_cons <| xe_var rfl <| xa_cons <| xe_int <| xa_nil ⟨y, 2, rfl, any.t, on_d ⟨_, rfl, ?_⟩⟩
          cases l2 : isLen 2 y with
          | false => exact if_nf <| if_tt <| xs_raise (c := 6) T.oe_InvalidDrawing T.en_InvalidDrawing <| xe_var rfl <| xw_R qx xi
          | true =>
            obtain ⟨zs, rfl, lz⟩ : ∃ zs, y = .tup zs ∧ zs.length = 2 := by
              unfold isLen at l2
              cases e : isTup y with
              | none => rw [e] at l2; cases l2
              | some zs =>
                rw [e] at l2
                refine ⟨zs, ?_, of_decide_eq_true l2⟩
                cases y <;> first | (cases e; done) | (cases e; rfl)
            refine if_nt <| xt_not <| xt_test <| xr_call (fun _ => .nil) <| xa_cons <| xe_var rfl <| xa_nil ⟨_, rfl, any.s _ rfl, fun b hb => on_d ⟨_, rfl, ?_⟩⟩
            cases b with
            | false => exact if_nf <| xs_raise (c := 6) T.oe_InvalidDrawing T.en_InvalidDrawing <| xe_var rfl <| xw_R qx xi
            | true =>
              refine absurd ?_ ng
              obtain ⟨ws, hs, nm, nd⟩ := hb.mp rfl
              rcases hs with hs | hs
              · cases hs
              · have hs := D.tup.inj hs
                subst hs
                rw [List.length_map] at lz
                match ws, lz with
                | [u, v], _ => exact ⟨(u, v), rfl, nm_okR (nm u (by simp)), nm_okR (nm v (by simp)), by simpa using nd⟩
      · rintro δ1 ⟨s1, s2, rfl, ip⟩
        rw [enumD_len, exs, List.length_append, List.length_map] at ip
        refine fin ?_
        cases tl with
        | nil => rfl
        | cons x xs => rw [List.length_cons] at ip; omega
theorem seqK_eds {d : D} {es : List Ed} (h : EdsD d es) : SeqK K a d := by
  rcases h with rfl | rfl
  · exact seqK_ty (n := "list") rfl
  · exact seqK_ty (n := "tuple") rfl
theorem seq_eds {d : D} {es : List Ed} (h : EdsD d es) : seqOf d = some (es.map edD) := by rcases h with rfl | rfl <;> rfl
/-- who may leave when a graph is taken down -/
structure TakeR (es : List Ed) (os : List Rl) (ns : List Str) : Prop where
  few : Few os ns
  rok : RoomOk os ns
  nm : ∀ x ∈ ns, NmOk x
  ns : ∀ x, x ∈ ns ↔ x ∈ ends es
  may : ∀ x ∈ ends es, ∀ gs, x ∈ mayS os gs ↔ x ∉ gs ∧ ∀ u v, Jn es x u → Jn es x v → u ≠ v → ¬ Jn es u v → u ∈ gs ∨ v ∈ gs
theorem mem_unj {es : List Ed} {ns : List Str} {c : Str} {q : List Str} : q ∈ Unj es ns c ↔ ∃ u v, (u ∈ ns ∧ Jn es c u) ∧ (v ∈ ns ∧ Jn es c v) ∧ ltN u v = true ∧ ¬ Jn es u v ∧ q = [u, v] := by
  unfold Unj
  simp only [List.mem_flatMap, List.mem_filter, List.mem_map, decide_eq_true_eq, Bool.and_eq_true, Bool.not_eq_true', decide_eq_false_iff_not]
  constructor
  · rintro ⟨u, hu, v, ⟨hv, h1, h2⟩, rfl⟩
    exact ⟨u, v, hu, hv, h1, h2, rfl⟩
  · rintro ⟨u, v, hu, hv, h1, h2, rfl⟩
    exact ⟨u, hu, v, ⟨hv, h1, h2⟩, rfl⟩
theorem ltN_irr (u : Str) : ltN u u = false := PyProof.Rows.lex_irrefl _
theorem Unj.len {es : List Ed} {ns : List Str} {c : Str} (l : ns.length ≤ 7) : (Unj es ns c).length ≤ 400 := by
  unfold Unj
  have l1 : (ns.filter fun u => decide (Jn es c u)).length ≤ 7 := Nat.le_trans (List.length_filter_le _ _) l
  generalize (ns.filter fun u => decide (Jn es c u)) = us at *
  have : ∀ vs : List Str, (vs.flatMap fun u => (us.filter fun v => ltN u v && !decide (Jn es u v)).map fun v => [u, v]).length ≤ 7 * vs.length := fun vs => by
    induction vs with
    | nil => simp
    | cons v vs ih =>
      rw [List.flatMap_cons, List.length_append, List.length_map, List.length_cons]
      have := List.length_filter_le (fun w => ltN v w && !decide (Jn es v w)) us
      omega
  have := this us
  omega
theorem take_pss {es : List Ed} (ok : EdsOk es) {ns : List Str} (hl : GS.IsLot ns (ends es)) (l7 : ns.length ≤ 7) : PssOk (ns.map fun n => (n, Unj es ns n)) := by
  have e : (ns.map fun n => ((n, Unj es ns n) : PN)).map (·.1) = ns := by rw [List.map_map]; exact List.map_id ns
  refine ⟨by rw [List.length_map]; exact l7, by rw [e]; exact GS.Asc.nodup hl.asc, fun p hp => ?_, fun p hp => ?_, fun p hp q hq => ?_⟩
  · obtain ⟨n, hn, rfl⟩ := List.mem_map.mp hp
    exact (ok.end' ((hl.mem n).mp hn)).1
  · obtain ⟨n, hn, rfl⟩ := List.mem_map.mp hp
    exact Unj.len l7
  · obtain ⟨n, hn, rfl⟩ := List.mem_map.mp hp
    obtain ⟨u, v, ⟨un, ju⟩, ⟨vn, jv⟩, lt, _, rfl⟩ := mem_unj.mp hq
    have uv : u ≠ v := fun e => by rw [e, ltN_irr] at lt; cases lt
    refine ⟨by simp, by simp [uv], by simp [Jn.ne ok ju, Jn.ne ok jv], fun w hw => ?_⟩
    rw [e]
    rcases List.mem_cons.mp hw with rfl | hw
    · exact un
    · rw [List.mem_singleton.mp hw]; exact vn
theorem take_done {es : List Ed} {ns ns' : List Str} {os : List Rl} (hl : GS.IsLot ns (ends es)) (k : KeptR (ns.map fun n => (n, Unj es ns n)) os ns') : TakeR es os ns' := by
  have e : (ns.map fun n => ((n, Unj es ns n) : PN)).map (·.1) = ns := by rw [List.map_map]; exact List.map_id ns
  refine ⟨k.few, k.rok, k.nm, fun x => by rw [k.ns, e, hl.mem], fun x hx gs => ?_⟩
  have xn := (hl.mem x).mpr hx
  have := k.may (x, Unj es ns x) (List.mem_map.mpr ⟨x, xn, rfl⟩) gs
  rw [this]
  refine and_congr_right fun _ => ⟨fun h u v ju jv ne nj => ?_, fun h q hq => ?_⟩
  · have un := (hl.mem u).mpr ju.ends.2
    have vn := (hl.mem v).mpr jv.ends.2
    cases c : ltN u v with
    | true =>
      obtain ⟨w, h1, h2⟩ := h _ (mem_unj.mpr ⟨u, v, ⟨un, ju⟩, ⟨vn, jv⟩, c, nj, rfl⟩)
      rcases List.mem_cons.mp h1 with rfl | h1
      · exact .inl h2
      · rw [List.mem_singleton.mp h1] at h2; exact .inr h2
    | false =>
      have c2 : ltN v u = true := by
        cases c2 : ltN v u with
        | true => rfl
        | false => exact absurd (ltN_tri c c2) ne
      obtain ⟨w, h1, h2⟩ := h _ (mem_unj.mpr ⟨v, u, ⟨vn, jv⟩, ⟨un, ju⟩, c2, fun j => nj j.symm, rfl⟩)
      rcases List.mem_cons.mp h1 with rfl | h1
      · exact .inr h2
      · rw [List.mem_singleton.mp h1] at h2; exact .inl h2
  · obtain ⟨u, v, ⟨_, ju⟩, ⟨_, jv⟩, lt, nj, rfl⟩ := mem_unj.mp hq
    have uv : u ≠ v := fun e => by rw [e, ltN_irr] at lt; cases lt
    rcases h u v ju jv uv nj with c | c
    · exact ⟨u, by simp, c⟩
    · exact ⟨v, by simp, c⟩
def F_taken : FR := fun ds Φ => ∃ (es : List Ed) (d : D), ds = [d] ∧ EdsD d es ∧ EdsOk es ∧ (∀ ns, GS.IsLot ns (ends es) → ns.length ≤ 7) ∧ ∀ os ns, TakeR es os ns → Φ (.d (roomF os ns))
/-- what may be handed in, and what comes of it -/
def F_drawE (K : PySem.W.Frag) (a : Ads) (good : List Ed → (S → Prop) → (Nat → D → Prop) → Prop) : FRX := fun ds Φ Ξ => ∃ d : D, ds = [d] ∧ SeqK K a d ∧ (seqOf d = none → Ξ 6 (.int 0)) ∧ ∀ xs, seqOf d = some xs → ∃ (es : List Ed) (tl : List D), xs = es.map edD ++ tl ∧ xs.length ≤ 1000 ∧ EdsOk es ∧ (tl = [] → (∀ ns, GS.IsLot ns (ends es) → ns.length ≤ 7) ∧ good es Φ Ξ) ∧ ∀ x rest, tl = x :: rest → AnyE K a x ∧ ¬ EdG x ∧ Ξ 6 (.int es.length)
def F_takenX (K : PySem.W.Frag) (a : Ads) : FRX := F_drawE K a fun es Φ _ => ∀ os ns, TakeR es os ns → Φ (.d (roomF os ns))
theorem ok_takenX (T : Txt K mg a) (X_check_edges : FnOk P w K mg base (L2.CX P w) 4 a.f_check_edges a.fd_check_edges ["edges"] (spRX (ZZ K a) (F_check_edgesX K a))) (G_lot_of : FnOk P w K mg base CX0 1 a.f_lot_of a.fd_lot_of ["names"] (spR (ZZ K a) F_lot_of)) (G_unjoined_beside : FnOk P w K mg base CX0 2 a.f_unjoined_beside a.fd_unjoined_beside ["edges", "names", "corner"] (spR (ZZ K a) F_unjoined)) (G_room_kept_by : FnOk P w K mg base CX0 5 a.f_room_kept_by a.fd_room_kept_by ["parts"] (spR (ZZ K a) F_kept_by)) : FnOk P w K mg base (L2.CX P w) 6 a.f_taken_down a.fd_taken_down ["edges"] (spRX (ZZ K a) (F_takenX K a)) := by
  refine T.F_taken_down.okX sc_taken_down (fun vs H Q E h => ?_) (fun cdv A outer s H vs Q E hr h => ?_)
  · obtain ⟨M, ds, Φ, Ξ, _, al, ⟨d, rfl, _⟩, _⟩ := h
    exact al.len
  · obtain ⟨M, ds, Φ, Ξ, ex, al, ⟨d, rfl, sk, out0, rest⟩, q, qx⟩ := h
    refine ⟨_, (pss_cons (ps_expr (pe_callSD X_check_edges (hr.mono (by decide)) (by rfl) T.m_check_edges T.F_check_edges.kp T.b_check_edges .nil (fun σ => passAt (takes_of rfl rfl rfl rfl) σ) (pa_cons (pv 0) pa_nil)))
      (pss_cons (ps_set (i := 1) sc_taken_down.nd rfl (Or.inr rfl) (pe_call G_lot_of (hr.mono (by decide)) (by rfl) T.m_lot_of T.F_lot_of.kp T.b_lot_of .nil pass0 (pa_cons (pe_lc2 (own := [("edge", 2), ("name", 3)]) (vs1 := [3]) (g := (gName 2)) (g1 := (gName 3)) (tt := tYes) (tt1 := tYes) rfl sc_taken_down.nd (G.pi_or (pi_list (pv 0)) (pi_tupK (K := K) rfl (pv 0))) (blkOk_by (N := N_taken_down) (sc := defScope s_taken_down) (by decide +kernel)) (by decide) (fun _ _ _ _ _ => (pg_name (i := 2) sc_taken_down.nd rfl (Or.inl rfl))) (fun _ _ _ _ _ => pts_nil) (fun _ _ _ _ _ => (pi_tupK (K := K) rfl (pv 2))) (fun _ _ _ _ _ => (pg_name (i := 3) sc_taken_down.nd rfl (Or.inl rfl))) (fun _ _ _ _ _ => pts_nil) (fun _ _ _ _ _ => (pv 3))) pa_nil)))
      (pss_one (ps_ret (pe_call G_room_kept_by (hr.mono (by decide)) (by rfl) T.m_room_kept_by T.F_room_kept_by.kp T.b_room_kept_by .nil pass0 (pa_cons (pe_dc (own := [("name", 3)]) (g := (gName 3)) (tt := tYes) rfl sc_taken_down.nd (pi_tupK (K := K) rfl (pv 1)) (blkOk_by (N := N_taken_down) (sc := defScope s_taken_down) (by decide +kernel)) (fun _ _ _ _ _ => (pg_name (i := 3) sc_taken_down.nd rfl (Or.inl rfl))) (fun _ _ _ _ _ => pts_nil) (fun _ _ _ _ _ => (pv 3)) (fun _ _ _ _ _ => (pe_call G_unjoined_beside (hr.mono (by decide)) (by rfl) T.m_unjoined_beside T.F_unjoined_beside.kp T.b_unjoined_beside .nil pass0 (pa_cons (pv 0) (pa_cons (pv 1) (pa_cons (pv 3) pa_nil)))))) pa_nil)))))), entRX (n := 3) ex al rfl q ?_⟩
    walk_at "ent"
    refine xs_seq <| xs_dropX <| xrx_call (fun _ => .nil) <| xa_cons <| xe_var rfl <| xa_nil ⟨d, rfl, sk, fun sq => xw_R qx (out0 sq), fun xs sq => ?_⟩
    obtain ⟨es, tl, exs, xl, ok, good, bad⟩ := rest xs sq
    refine ⟨es, tl, exs, xl, ok, fun etl => on_d ?_, fun x rs etl => ?_⟩
    rotate_left
    · obtain ⟨h1, h2, h3⟩ := bad x rs etl
      exact ⟨h1, h2, xw_R qx h3⟩
    subst etl
    obtain ⟨few, fin⟩ := good rfl
    have hd : EdsD d es := by
      rw [List.append_nil] at exs
      subst exs
      cases d with
      | lst ys => cases sq; exact .inl rfl
      | tup ys => cases sq; exact .inr rfl
      | _ => cases sq
    have l100 := ok.l
    refine xs_seq <| xs_set (by decide) <| xr_call (fun _ => .nil) <| xa_cons <| xe_ofO <| xo_lc2 (vs := [2, 3]) (vs1 := [3]) <| xi_seqV rfl hd ⟨fun v hv => by simp at hv; rcases hv with rfl | rfl <;> rfl, by simp, by simp; omega, fun i acc δ => δ = [.d d, .no, .no, .no] ∧ acc = (ends (es.take i)).map .str, ⟨rfl, rfl⟩, ?_, ?_⟩
    · rintro i x acc δ1 bs hb hi ⟨rfl, rfl⟩
      obtain ⟨e, he, rfl⟩ : ∃ e, es[i]? = some e ∧ edD e = x := by rw [List.getElem?_map] at hi; exact Option.map_eq_some_iff.mp hi
      refine xg_name (by decide) (hb _ (by decide)) ?_
      try dsimp only [List.set]
      refine xt_yes <| if_tt <| xi_tup <| xe_var rfl ⟨_, rfl, by simp, fun v hv => by simp at hv; subst hv; rfl, fun j acc δ => δ = [.d d, .no, .d (edD e), .no] ∧ acc = (ends (es.take i)).map .str ++ ([e.1, e.2].take j).map .str, ⟨rfl, by simp⟩, ?_, ?_⟩
      · rintro j x acc δ5 bs5 hb5 hj ⟨rfl, rfl⟩
        obtain ⟨v, hv, rfl⟩ : ∃ v, [e.1, e.2][j]? = some v ∧ D.str v = x := by rw [show [D.str e.1, D.str e.2] = [e.1, e.2].map .str from rfl, List.getElem?_map] at hj; exact Option.map_eq_some_iff.mp hj
        refine xg_name (by decide) (hb5 _ (by decide)) ?_
        try dsimp only [List.set]
        refine xt_yes <| if_tt <| xe_var rfl ⟨rfl, ?_⟩
        rw [show [e.1, e.2].take (j + 1) = [e.1, e.2].take j ++ [v] from GS.take_get hv, List.map_append, List.append_assoc]
        rfl
      · rintro acc δ5 ⟨rfl, rfl⟩
        refine ⟨rfl, ?_⟩
        unfold ends
        rw [flat_take he, List.map_append]
        rfl
    · rintro acc δ1 ⟨rfl, rfl⟩
      rw [List.length_map, List.take_length]
      have el : (ends es).length < 4000 := by
        have : ∀ xs : List Ed, (ends xs).length = 2 * xs.length := fun xs => by
          induction xs with
          | nil => rfl
          | cons x xs ih => unfold ends at ih ⊢; rw [List.flatMap_cons, List.length_append, ih]; simp; omega
        rw [this]; omega
      refine ⟨_, rfl, xa_nil ⟨ends es, .inr rfl, el, fun ns hl len => on_d ?_⟩⟩
      try dsimp only [List.set]
      have l7 := few ns hl
      refine xs_ret <| xr_call (fun _ => .nil) <| xa_cons <| xe_ofOD <| xo_dc (vs := [3]) <| xi_tup <| xe_var rfl ⟨ns.map .str, rfl, by simp, by rw [List.length_map]; omega, fun k acc δ => δ = [.d d, .d (.tup (ns.map .str)), .no, .no] ∧ acc = ((ns.take k).map fun n => ((n, Unj es ns n) : PN)).map kpE, ⟨rfl, rfl⟩, ?_, ?_⟩
      · rintro k x acc δ1 bs hb hk ⟨rfl, rfl⟩
        obtain ⟨n, hn, rfl⟩ : ∃ n, ns[k]? = some n ∧ D.str n = x := by rw [List.getElem?_map] at hk; exact Option.map_eq_some_iff.mp hk
        have kl := (List.getElem?_eq_some_iff.mp hn).1
        have nm := List.mem_of_getElem? hn
        have tk : ns.take (k + 1) = ns.take k ++ [n] := GS.take_get hn
        have new : n ∉ ((ns.take k).map fun n => ((n, Unj es ns n) : PN)).map (·.1) := fun c => by
          rw [List.map_map] at c
          obtain ⟨m, hm, e⟩ := List.mem_map.mp c
          have e : m = n := e
          subst e
          obtain ⟨j, hj⟩ := List.mem_iff_getElem?.mp hm
          have jl := (List.getElem?_eq_some_iff.mp hj).1
          rw [List.length_take] at jl
          rw [List.getElem?_take_of_lt (by omega)] at hj
          have := (List.getElem?_inj kl (GS.Asc.nodup hl.asc)).mp (hn.trans hj.symm)
          omega
        refine xg_name (by decide) (hb _ (by decide)) ?_
        try dsimp only [List.set]
        refine xt_yes <| if_tt <| xe_var rfl <| xe_ofO <| xr_call (fun _ => .nil) <| xa_cons <| xe_var rfl <| xa_cons <| xe_var rfl <| xa_cons <| xe_var rfl <| xa_nil ⟨es, d, ns, n, rfl, hd, ok.s, by omega, fun m hm => (ok.end' ((hl.mem m).mp hm)).2, (ok.end' ((hl.mem n).mp nm)).2, on_o ⟨_, rfl, .inr n, rfl, kp_none new, rfl, ?_⟩⟩
        rw [tk, List.map_append, List.map_append]
        rfl
      · rintro acc δ1 ⟨rfl, rfl⟩
        rw [List.length_map, List.take_length]
        exact ⟨_, rfl, xa_nil ⟨_, rfl, take_pss ok hl l7, fun os ns' k => on_d (fin os ns' (take_done hl k))⟩⟩
theorem ok_taken {ps : List Str} (h : FnOk P w K mg base (L2.CX P w) 6 a.f_taken_down a.fd_taken_down ps (spRX (ZZ K a) (F_takenX K a))) : FnOk P w K mg base CX0 6 a.f_taken_down a.fd_taken_down ps (spR (ZZ K a) F_taken) := calmR h fun ds Φ ⟨es, d, e, hd, ok, few, fin⟩ => ⟨d, e, seqK_eds hd, fun sq => (by rw [seq_eds hd] at sq; cases sq), fun xs sq => by
  rw [seq_eds hd] at sq
  cases sq
  exact ⟨es, [], by simp, by rw [List.length_map]; have := ok.l; omega, ok, fun _ => ⟨few, fin⟩, fun x rs e => nomatch e⟩⟩
/-! ### edges without a ring -/
inductive Conn (es : List Ed) (x : Str) : Str → Prop
  | refl : Conn es x x
  | step {y z : Str} : Conn es x y → Jn es y z → Conn es x z
theorem Conn.trans {es : List Ed} {x y z : Str} (h : Conn es x y) (k : Conn es y z) : Conn es x z := by
  induction k with
  | refl => exact h
  | step _ j ih => exact ih.step j
theorem Conn.symm {es : List Ed} {x y : Str} (h : Conn es x y) : Conn es y x := by
  induction h with
  | refl => exact .refl
  | step _ j ih => exact (Conn.refl.step j.symm).trans ih
theorem Conn.mono {es fs : List Ed} (s : ∀ x y, Jn es x y → Jn fs x y) {x y : Str} (h : Conn es x y) : Conn fs x y := by
  induction h with
  | refl => exact .refl
  | step _ j ih => exact ih.step (s _ _ j)
theorem jn_snoc {es : List Ed} {a b x y : Str} : Jn (es ++ [(a, b)]) x y ↔ Jn es x y ∨ (x = a ∧ y = b) ∨ (x = b ∧ y = a) := by
  unfold Jn
  simp only [List.mem_append, List.mem_singleton, Prod.mk.injEq]
  constructor
  · rintro ((h | h) | (h | ⟨h, k⟩))
    · exact .inl (.inl h)
    · exact .inr (.inl h)
    · exact .inl (.inr h)
    · exact .inr (.inr ⟨k, h⟩)
  · rintro ((h | h) | h | ⟨h, k⟩)
    · exact .inl (.inl h)
    · exact .inr (.inl h)
    · exact .inl (.inr h)
    · exact .inr (.inr ⟨k, h⟩)
theorem conn_snoc {es : List Ed} {a b x y : Str} : Conn (es ++ [(a, b)]) x y ↔ Conn es x y ∨ (Conn es x a ∧ Conn es b y) ∨ (Conn es x b ∧ Conn es a y) := by
  constructor
  · intro h
    induction h with
    | refl => exact .inl .refl
    | step _ j ih =>
      rcases jn_snoc.mp j with j | ⟨rfl, rfl⟩ | ⟨rfl, rfl⟩
      · rcases ih with h | ⟨h, k⟩ | ⟨h, k⟩
        · exact .inl (h.step j)
        · exact .inr (.inl ⟨h, k.step j⟩)
        · exact .inr (.inr ⟨h, k.step j⟩)
      · rcases ih with h | ⟨h, k⟩ | ⟨h, k⟩
        · exact .inr (.inl ⟨h, .refl⟩)
        · exact .inr (.inl ⟨h, .refl⟩)
        · exact .inl h
      · rcases ih with h | ⟨h, k⟩ | ⟨h, k⟩
        · exact .inr (.inr ⟨h, .refl⟩)
        · exact .inl h
        · exact .inr (.inr ⟨h, .refl⟩)
  · have m : ∀ u v, Jn es u v → Jn (es ++ [(a, b)]) u v := fun u v j => jn_snoc.mpr (.inl j)
    have ab : Jn (es ++ [(a, b)]) a b := jn_snoc.mpr (.inr (.inl ⟨rfl, rfl⟩))
    rintro (h | ⟨h, k⟩ | ⟨h, k⟩)
    · exact h.mono m
    · exact ((h.mono m).step ab).trans (k.mono m)
    · exact ((h.mono m).step ab.symm).trans (k.mono m)
/-- no edge closes a ring with those ahead of it -/
def Acy (es : List Ed) : Prop := ∀ (i : Nat) x y, es[i]? = some (x, y) → ¬ Jn (es.take i) x y → ¬ Conn (es.take i) x y
/-- each has one beside it at most that stands lower -/
structure Low (es : List Ed) (rk : Str → Nat) : Prop where
  ne : ∀ x y, Jn es x y → rk x ≠ rk y
  one : ∀ x y z, Jn es x y → Jn es x z → rk y < rk x → rk z < rk x → y = z
inductive Desc (es : List Ed) (rk : Str → Nat) (x : Str) : Str → Prop
  | base : Desc es rk x x
  | up {z w : Str} : Desc es rk x z → Jn es z w → rk z < rk w → Desc es rk x w
theorem Desc.ge {es : List Ed} {rk : Str → Nat} {x z : Str} (h : Desc es rk x z) : rk x ≤ rk z := by
  induction h with
  | base => exact Nat.le_refl _
  | up _ _ l ih => omega
theorem desc_all {es : List Ed} {rk : Str → Nat} (low : Low es rk) {x : Str} (root : ∀ w, Jn es x w → ¬ rk w < rk x) {z : Str} (h : Conn es x z) : Desc es rk x z := by
  induction h with
  | refl => exact .base
  | @step y z _ j ih =>
    rcases Nat.lt_or_ge (rk y) (rk z) with l | l
    · exact .up ih j l
    · have l : rk z < rk y := Nat.lt_of_le_of_ne l (low.ne y z j).symm
      cases ih with
      | base => exact absurd l (root z j)
      | @up u _ d ju lu =>
        have : u = z := low.one y u z ju.symm j lu l
        exact this ▸ d
theorem jn_take {es : List Ed} {i : Nat} {x y : Str} (h : Jn (es.take i) x y) : Jn es x y := h.imp List.mem_of_mem_take List.mem_of_mem_take
theorem Low.take {es : List Ed} {rk : Str → Nat} (low : Low es rk) (i : Nat) : Low (es.take i) rk := ⟨fun x y j => low.ne x y (jn_take j), fun x y z j k => low.one x y z (jn_take j) (jn_take k)⟩
theorem Low.acy {es : List Ed} {rk : Str → Nat} (low : Low es rk) : Acy es := fun i x y he nj c => by
  have jxy : Jn es x y := .inl (List.mem_of_getElem? he)
  have key : ∀ u v, Jn es u v → ¬ Jn (es.take i) u v → Conn (es.take i) u v → rk v < rk u → False := fun u v j n c l => by
    have := (desc_all (low.take i) (x := u) (fun w jw lw => n ((low.one u v w j (jn_take jw) l lw) ▸ jw)) c).ge
    omega
  rcases Nat.lt_or_ge (rk y) (rk x) with l | l
  · exact key x y jxy nj c l
  · exact key y x jxy.symm (fun j => nj j.symm) c.symm (Nat.lt_of_le_of_ne l (low.ne x y jxy))
theorem Low.same {es fs : List Ed} {rk : Str → Nat} (low : Low es rk) (h : ∀ x y, Jn fs x y → Jn es x y) : Low fs rk := ⟨fun x y j => low.ne x y (h x y j), fun x y z j k => low.one x y z (h x y j) (h x z k)⟩
/-! ### marks -/
def mkE (p : Str × Str) : Key × D := (.inr p.1, .str p.2)
theorem mk_get {ms : List (Str × Str)} (nd : (ms.map (·.1)).Nodup) {p : Str × Str} (hp : p ∈ ms) : dget (ms.map mkE) (.inr p.1) = some (.str p.2) := by
  induction ms with
  | nil => cases hp
  | cons a ms ih =>
    obtain ⟨n1, n2⟩ := List.nodup_cons.mp nd
    rcases List.mem_cons.mp hp with rfl | h
    · simp [dget, mkE]
    · have ne : a.1 ≠ p.1 := fun e => n1 (List.mem_map.mpr ⟨p, h, e.symm⟩)
      have ih := ih n2 h
      unfold dget at ih ⊢
      rw [List.map_cons, List.find?_cons_of_neg]
      · exact ih
      · simpa [mkE] using ne
structure Mk0 (ns : List Str) (ms : List (Str × Str)) : Prop where
  nd : (ms.map (·.1)).Nodup
  is : ∀ x, x ∈ ms.map (·.1) ↔ x ∈ ns
  eq : ∀ p ∈ ms, p.2 = p.1
theorem Mk0.put {ns : List Str} {ms : List (Str × Str)} (h : Mk0 ns ms) (n : Str) : ∃ ms', dputD (ms.map mkE) (.inr n) (.str n) = ms'.map mkE ∧ Mk0 (ns ++ [n]) ms' := by
  have any : ((ms.map mkE).any fun kv => decide (kv.1 = .inr n)) = decide (n ∈ ms.map (·.1)) := by
    rw [Bool.eq_iff_iff, List.any_eq_true, decide_eq_true_eq]
    constructor
    · rintro ⟨kv, hkv, e⟩
      obtain ⟨p, hp, rfl⟩ := List.mem_map.mp hkv
      exact List.mem_map.mpr ⟨p, hp, Sum.inr.inj (of_decide_eq_true e)⟩
    · intro hm
      obtain ⟨p, hp, e⟩ := List.mem_map.mp hm
      exact ⟨mkE p, List.mem_map_of_mem hp, decide_eq_true (congrArg Sum.inr e)⟩
  unfold dputD
  rw [any]
  by_cases c : n ∈ ms.map (·.1)
  · rw [if_pos (decide_eq_true c)]
    refine ⟨ms, ?_, h.nd, fun x => ?_, h.eq⟩
    · rw [List.map_map]
      refine List.map_congr_left fun p hp => ?_
      show (if (mkE p).1 = .inr n then ((mkE p).1, D.str n) else mkE p) = mkE p
      split
      · rename_i e
        have e : p.1 = n := Sum.inr.inj e
        unfold mkE
        rw [h.eq p hp, e]
      · rfl
    · rw [h.is, List.mem_append, List.mem_singleton]
      exact ⟨.inl, fun z => z.elim id fun z => by rw [z]; exact (h.is n).mp c⟩
  · rw [if_neg (by simpa using c)]
    refine ⟨ms ++ [(n, n)], by rw [List.map_append]; rfl, ?_, fun x => ?_, fun p hp => ?_⟩
    · rw [List.map_append, List.nodup_append]
      refine ⟨h.nd, by simp, fun x hx y hy e => ?_⟩
      rw [List.mem_singleton.mp hy] at e
      have e : x = n := e
      exact c (e ▸ hx)
    · rw [List.map_append, List.mem_append, h.is, List.mem_append]
      simp
    · rcases List.mem_append.mp hp with z | z
      · exact h.eq p z
      · rw [List.mem_singleton.mp z]
structure MkI (es : List Ed) (i : Nat) (ms : List (Str × Str)) : Prop where
  nd : (ms.map (·.1)).Nodup
  is : ∀ x, x ∈ ms.map (·.1) ↔ x ∈ ends es
  eq : ∀ p ∈ ms, ∀ q ∈ ms, p.2 = q.2 ↔ Conn (es.take i) p.1 q.1
theorem conn_nil {a b : Str} (h : Conn [] a b) : a = b := by
  induction h with
  | refl => rfl
  | step _ j => rcases j with j | j <;> simp at j
theorem Mk0.start {es : List Ed} {ms : List (Str × Str)} (h : Mk0 (ends es) ms) : MkI es 0 ms := ⟨h.nd, h.is, fun p hp q hq => by
  rw [h.eq p hp, h.eq q hq]
  constructor
  · intro e; rw [e]; exact .refl
  · intro c
    exact conn_nil (by simpa using c)⟩
theorem conn_same {es : List Ed} {i : Nat} {a b : Str} (he : es[i]? = some (a, b)) (j : Jn (es.take i) a b) {x y : Str} : Conn (es.take (i + 1)) x y ↔ Conn (es.take i) x y := by
  rw [show es.take (i + 1) = es.take i ++ [(a, b)] from GS.take_get he]
  refine ⟨Conn.mono fun u v k => ?_, Conn.mono fun u v k => jn_snoc.mpr (.inl k)⟩
  rcases jn_snoc.mp k with k | ⟨rfl, rfl⟩ | ⟨rfl, rfl⟩
  · exact k
  · exact j
  · exact j.symm
theorem MkI.keep {es : List Ed} {i : Nat} {ms : List (Str × Str)} (h : MkI es i ms) {a b : Str} (he : es[i]? = some (a, b)) (j : Jn (es.take i) a b) : MkI es (i + 1) ms := ⟨h.nd, h.is, fun p hp q hq => by rw [h.eq p hp q hq, conn_same he j]⟩
def remark (kept lost : Str) (p : Str × Str) : Str × Str := (p.1, if p.2 = lost then kept else p.2)
theorem MkI.join {es : List Ed} {i : Nat} {ms : List (Str × Str)} (h : MkI es i ms) {a b u v : Str} (he : es[i]? = some (a, b)) (ha : (a, u) ∈ ms) (hb : (b, v) ∈ ms) : MkI es (i + 1) (ms.map (remark u v)) := by
  have keys : (ms.map (remark u v)).map (·.1) = ms.map (·.1) := by rw [List.map_map]; rfl
  refine ⟨by rw [keys]; exact h.nd, fun x => by rw [keys]; exact h.is x, fun p' hp' q' hq' => ?_⟩
  obtain ⟨p, hp, rfl⟩ := List.mem_map.mp hp'
  obtain ⟨q, hq, rfl⟩ := List.mem_map.mp hq'
  rw [show es.take (i + 1) = es.take i ++ [(a, b)] from GS.take_get he, conn_snoc]
  show (if p.2 = v then u else p.2) = (if q.2 = v then u else q.2) ↔ Conn (es.take i) p.1 q.1 ∨ (Conn (es.take i) p.1 a ∧ Conn (es.take i) b q.1) ∨ (Conn (es.take i) p.1 b ∧ Conn (es.take i) a q.1)
  rw [← h.eq p hp q hq, ← h.eq p hp _ ha, ← h.eq _ hb q hq, ← h.eq p hp _ hb, ← h.eq _ ha q hq]
  show (if p.2 = v then u else p.2) = (if q.2 = v then u else q.2) ↔ p.2 = q.2 ∨ (p.2 = u ∧ v = q.2) ∨ (p.2 = v ∧ u = q.2)
  by_cases c1 : p.2 = v
  · by_cases c2 : q.2 = v
    · simp [c1, c2]
    · rw [if_pos c1, if_neg c2]
      constructor
      · intro e; exact .inr (.inr ⟨c1, e⟩)
      · rintro (e | ⟨e, k⟩ | ⟨_, e⟩)
        · exact absurd (e.symm.trans c1) c2
        · exact absurd k.symm c2
        · exact e
  · by_cases c2 : q.2 = v
    · rw [if_neg c1, if_pos c2]
      constructor
      · intro e; exact .inr (.inl ⟨e, c2.symm⟩)
      · rintro (e | ⟨e, _⟩ | ⟨e, _⟩)
        · exact absurd (e.trans c2) c1
        · exact e
        · exact absurd e c1
    · rw [if_neg c1, if_neg c2]
      constructor
      · intro e; exact .inl e
      · rintro (e | ⟨_, e⟩ | ⟨e, _⟩)
        · exact e
        · exact absurd e.symm c2
        · exact absurd e c1
/-! ### the first edge that closes a ring -/
theorem mk_none {ms : List (Str × Str)} {x : Str} (h : x ∉ ms.map (·.1)) : dget (ms.map mkE) (.inr x) = none := by
  unfold dget
  rw [List.find?_eq_none.mpr]
  · rfl
  · intro kv hkv
    obtain ⟨e, he, rfl⟩ := List.mem_map.mp hkv
    have : e.1 ≠ x := fun z => h (List.mem_map.mpr ⟨e, he, z⟩)
    simpa [mkE] using this
theorem ends_len (xs : List Ed) : (ends xs).length = 2 * xs.length := by
  induction xs with
  | nil => rfl
  | cons x xs ih => unfold ends at ih ⊢; rw [List.flatMap_cons, List.length_append, ih]; simp; omega
def RingAt (es : List Ed) (i : Nat) : Prop := ∃ x y, es[i]? = some (x, y) ∧ ¬ Jn (es.take i) x y ∧ Conn (es.take i) x y
theorem acy_iff {es : List Ed} : Acy es ↔ ∀ i, ¬ RingAt es i := ⟨fun h i ⟨x, y, e, n, c⟩ => h i x y e n c, fun h i x y e n c => h i ⟨x, y, e, n, c⟩⟩
theorem no_ring {es : List Ed} {i : Nat} (nr : ∀ j < i, ¬ RingAt es j) (n : ¬ RingAt es i) : ∀ j < i + 1, ¬ RingAt es j := fun j hj r => by
  rcases Nat.lt_or_ge j i with c | c
  · exact nr j c r
  · have : j = i := by omega
    exact n (this ▸ r)
def F_ring_at : FR := fun ds Φ => ∃ (es : List Ed) (d : D), ds = [d] ∧ EdsD d es ∧ EdsOk es ∧ (Acy es → Φ (.d .non)) ∧ ∀ i, RingAt es i → (∀ j < i, ¬ RingAt es j) → Φ (.d (.int i))
theorem ok_ring_at (T : Txt K mg a) (G_are_joined : FnOk P w K mg base CX0 1 a.f_are_joined a.fd_are_joined ["edges", "one", "other"] (spR (ZZ K a) F_are_joined)) : FnOk P w K mg base CX0 2 a.f_ring_at a.fd_ring_at ["edges"] (spR (ZZ K a) F_ring_at) := by
  refine T.F_ring_at.ok sc_ring_at (fun vs H Q E h => ?_) (fun cdv A outer s H vs Q E hr h => ?_)
  · obtain ⟨M, ds, Φ, _, al, ⟨es, d, rfl, _⟩, _⟩ := h
    exact al.len
  · obtain ⟨M, ds, Φ, ex, al, ⟨es, d, rfl, hd, ok, fin, finR⟩, q⟩ := h
    refine ⟨_, (pss_cons (GX.ps_setDc2L (i := 1) (own := [("edge", 7), ("name", 8)]) (vs1 := [8]) (g := (gName 7)) (g1 := (gName 8)) rfl sc_ring_at.nd rfl rfl (GX.swD_true rfl rfl rfl (by decide +kernel)) (G.pi_or (pi_list (pv 0)) (pi_tupK (K := K) rfl (pv 0))) (blkOk_by (N := N_ring_at) (sc := defScope s_ring_at) (by decide +kernel)) (by decide) (fun _ _ _ _ _ => (pg_name (i := 7) sc_ring_at.nd rfl (Or.inl rfl))) (fun _ _ _ _ _ => (pi_tupK (K := K) rfl (pv 7))) (fun _ _ _ _ _ => (pg_name (i := 8) sc_ring_at.nd rfl (Or.inl rfl))) (fun _ _ _ _ _ => (pv 8)) (fun _ _ _ _ _ => (pv 8)))
      (pss_cons (ps_for PassesOwn.never rfl (G.pi_or (pi_enum (by rfl) T.n_enumerate (pa_cons (pv 0) pa_nil)) (GE.pi_enumT (by rfl) T.n_enumerate (pa_cons (pv 0) pa_nil))) (pg_tup rfl (pgs_cons (pg_name (i := 2) sc_ring_at.nd rfl (Or.inl rfl)) (pgs_cons (pg_tup rfl (pgs_cons (pg_name (i := 3) sc_ring_at.nd rfl (Or.inl rfl)) (pgs_cons (pg_name (i := 4) sc_ring_at.nd rfl (Or.inl rfl)) pgs_nil))) pgs_nil)))
      (pss_one (ps_if (pt_not (pt_val (pe_call G_are_joined (hr.mono (by decide)) (by rfl) T.m_are_joined T.F_are_joined.kp T.b_are_joined .nil pass0 (pa_cons (pe_slice (show SlR _ (GR.rSlS K) from GR.sl_seq) (pv 0) po_none (po_some (pv 2))) (pa_cons (pv 3) (pa_cons (pv 4) pa_nil)))))) (pss_cons (ps_asg (pe_tup (pa_cons (pe_dget (units1 hr) (pv 1) (pv 3) (fun _ _ => rfl)) (pa_cons (pe_dget (units1 hr) (pv 1) (pv 4) (fun _ _ => rfl)) pa_nil))) (pg_tup rfl (pgs_cons (pg_name (i := 5) sc_ring_at.nd rfl (Or.inr rfl)) (pgs_cons (pg_name (i := 6) sc_ring_at.nd rfl (Or.inr rfl)) pgs_nil))))
      (pss_cons (ps_if (pt_cmpR op_eq (pv 5) (pv 6) (nomark _)) (pss_one (ps_ret (pv 2))) pss_nil)
      (pss_one (GX.ps_setDcL (i := 1) (own := [("name", 8), ("mark", 9)]) (g := (gTup K 2 (gCons (gName 8) (gCons (gName 9) gNil)))) (tt := tYes) rfl sc_ring_at.nd rfl rfl (GX.swD_true rfl rfl rfl (by decide +kernel)) (pi_items (pv 1)) (blkOk_by (N := N_ring_at) (sc := defScope s_ring_at) (by decide +kernel)) (fun _ _ _ _ _ => (pg_tup rfl (pgs_cons (pg_name (i := 8) sc_ring_at.nd rfl (Or.inl rfl)) (pgs_cons (pg_name (i := 9) sc_ring_at.nd rfl (Or.inl rfl)) pgs_nil)))) (fun _ _ _ _ _ => pts_nil) (fun _ _ _ _ _ => (pv 8)) (fun _ _ _ _ _ => (pe_ifExp (pt_cmpR op_eq (pv 9) (pv 6) (nomark _)) (pv 5) (pv 9))))))) pss_nil)))
      (pss_one (ps_ret pe_non)))), entR (n := 9) ex al rfl q ?_⟩
    walk_at "ent"
    have l100 := ok.l
    refine xs_seq <| xs_set (by decide) <| xe_lk <| xo_dc2 (vs := [7, 8]) (vs1 := [8]) <| xi_seqV rfl hd ⟨fun v hv => by simp at hv; rcases hv with rfl | rfl <;> rfl, by simp; omega, fun i acc δ => δ = [.d d, .no, .no, .no, .no, .no, .no, .no, .no, .no] ∧ ∃ ms, acc = ms.map mkE ∧ Mk0 (ends (es.take i)) ms, ⟨rfl, [], rfl, by simp, by simp [ends], by simp⟩, ?_, ?_⟩
    · rintro i x acc δ1 bs hb hi ⟨rfl, ms, rfl, inv⟩
      obtain ⟨e, he, rfl⟩ : ∃ e, es[i]? = some e ∧ edD e = x := by rw [List.getElem?_map] at hi; exact Option.map_eq_some_iff.mp hi
      refine xg_name (by decide) (hb _ (by decide)) ?_
      try dsimp only [List.set]
      refine xi_tup <| xe_var rfl ⟨_, rfl, by simp, fun v hv => by simp at hv; subst hv; rfl, fun j acc δ => δ = [.d d, .no, .no, .no, .no, .no, .no, .d (edD e), .no, .no] ∧ ∃ ms, acc = ms.map mkE ∧ Mk0 (ends (es.take i) ++ [e.1, e.2].take j) ms, ⟨rfl, ms, rfl, by simpa using inv⟩, ?_, ?_⟩
      · rintro j x acc δ5 bs5 hb5 hj ⟨rfl, ms, rfl, inv⟩
        obtain ⟨v, hv, rfl⟩ : ∃ v, [e.1, e.2][j]? = some v ∧ D.str v = x := by rw [show [D.str e.1, D.str e.2] = [e.1, e.2].map .str from rfl, List.getElem?_map] at hj; exact Option.map_eq_some_iff.mp hj
        refine xg_name (by decide) (hb5 _ (by decide)) ?_
        try dsimp only [List.set]
        obtain ⟨ms', e1, inv'⟩ := inv.put v
        refine xe_var rfl <| xe_var rfl ⟨.inr v, rfl, rfl, ms', e1, ?_⟩
        rw [show [e.1, e.2].take (j + 1) = [e.1, e.2].take j ++ [v] from GS.take_get hv, ← List.append_assoc]
        exact inv'
      · rintro acc δ5 ⟨rfl, ms, rfl, inv⟩
        refine ⟨rfl, ms, rfl, ?_⟩
        unfold ends at inv ⊢
        rw [flat_take he]
        exact inv
    rintro acc δ1 ⟨rfl, ms, rfl, inv⟩
    rw [List.length_map, List.take_length] at inv
    refine ⟨_, rfl, ?_⟩
    try dsimp only [List.set]
    refine xs_seq <| xs_for (vs := [2, 3, 4]) <| xi_enumV (d := d) (xs := es.map edD) rfl hd ⟨fun i δ => ∃ (ms : List (Str × Str)) (s2 s3 s4 s5 s6 : S), δ = [.d d, .d (.dicF ((ms.map mkE).map (·.1)) ((ms.map mkE).map (·.2))), s2, s3, s4, s5, s6, .no, .no, .no] ∧ MkI es i ms ∧ ∀ j < i, ¬ RingAt es j, ⟨ms, _, _, _, _, _, rfl, inv.start, fun j h => absurd h (Nat.not_lt_zero j)⟩, ?_, ?_⟩
    · rintro i x δ1 hi ⟨ms, s2, s3, s4, s5, s6, rfl, inv, nr⟩
      obtain ⟨y, hy, rfl⟩ := enumD_at hi
      obtain ⟨e, he, rfl⟩ : ∃ e, es[i]? = some e ∧ edD e = y := by rw [List.getElem?_map] at hy; exact Option.map_eq_some_iff.mp hy
      have em := List.mem_of_getElem? he
      have sok := ok.s e em
      have le := (List.getElem?_eq_some_iff.mp he).1
      have ml : ms.length ≤ 200 := by
        have := inv.nd.length_le_of_subset fun x hx => (inv.is x).mp hx
        rw [List.length_map, ends_len] at this
        omega
      refine xg_tup (xs := [.int i, edD e]) rfl <| xgs_cons <| xg_name (by decide) (by decide) <| xgs_cons <| xg_tup (xs := [.str e.1, .str e.2]) rfl <| xgs_cons <| xg_name (by decide) (by decide) <| xgs_cons <| xg_name (by decide) (by decide) <| xgs_nil <| xgs_nil ?_
      try dsimp only [List.set]
      obtain ⟨dd, hcut, hdd⟩ : ∃ dd, cutD d none (some (i : Int)) = some dd ∧ EdsD dd (es.take i) := by
        have := cut_to (xs := es.map edD) (Int.natCast_nonneg i)
        rw [Int.toNat_natCast, ← List.map_take] at this
        rcases hd with rfl | rfl
        · exact ⟨_, by show some (D.lst (cut (es.map edD) none (some (i : Int)))) = _; rw [this], .inl rfl⟩
        · exact ⟨_, by show some (D.tup (cut (es.map edD) none (some (i : Int)))) = _; rw [this], .inr rfl⟩
      refine xs_if <| xt_not <| xt_test <| xr_call (fun _ => .nil) <| xa_cons <| xe_slS <| xe_var rfl <| xp_no <| xp_part <| xe_var rfl ⟨_, rfl, dd, hcut, xa_cons <| xe_var rfl <| xa_cons <| xe_var rfl <| xa_nil ⟨es.take i, dd, e.1, e.2, rfl, hdd, fun x hx => ok.s x (List.mem_of_mem_take hx), sok.1, sok.2, on_d ⟨_, rfl, ?_⟩⟩⟩
      by_cases jn : Jn (es.take i) e.1 e.2
      · rw [decide_eq_true jn]
        exact if_nt <| xs_next ⟨ms, _, _, _, _, _, rfl, inv.keep he jn, no_ring nr fun ⟨x, y, e1, n, _⟩ => n (by rw [he] at e1; cases e1; exact jn)⟩
      · rw [decide_eq_false jn]
        obtain ⟨⟨a1, u⟩, ha, e1⟩ := List.mem_map.mp ((inv.is e.1).mpr (mem_ends.mpr ⟨e, em, .inl rfl⟩))
        obtain ⟨⟨b1, v⟩, hb, e2⟩ := List.mem_map.mp ((inv.is e.2).mpr (mem_ends.mpr ⟨e, em, .inr rfl⟩))
        obtain rfl : a1 = e.1 := e1
        obtain rfl : b1 = e.2 := e2
        refine if_nf <| xs_seq <| xs_asg (vs := [5, 6]) <| xe_tup <| xa_cons <| xe_dgetF <| xe_var rfl <| xe_var rfl ⟨ms.map mkE, .inr e.1, _, rfl, rfl, mk_get (p := (e.1, u)) inv.nd ha, xa_cons <| xe_dgetF <| xe_var rfl <| xe_var rfl ⟨ms.map mkE, .inr e.2, _, rfl, rfl, mk_get (p := (e.2, v)) inv.nd hb, xa_nil ⟨by simp, xg_tup rfl <| xgs_cons <| xg_name (by decide) (by decide) <| xgs_cons <| xg_name (by decide) (by decide) <| xgs_nil ?_⟩⟩⟩
        try dsimp only [List.set]
        refine xs_seq <| xs_if <| xt_test <| xe_eq <| xe_var rfl <| xe_var rfl ⟨_, _, rfl, rfl, rfl, _, rfl, ?_⟩
        by_cases uv : u = v
        · rw [decide_eq_true (congrArg V.str uv)]
          exact if_tt <| xs_ret <| xe_var rfl (finR i ⟨e.1, e.2, he, jn, (inv.eq _ ha _ hb).mp uv⟩ nr)
        rw [decide_eq_false fun z => uv (V.str.inj z)]
        refine if_ff <| xs_next ?_
        refine xs_set (by decide) <| xe_lk <| xo_dc (vs := [8, 9]) <| xi_itemsF <| xe_var rfl ⟨ms.map mkE, rfl, fun v hv => by simp at hv; rcases hv with rfl | rfl <;> rfl, by rw [List.length_map, List.length_map]; omega, fun k acc δ => δ = [.d d, .d (.dicF ((ms.map mkE).map (·.1)) ((ms.map mkE).map (·.2))), .d (.int i), .d (.str e.1), .d (.str e.2), .d (.str u), .d (.str v), .no, .no, .no] ∧ acc = ((ms.take k).map (remark u v)).map mkE, ⟨rfl, rfl⟩, ?_, ?_⟩
        · rintro k x acc δ5 bs5 hb5 hk ⟨rfl, rfl⟩
          obtain ⟨p, hp, rfl⟩ : ∃ p, ms[k]? = some p ∧ D.tup [.str p.1, .str p.2] = x := by
            rw [List.map_map, List.getElem?_map] at hk
            exact Option.map_eq_some_iff.mp hk
          have kl := (List.getElem?_eq_some_iff.mp hp).1
          have tk : ms.take (k + 1) = ms.take k ++ [p] := GS.take_get hp
          refine xg_tup (xs := [.str p.1, .str p.2]) rfl <| xgs_cons <| xg_name (by decide) (hb5 _ (by decide)) <| xgs_cons <| xg_name (by decide) (hb5 _ (by decide)) <| xgs_nil ?_
          try dsimp only [List.set]
          have new : p.1 ∉ ((ms.take k).map (remark u v)).map (·.1) := fun c => by
            rw [List.map_map] at c
            obtain ⟨r, hr, e⟩ := List.mem_map.mp c
            have e : r.1 = p.1 := e
            obtain ⟨j, hj⟩ := List.mem_iff_getElem?.mp hr
            have jl := (List.getElem?_eq_some_iff.mp hj).1
            rw [List.length_take] at jl
            rw [List.getElem?_take_of_lt (by omega)] at hj
            have := (List.getElem?_inj (by rw [List.length_map]; exact kl) inv.nd (j := j)).mp (by rw [List.getElem?_map, List.getElem?_map, hp, hj]; exact congrArg some e.symm)
            omega
          refine xt_yes <| if_tt <| xe_var rfl <| xr_if <| xt_test <| xe_eq <| xe_var rfl <| xe_var rfl ⟨_, _, rfl, rfl, rfl, _, rfl, ?_⟩
          by_cases c : p.2 = v
          · rw [decide_eq_true (by rw [c])]
            refine if_tt <| xe_var rfl ⟨.inr p.1, rfl, mk_none new, rfl, ?_⟩
            rw [tk, List.map_append, List.map_append]
            unfold remark mkE
            simp [c]
          · rw [decide_eq_false fun z => c (V.str.inj z)]
            refine if_ff <| xe_var rfl ⟨.inr p.1, rfl, mk_none new, rfl, ?_⟩
            rw [tk, List.map_append, List.map_append]
            unfold remark mkE
            simp [c]
        · rintro acc δ5 ⟨rfl, rfl⟩
          rw [List.length_map, List.length_map, List.take_length]
          exact ⟨_, rfl, ms.map (remark u v), _, _, _, _, _, rfl, inv.join he ha hb, no_ring nr fun ⟨x, y, e1, _, c⟩ => uv ((inv.eq _ ha _ hb).mpr (by rw [he] at e1; cases e1; exact c))⟩
    · rintro δ1 ⟨ms, s2, s3, s4, s5, s6, rfl, inv, nr⟩
      rw [enumD_len, List.length_map] at nr
      exact xs_ret <| xe_non (fin (acy_iff.mpr fun i r => nr i (by obtain ⟨x, y, e, _⟩ := r; exact (List.getElem?_eq_some_iff.mp e).1) r))
/-! ### trees -/
def F_treeX (K : PySem.W.Frag) (a : Ads) : FRX := F_drawE K a fun es Φ Ξ => (Acy es → ∀ os ns, TakeR es os ns → Φ (.d (roomF os ns))) ∧ ∀ i, RingAt es i → (∀ j < i, ¬ RingAt es j) → Ξ 6 (.int i)
theorem ok_treeX (T : Txt K mg a) (X_check_edges : FnOk P w K mg base (L2.CX P w) 4 a.f_check_edges a.fd_check_edges ["edges"] (spRX (ZZ K a) (F_check_edgesX K a))) (G_ring_at : FnOk P w K mg base CX0 2 a.f_ring_at a.fd_ring_at ["edges"] (spR (ZZ K a) F_ring_at)) (G_taken_down : FnOk P w K mg base CX0 6 a.f_taken_down a.fd_taken_down ["edges"] (spR (ZZ K a) F_taken)) : FnOk P w K mg base (L2.CX P w) 7 a.f_tree a.fd_tree ["edges"] (spRX (ZZ K a) (F_treeX K a)) := by
  refine T.F_tree.okX sc_tree (fun vs H Q E h => ?_) (fun cdv A outer s H vs Q E hr h => ?_)
  · obtain ⟨M, ds, Φ, Ξ, _, al, ⟨d, rfl, _⟩, _⟩ := h
    exact al.len
  · obtain ⟨M, ds, Φ, Ξ, ex, al, ⟨d, rfl, sk, out0, rest⟩, q, qx⟩ := h
    refine ⟨_, (pss_cons (ps_expr (pe_callSD X_check_edges (hr.mono (by decide)) (by rfl) T.m_check_edges T.F_check_edges.kp T.b_check_edges .nil (fun σ => passAt (takes_of rfl rfl rfl rfl) σ) (pa_cons (pv 0) pa_nil)))
      (pss_cons (ps_set (i := 1) sc_tree.nd rfl (Or.inl rfl) (pe_call G_ring_at (hr.mono (by decide)) (by rfl) T.m_ring_at T.F_ring_at.kp T.b_ring_at .nil pass0 (pa_cons (pv 0) pa_nil)))
      (pss_cons (ps_if (pt_cmpR GS.op_notX (pv 1) pe_non (nomark _)) (pss_one (GX.ps_raiseO rfl (takes_of rfl rfl rfl rfl) T.oe_InvalidDrawing T.ei_InvalidDrawing T.et_InvalidDrawing (ok_InvalidDrawing_init T) (hr.mono (by decide)) T.b_InvalidDrawing_init (by rfl) T.m_InvalidDrawing (pa_cons (pv 1) pa_nil))) pss_nil)
      (pss_one (ps_ret (pe_call G_taken_down (hr.mono (by decide)) (by rfl) T.m_taken_down T.F_taken_down.kp T.b_taken_down .nil pass0 (pa_cons (pv 0) pa_nil))))))), entRX (n := 1) ex al rfl q ?_⟩
    walk_at "ent"
    refine xs_seq <| xs_dropX <| xrx_call (fun _ => .nil) <| xa_cons <| xe_var rfl <| xa_nil ⟨d, rfl, sk, fun sq => xw_R qx (out0 sq), fun xs sq => ?_⟩
    obtain ⟨es, tl, exs, xl, ok, good, bad⟩ := rest xs sq
    refine ⟨es, tl, exs, xl, ok, fun etl => on_d ?_, fun x rs etl => ?_⟩
    rotate_left
    · obtain ⟨h1, h2, h3⟩ := bad x rs etl
      exact ⟨h1, h2, xw_R qx h3⟩
    subst etl
    obtain ⟨few, fin, ring⟩ := good rfl
    have hd : EdsD d es := by
      rw [List.append_nil] at exs
      subst exs
      cases d with
      | lst ys => cases sq; exact .inl rfl
      | tup ys => cases sq; exact .inr rfl
      | _ => cases sq
    refine xs_seq <| xs_set (by decide) <| xr_call (fun _ => .nil) <| xa_cons <| xe_var rfl <| xa_nil ⟨es, d, rfl, hd, ok, fun acy => on_d ?_, fun i r nr => on_d ?_⟩
    · try dsimp only [List.set]
      refine xs_seq <| xs_if <| xt_test <| xe_notN <| xe_var rfl ⟨_, rfl, if_ff <| xs_next ?_⟩
      exact xs_ret <| xr_call (fun _ => .nil) <| xa_cons <| xe_var rfl <| xa_nil ⟨es, d, rfl, hd, ok, few, fun os ns k => on_d (fin acy os ns k)⟩
    · try dsimp only [List.set]
      exact xs_seq <| xs_if <| xt_test <| xe_notN <| xe_var rfl ⟨_, rfl, if_tt <| xs_raise (c := 6) T.oe_InvalidDrawing T.en_InvalidDrawing <| xe_var rfl <| xw_R qx (ring i r nr)⟩
/-! ### what is refused -/
def RefE (K : PySem.W.Frag) (a : Ads) (xs : List D) (Φ : S → Prop) (good : List Ed → Prop) : Prop := ∃ (es : List Ed) (tl : List D), xs = es.map edD ++ tl ∧ xs.length ≤ 1000 ∧ EdsOk es ∧ (tl = [] → (∀ ns, GS.IsLot ns (ends es) → ns.length ≤ 7) ∧ good es) ∧ ∀ x rest, tl = x :: rest → AnyE K a x ∧ ¬ EdG x ∧ Φ (.d (.int es.length))
def RefP (K : PySem.W.Frag) (a : Ads) (xs : List D) (Φ : S → Prop) : Prop := ∃ (ps : List Pt) (tl : List D), xs = ps.map ptD ++ tl ∧ xs.length ≤ 1000 ∧ PtsOk ps ∧ (tl = [] → Φ (.d .non)) ∧ ∀ x rest, tl = x :: rest → TailP K a ps x ∧ Φ (.d (.int ps.length))
def Ref42 (K : PySem.W.Frag) (a : Ads) (f : Nat) (xs : List D) (Φ : S → Prop) : Prop := (f = 0 → RefE K a xs Φ fun es => (Acy es → Φ (.d .non)) ∧ ∀ i, RingAt es i → (∀ j < i, ¬ RingAt es j) → Φ (.d (.int i))) ∧ (f = 1 → RefE K a xs Φ fun _ => Φ (.d .non)) ∧ (f = 2 → RefP K a xs Φ)
def F_ref42 (K : PySem.W.Frag) (a : Ads) : FR := fun ds Φ => ∃ (f : Nat) (d : D), ds = [.int f, d] ∧ f < 3 ∧ SeqK K a d ∧ (seqOf d = none → Φ (.d (.int 0))) ∧ ∀ xs, seqOf d = some xs → Ref42 K a f xs Φ
theorem ok_ref42 (T : Txt K mg a) (X_tree : FnOk P w K mg base (L2.CX P w) 7 a.f_tree a.fd_tree ["edges"] (spRX (ZZ K a) (F_treeX K a))) (X_taken_down : FnOk P w K mg base (L2.CX P w) 6 a.f_taken_down a.fd_taken_down ["edges"] (spRX (ZZ K a) (F_takenX K a))) (X_peeled : FnOk P w K mg base (L2.CX P w) 6 a.f_peeled a.fd_peeled ["points"] (spRX (ZZ K a) (F_peeledX K a))) : FnOk P w K mg base CX0 8 a.f_lw_refused a.fd_lw_refused ["_law_form", "_law_value"] (spR (ZZ K a) (F_ref42 K a)) := by
  refine T.F_lw_refused.ok sc_lw_refused (fun vs H Q E h => ?_) (fun cdv A outer s H vs Q E hr h => ?_)
  · obtain ⟨M, ds, Φ, _, al, ⟨f, d, rfl, _⟩, _⟩ := h
    exact al.len
  · obtain ⟨M, ds, Φ, ex, al, ⟨f, d, rfl, f3, sk, out0, rest⟩, q⟩ := h
    refine ⟨_, (pss_cons (ps_set (i := 2) sc_lw_refused.nd rfl (Or.inl rfl) pe_non)
      (pss_cons (GX.ps_tryT (i := 3) rfl rfl sc_lw_refused.nd rfl rfl ⟨rfl, by decide, Or.inl T.m_InvalidDrawing⟩ takes0 (fun W1 pn1 xe1 tk1 po1 => (pss_one (ps_if (pt_cmpR op_eq (pv 0) pe_int (nomark _)) (pss_one (ps_expr (pe_callSD X_tree (hr.mono (by decide)) (by rfl) T.m_tree T.F_tree.kp T.b_tree .nil (fun σ => passAt tk1 σ) (pa_cons (pv 1) pa_nil)))) (pss_one (ps_if (pt_cmpR op_eq (pv 0) pe_int (nomark _)) (pss_one (ps_expr (pe_callSD X_taken_down (hr.mono (by decide)) (by rfl) T.m_taken_down T.F_taken_down.kp T.b_taken_down .nil (fun σ => passAt tk1 σ) (pa_cons (pv 1) pa_nil)))) (pss_one (ps_expr (pe_callSD X_peeled (hr.mono (by decide)) (by rfl) T.m_peeled T.F_peeled.kp T.b_peeled .nil (fun σ => passAt tk1 σ) (pa_cons (pv 1) pa_nil)))))))))
      (fun ax1 oe1 cx1 dx1 pm1 hz1 hf1 => (pss_one (ps_set (i := 2) sc_lw_refused.nd rfl (Or.inl rfl) (pe_ifExp (PW.pt (pw_and (pt_val (pe_callB (GX.call_isED rfl T.xc_InvalidDrawing hz1 hf1) (by rfl) T.n_isinstance (by decide +kernel) (pa_cons (pv 3) (pa_cons (pe_glob (v := .ref a.C_LeaveError) rfl T.m_LeaveError rfl) pa_nil)))) (pw_and1 (pt_not (pt_val (pe_callB (GX.call_isED rfl T.xc_InvalidDrawing hz1 hf1) (by rfl) T.n_isinstance (by decide +kernel) (pa_cons (pv 3) (pa_cons (pe_glob (v := .ref a.C_InvalidOrder) rfl T.m_InvalidOrder rfl) pa_nil)))))))) (pe_xf T.xf_InvalidDrawing T.en_InvalidDrawing hz1 hf1 (pv 3)) pe_str)))))
      (pss_one (ps_ret (pv 2))))), entR (n := 2) ex al rfl q ?_⟩
    walk_at "ent"
    refine xs_seq <| xs_set (by decide) <| xe_non ?_
    dsimp only [List.set]
    refine xs_seq <| xs_tryT fun _ => ?_
    have cs : f = 0 ∨ f = 1 ∨ f = 2 := by omega
    rcases cs with rfl | rfl | rfl
    · refine xs_if <| xt_test <| xe_eq <| xe_var rfl <| xe_int ⟨_, _, rfl, rfl, rfl, _, rfl, ?_⟩
      rw [show decide (V.int ((0 : Nat) : Int) = V.int 0) = true from rfl]
      refine if_tt <| xs_dropX <| xrx_call (fun _ => .nil) <| xa_cons <| xe_var rfl <| xa_nil ⟨d, rfl, sk, fun sq => ?_, fun xs sq => ?_⟩
      · refine xw_as (c := 6) T.em_InvalidDrawing (by decide) <| fun ax dd => xs_set (by decide) <| xr_if <| xt_and <| xt_B <| xe_isED T.kl_InvalidDrawing_LeaveError <| xe_var rfl ⟨_, _, rfl, true, rfl, if_tt <| xt_not <| xt_B <| xe_isED T.kl_InvalidDrawing_InvalidOrder <| xe_var rfl ⟨_, _, rfl, false, rfl, if_nf <| xe_xf <| xe_var rfl ⟨_, rfl, ?_⟩⟩⟩
        exact xs_ret <| xe_var rfl (out0 sq)
      · obtain ⟨es, tl, exs, xl, ok, good, bad⟩ := (rest xs sq).1 rfl
        refine ⟨es, tl, exs, xl, ok, fun etl => ?_, fun x rs etl => ?_⟩
        · obtain ⟨few, g1, g2⟩ := good etl
          refine ⟨few, fun acy os ns _ => on_d <| xs_ret <| xe_var rfl (g1 acy), fun i r nr => ?_⟩
          refine xw_as (c := 6) T.em_InvalidDrawing (by decide) <| fun ax dd => xs_set (by decide) <| xr_if <| xt_and <| xt_B <| xe_isED T.kl_InvalidDrawing_LeaveError <| xe_var rfl ⟨_, _, rfl, true, rfl, if_tt <| xt_not <| xt_B <| xe_isED T.kl_InvalidDrawing_InvalidOrder <| xe_var rfl ⟨_, _, rfl, false, rfl, if_nf <| xe_xf <| xe_var rfl ⟨_, rfl, ?_⟩⟩⟩
          exact xs_ret <| xe_var rfl (g2 i r nr)
        · obtain ⟨h1, h2, h3⟩ := bad x rs etl
          refine ⟨h1, h2, ?_⟩
          refine xw_as (c := 6) T.em_InvalidDrawing (by decide) <| fun ax dd => xs_set (by decide) <| xr_if <| xt_and <| xt_B <| xe_isED T.kl_InvalidDrawing_LeaveError <| xe_var rfl ⟨_, _, rfl, true, rfl, if_tt <| xt_not <| xt_B <| xe_isED T.kl_InvalidDrawing_InvalidOrder <| xe_var rfl ⟨_, _, rfl, false, rfl, if_nf <| xe_xf <| xe_var rfl ⟨_, rfl, ?_⟩⟩⟩
          exact xs_ret <| xe_var rfl h3
    · refine xs_if <| xt_test <| xe_eq <| xe_var rfl <| xe_int ⟨_, _, rfl, rfl, rfl, _, rfl, ?_⟩
      rw [show decide (V.int ((1 : Nat) : Int) = V.int 0) = false from rfl]
      refine if_ff <| xs_if <| xt_test <| xe_eq <| xe_var rfl <| xe_int ⟨_, _, rfl, rfl, rfl, _, rfl, ?_⟩
      rw [show decide (V.int ((1 : Nat) : Int) = V.int 1) = true from rfl]
      refine if_tt <| xs_dropX <| xrx_call (fun _ => .nil) <| xa_cons <| xe_var rfl <| xa_nil ⟨d, rfl, sk, fun sq => ?_, fun xs sq => ?_⟩
      · refine xw_as (c := 6) T.em_InvalidDrawing (by decide) <| fun ax dd => xs_set (by decide) <| xr_if <| xt_and <| xt_B <| xe_isED T.kl_InvalidDrawing_LeaveError <| xe_var rfl ⟨_, _, rfl, true, rfl, if_tt <| xt_not <| xt_B <| xe_isED T.kl_InvalidDrawing_InvalidOrder <| xe_var rfl ⟨_, _, rfl, false, rfl, if_nf <| xe_xf <| xe_var rfl ⟨_, rfl, ?_⟩⟩⟩
        exact xs_ret <| xe_var rfl (out0 sq)
      · obtain ⟨es, tl, exs, xl, ok, good, bad⟩ := (rest xs sq).2.1 rfl
        refine ⟨es, tl, exs, xl, ok, fun etl => ?_, fun x rs etl => ?_⟩
        · obtain ⟨few, g1⟩ := good etl
          exact ⟨few, fun os ns _ => on_d <| xs_ret <| xe_var rfl g1⟩
        · obtain ⟨h1, h2, h3⟩ := bad x rs etl
          refine ⟨h1, h2, ?_⟩
          refine xw_as (c := 6) T.em_InvalidDrawing (by decide) <| fun ax dd => xs_set (by decide) <| xr_if <| xt_and <| xt_B <| xe_isED T.kl_InvalidDrawing_LeaveError <| xe_var rfl ⟨_, _, rfl, true, rfl, if_tt <| xt_not <| xt_B <| xe_isED T.kl_InvalidDrawing_InvalidOrder <| xe_var rfl ⟨_, _, rfl, false, rfl, if_nf <| xe_xf <| xe_var rfl ⟨_, rfl, ?_⟩⟩⟩
          exact xs_ret <| xe_var rfl h3
    · refine xs_if <| xt_test <| xe_eq <| xe_var rfl <| xe_int ⟨_, _, rfl, rfl, rfl, _, rfl, ?_⟩
      rw [show decide (V.int ((2 : Nat) : Int) = V.int 0) = false from rfl]
      refine if_ff <| xs_if <| xt_test <| xe_eq <| xe_var rfl <| xe_int ⟨_, _, rfl, rfl, rfl, _, rfl, ?_⟩
      rw [show decide (V.int ((2 : Nat) : Int) = V.int 1) = false from rfl]
      refine if_ff <| xs_dropX <| xrx_call (fun _ => .nil) <| xa_cons <| xe_var rfl <| xa_nil ⟨d, rfl, sk, fun sq => ?_, fun xs sq => ?_⟩
      · refine xw_as (c := 6) T.em_InvalidDrawing (by decide) <| fun ax dd => xs_set (by decide) <| xr_if <| xt_and <| xt_B <| xe_isED T.kl_InvalidDrawing_LeaveError <| xe_var rfl ⟨_, _, rfl, true, rfl, if_tt <| xt_not <| xt_B <| xe_isED T.kl_InvalidDrawing_InvalidOrder <| xe_var rfl ⟨_, _, rfl, false, rfl, if_nf <| xe_xf <| xe_var rfl ⟨_, rfl, ?_⟩⟩⟩
        exact xs_ret <| xe_var rfl (out0 sq)
      · obtain ⟨ps, tl, exs, xl, ok, good, bad⟩ := (rest xs sq).2.2 rfl
        refine ⟨ps, tl, exs, xl, ok, fun etl os ns _ => on_d <| xs_ret <| xe_var rfl (good etl), fun x rs etl => ?_⟩
        obtain ⟨h1, h2⟩ := bad x rs etl
        refine ⟨h1, ?_⟩
        refine xw_as (c := 6) T.em_InvalidDrawing (by decide) <| fun ax dd => xs_set (by decide) <| xr_if <| xt_and <| xt_B <| xe_isED T.kl_InvalidDrawing_LeaveError <| xe_var rfl ⟨_, _, rfl, true, rfl, if_tt <| xt_not <| xt_B <| xe_isED T.kl_InvalidDrawing_InvalidOrder <| xe_var rfl ⟨_, _, rfl, false, rfl, if_nf <| xe_xf <| xe_var rfl ⟨_, rfl, ?_⟩⟩⟩
        exact xs_ret <| xe_var rfl h2
/-! ### setdefault of an own dict; its keys listed -/
theorem xe_dsetd {Z : Wd} {δ : List S} {tk tv : TE} {Φ : D → List S → Prop} {i : Nat} (hv : ∃ kvs, δ[i]? = some (.own (.dic kvs))) (h : XE Z tk δ fun b δ1 => XE Z tv δ1 fun d δ2 => ∃ kvs k, δ2[i]? = some (.own (.dic kvs)) ∧ b = keyD k ∧ kvs.length < 1000000 ∧ (∀ d', dget kvs k = some d' → Φ d' δ2) ∧ (dget kvs k = none → Φ d (δ2.set i (.own (.dic (kvs ++ [(k, d)])))))) : XE Z (tDSetd (tVar i) tk tv) δ Φ := XE.mk fun B W M H σ Q I q => by
  obtain ⟨kv0, hy⟩ := hv
  obtain ⟨o, e, p, ho, rfl, hp0, hy0, _⟩ := I.sl i _ hy
  obtain ⟨us0, rfl, _, _⟩ := hy0.dicI
  refine ⟨_, e, p, rfl, .inl ⟨_, .inl hp0⟩, h.run I fun M1 H1 δ1 v b h1 e1 I1 at1 => XE.run h1 I1 fun M2 H2 δ2 x d h2 e2 I2 at2 => ?_⟩
  obtain ⟨kvs, k, hx, rfl, hl, yes, no⟩ := h2
  obtain ⟨o', e', p', ho', rfl, hp', hy', _⟩ := I2.sl i _ hx
  rw [e] at e'; cases e'
  obtain ⟨us, rfl, ks, a⟩ := hy'.dicI
  cases key_at (at1.mono e2)
  have lu : us.length = kvs.length := by simpa using congrArg List.length ks
  refine ⟨us, k, hp', rfl, Nat.lt_of_lt_of_le (by rw [lu]; exact hl) (by decide), fun v hv => ?_, fun hn => ?_⟩
  · cases hd : dget kvs k with
    | none =>
      have := (dget_at ks a).1 hd
      rw [this] at hv; cases hv
    | some d' =>
      obtain ⟨v1, hv1, a1⟩ := (dget_at ks a).2 d' hd
      rw [hv1] at hv; cases hv
      exact q M2 H2 δ2 _ _ (yes d' hd) (e1.tr e2) I2 a1
  · cases hd : dget kvs k with
    | none =>
      have put : putK us k x = us ++ [(k, x)] := by unfold putK; rw [valV_any, hn]; rfl
      rw [put]
      refine q M2 _ _ _ _ (no hd) (e1.tr e2) (I2.write e hx (ho := .dK _) (y' := .dic _) ⟨by simp [ks], ?_⟩) at2
      rw [List.map_append, List.map_append]
      exact AtL.app a (.one at2)
    | some d' =>
      obtain ⟨v1, hv1, _⟩ := (dget_at ks a).2 d' hd
      rw [hv1] at hn; cases hn
theorem xo_listDO {Z : Wd} {δ : List S} {Ω : OD → List S → Prop} {i : Nat} {kvs : List (Key × D)} (h : δ[i]? = some (.own (.dic kvs))) (k : Ω (.lst (kvs.map fun kv => keyD kv.1)) δ) : XO Z (tCB (fun xs H Q => ∃ (a : Addr) (kvs : List (Key × V)), xs = [.ref a] ∧ Rd H a (.dK kvs) ∧ ∀ p, H p = none → Q (.ref p) (upd H p (.lst (kvs.map fun kv => kV kv.1)))) (tCons (tVar i) tNil)) δ Ω := XO.mk fun B W M H σ Q I q => by
  obtain ⟨o', e', p', ho', rfl, hp', hy', _⟩ := I.sl i _ h
  obtain ⟨us, rfl, ks, al⟩ := hy'.dicI
  refine ⟨_, e', p', us, rfl, .inl hp', fun p hp => newO (o := .lst _) (y := .lst _) I hp ?_ k Ex.rfl' q⟩
  have e : (us.map fun kv => kV kv.1) = (kvs.map (·.1)).map kV := by rw [← ks, List.map_map]; rfl
  show AtL Z M (us.map fun kv => kV kv.1) (kvs.map fun kv => keyD kv.1)
  rw [e, List.map_map]
  refine ⟨by simp, fun i v d h1 h2 => ?_⟩
  rw [List.getElem?_map] at h1 h2
  cases hk : kvs[i]? with
  | none => rw [hk] at h1; cases h1
  | some kv =>
    rw [hk] at h1 h2
    cases h1; cases h2
    exact at_key
/-! ### the first edge that closes a ring, by the law -/
structure ClI (es : List Ed) (N : Str → Prop) (ms : List (Str × Str)) : Prop where
  nd : (ms.map (·.1)).Nodup
  is : ∀ x, x ∈ ms.map (·.1) ↔ N x
  mr : ∀ p ∈ ms, N p.2
  eq : ∀ p ∈ ms, ∀ q ∈ ms, p.2 = q.2 ↔ Conn es p.1 q.1
theorem conn_outL {es : List Ed} {x y : Str} (hx : x ∉ ends es) (h : Conn es x y) : x = y := by
  induction h with
  | refl => rfl
  | step _ j ih => subst ih; exact absurd j.ends.1 hx
theorem conn_outR {es : List Ed} {x y : Str} (hy : y ∉ ends es) (h : Conn es x y) : x = y := by
  cases h with
  | refl => rfl
  | step _ j => exact absurd j.ends.2 hy
theorem ClI.same {es : List Ed} {N N' : Str → Prop} {ms : List (Str × Str)} (h : ClI es N ms) (e : ∀ x, N x ↔ N' x) : ClI es N' ms := ⟨h.nd, fun x => (h.is x).trans (e x), fun p hp => (e _).mp (h.mr p hp), h.eq⟩
theorem ClI.add {es : List Ed} {N : Str → Prop} {ms : List (Str × Str)} (h : ClI es N ms) (sub : ∀ z ∈ ends es, N z) {x : Str} (hx : ¬ N x) : ClI es (fun z => N z ∨ z = x) (ms ++ [(x, x)]) := by
  have xe : x ∉ ends es := fun c => hx (sub x c)
  have key : ∀ p ∈ ms, p.1 ≠ x := fun p hp e => hx ((h.is x).mp (List.mem_map.mpr ⟨p, hp, e⟩))
  refine ⟨?_, fun z => ?_, fun p hp => ?_, fun p hp q hq => ?_⟩
  · rw [List.map_append, List.nodup_append]
    refine ⟨h.nd, by simp, fun a ha b hb e => ?_⟩
    obtain ⟨p, hp, rfl⟩ := List.mem_map.mp ha
    exact key p hp (e.trans (List.mem_singleton.mp hb))
  · rw [List.map_append, List.mem_append, h.is]
    exact or_congr_right (by simp)
  · rcases List.mem_append.mp hp with z | z
    · exact .inl (h.mr p z)
    · rw [List.mem_singleton.mp z]; exact .inr rfl
  · rcases List.mem_append.mp hp with z | z <;> rcases List.mem_append.mp hq with y | y
    · exact h.eq p z q y
    · rw [List.mem_singleton.mp y]
      exact ⟨fun e => absurd (h.mr p z) (by rw [e]; exact hx), fun c => absurd (conn_outR xe c) (key p z)⟩
    · rw [List.mem_singleton.mp z]
      exact ⟨fun e => absurd (h.mr q y) (by rw [← e]; exact hx), fun c => absurd (conn_outL xe c).symm (key q y)⟩
    · rw [List.mem_singleton.mp z, List.mem_singleton.mp y]
      exact ⟨fun _ => .refl, fun _ => rfl⟩
theorem mk_not {ms : List (Str × Str)} {x : Str} (h : dget (ms.map mkE) (.inr x) = none) (nd : (ms.map (·.1)).Nodup) : x ∉ ms.map (·.1) := fun c => by
  obtain ⟨p, hp, rfl⟩ := List.mem_map.mp c
  rw [mk_get nd hp] at h
  cases h
theorem mk_some {ms : List (Str × Str)} {x : Str} {d : D} (h : dget (ms.map mkE) (.inr x) = some d) (nd : (ms.map (·.1)).Nodup) : ∃ m, d = .str m ∧ (x, m) ∈ ms := by
  by_cases c : x ∈ ms.map (·.1)
  · obtain ⟨p, hp, rfl⟩ := List.mem_map.mp c
    rw [mk_get nd hp] at h
    cases h
    exact ⟨_, rfl, hp⟩
  · rw [mk_none c] at h; cases h
theorem dput_mid {A B : List (Str × Str)} {x m m' : Str} (hA : x ∉ A.map (·.1)) (hB : x ∉ B.map (·.1)) : dputK ((A ++ (x, m) :: B).map mkE) (.inr x) (.str m') = (A ++ (x, m') :: B).map mkE := by
  have un : ∀ {C : List (Str × Str)}, x ∉ C.map (·.1) → (C.map mkE).map (fun kv => if kv.1 = (.inr x : Key) then (kv.1, D.str m') else kv) = C.map mkE := fun {C} h => by
    rw [List.map_map]
    refine List.map_congr_left fun p hp => ?_
    show (if (mkE p).1 = .inr x then ((mkE p).1, D.str m') else mkE p) = mkE p
    rw [if_neg]
    exact fun e => h (List.mem_map.mpr ⟨p, hp, Sum.inr.inj e⟩)
  unfold dputK
  rw [if_pos (List.any_eq_true.mpr ⟨mkE (x, m), List.mem_map_of_mem (by simp), decide_eq_true rfl⟩), List.map_append, List.map_append, un hA, List.map_cons, List.map_cons, un hB, List.map_append, List.map_cons, if_pos (show (mkE (x, m)).1 = .inr x from rfl)]
  rfl
/-- an edge more -/
theorem ClI.next {es : List Ed} {i : Nat} {e : Ed} (he : es[i]? = some e) {ms : List (Str × Str)} (h : ClI (es.take i) (fun z => (z ∈ ends (es.take i) ∨ z = e.1) ∨ z = e.2) ms) {u v : Str} (hu : (e.1, u) ∈ ms) (hv : (e.2, v) ∈ ms) : ClI (es.take (i + 1)) (fun z => z ∈ ends (es.take (i + 1))) (ms.map (remark u v)) := by
  have tk : es.take (i + 1) = es.take i ++ [e] := GS.take_get he
  have il := (List.getElem?_eq_some_iff.mp he).1
  have N : ∀ z, ((z ∈ ends (es.take i) ∨ z = e.1) ∨ z = e.2) ↔ z ∈ ends (es.take (i + 1)) := fun z => by
    rw [tk]
    unfold ends
    rw [List.flatMap_append, List.mem_append, or_assoc]
    simp
  have h := h.same N
  have t1 : (es.take (i + 1)).take i = es.take i := by rw [List.take_take, Nat.min_eq_left (Nat.le_succ i)]
  have t2 : (es.take (i + 1)).take (i + 1) = es.take (i + 1) := by rw [List.take_take, Nat.min_self]
  have mk : MkI (es.take (i + 1)) i ms := ⟨h.nd, h.is, by rw [t1]; exact h.eq⟩
  have he' : (es.take (i + 1))[i]? = some (e.1, e.2) := by rw [List.getElem?_take_of_lt (Nat.lt_succ_self i)]; exact he
  have r := mk.join he' hu hv
  refine ⟨r.nd, r.is, fun p' hp' => ?_, by have := r.eq; rw [t2] at this; exact this⟩
  obtain ⟨p, hp, rfl⟩ := List.mem_map.mp hp'
  show (if p.2 = v then u else p.2) ∈ _
  split
  · exact h.mr _ hu
  · exact h.mr p hp
def F_closing : FR := fun ds Φ => ∃ es : List Ed, ds = [.lst (es.map edD)] ∧ EdsOk es ∧ (Acy es → Φ (.d .non)) ∧ ∀ i, RingAt es i → (∀ j < i, ¬ RingAt es j) → Φ (.d (.int i))
theorem ok_closing (T : Txt K mg a) : FnOk P w K mg base CX0 1 a.f_lw_closing a.fd_lw_closing ["_law_edges"] (spR (ZZ K a) F_closing) := by
  refine T.F_lw_closing.ok sc_lw_closing (fun vs H Q E h => ?_) (fun cdv A outer s H vs Q E hr h => ?_)
  · obtain ⟨M, ds, Φ, _, al, ⟨es, rfl, _⟩, _⟩ := h
    exact al.len
  · obtain ⟨M, ds, Φ, ex, al, ⟨es, rfl, ok, fin, finR⟩, q⟩ := h
    refine ⟨_, (pss_cons (ps_set (i := 1) sc_lw_closing.nd rfl (Or.inl rfl) pe_dnewK)
      (pss_cons (ps_for PassesOwn.never rfl (pi_enum (by rfl) T.n_enumerate (pa_cons (pv 0) pa_nil)) (pg_tup rfl (pgs_cons (pg_name (i := 2) sc_lw_closing.nd rfl (Or.inl rfl)) (pgs_cons (pg_tup rfl (pgs_cons (pg_name (i := 3) sc_lw_closing.nd rfl (Or.inl rfl)) (pgs_cons (pg_name (i := 4) sc_lw_closing.nd rfl (Or.inl rfl)) pgs_nil))) pgs_nil)))
      (pss_cons (ps_par (i := 5) (j := 6) (by rfl) sc_lw_closing.nd rfl rfl (by decide) rfl rfl (pa_cons (pe_dsetd (pv 1) (pv 3) (pv 3) ⟨by rfl, by rfl, by rfl, by rfl⟩) (pa_cons (pe_dsetd (pv 1) (pv 4) (pv 4) ⟨by rfl, by rfl, by rfl, by rfl⟩) pa_nil)) (by rfl))
      (pss_cons (ps_if (PW.pt (pw_and (pt_cmpR op_eq (pv 5) (pv 6) (nomark _)) (pw_and (pt_cmpR (op_notInD (units65 hr)) (pe_tup (pa_cons (pv 3) (pa_cons (pv 4) pa_nil))) (pe_slice (show SlR _ (rSlL K) from sl_list) (pv 0) po_none (po_some (pv 2))) rfl) (pw_and1 (pt_cmpR (op_notInD (units65 hr)) (pe_tup (pa_cons (pv 4) (pa_cons (pv 3) pa_nil))) (pe_slice (show SlR _ (rSlL K) from sl_list) (pv 0) po_none (po_some (pv 2))) rfl))))) (pss_one (ps_ret (pv 2))) pss_nil)
      (pss_one (ps_for PassesOwn.never rfl (pi_list (pe_callTy (call_listD rfl) (by rfl) T.n_list (by decide +kernel) (pa_cons (pv 1) pa_nil))) (pg_name (i := 7) sc_lw_closing.nd rfl (Or.inl rfl))
      (pss_one (ps_if (pt_cmpR op_eq (pe_dget (units1 hr) (pv 1) (pv 7) (fun _ _ => rfl)) (pv 6) (nomark _)) (pss_one (ps_dput (units1 hr) (pv 1) (pv 7) (pv 5) (by rfl))) pss_nil)))))))
      (pss_one (ps_ret pe_non)))), entR (n := 7) ex al rfl q ?_⟩
    walk_at "ent"
    have l100 := ok.l
    have small : ∀ {X : List Ed} {N : Str → Prop} {ms : List (Str × Str)}, ClI X N ms → (∀ z, N z → z ∈ ends es) → ms.length ≤ 200 := fun {X N ms} h sub => by
      have := nodup_len h.nd fun z hz => sub z ((h.is z).mp hz)
      rw [List.length_map, ends_len] at this
      omega
    refine xs_seq <| xs_setO (by decide) <| xo_dnew ⟨by simp, ?_⟩
    try dsimp only [List.set]
    refine xs_seq <| xs_for (vs := [2, 3, 4]) <| xi_enum <| xe_var rfl ⟨_, rfl, fun i δ => ∃ (ms : List (Str × Str)) (s2 s3 s4 s5 s6 s7 : S), δ = [.d (.lst (es.map edD)), .own (.dic (ms.map mkE)), s2, s3, s4, s5, s6, s7] ∧ ClI (es.take i) (fun z => z ∈ ends (es.take i)) ms ∧ ∀ j < i, ¬ RingAt es j, ⟨[], _, _, _, _, _, _, rfl, ⟨.nil, by simp [ends], by simp, by simp⟩, fun j h => absurd h (Nat.not_lt_zero j)⟩, ?_, ?_⟩
    · rintro i x δ1 hi ⟨ms, s2, s3, s4, s5, s6, s7, rfl, inv, nr⟩
      obtain ⟨y, hy, rfl⟩ := enumD_at hi
      obtain ⟨e, he, rfl⟩ : ∃ e, es[i]? = some e ∧ edD e = y := by rw [List.getElem?_map] at hy; exact Option.map_eq_some_iff.mp hy
      have em := List.mem_of_getElem? he
      have il := (List.getElem?_eq_some_iff.mp he).1
      have sok := ok.s e em
      have sub0 : ∀ z, z ∈ ends (es.take i) → z ∈ ends es := fun z hz => by
        obtain ⟨f, hf, h⟩ := mem_ends.mp hz
        exact mem_ends.mpr ⟨f, List.mem_of_mem_take hf, h⟩
      have e1e : e.1 ∈ ends es := mem_ends.mpr ⟨e, em, .inl rfl⟩
      have e2e : e.2 ∈ ends es := mem_ends.mpr ⟨e, em, .inr rfl⟩
      refine xg_tup (xs := [.int i, edD e]) rfl <| xgs_cons <| xg_name (by decide) (by decide) <| xgs_cons <| xg_tup (xs := [.str e.1, .str e.2]) rfl <| xgs_cons <| xg_name (by decide) (by decide) <| xgs_cons <| xg_name (by decide) (by decide) <| xgs_nil <| xgs_nil ?_
      try dsimp only [List.set]
      have l0 : ms.length ≤ 200 := small inv sub0
      refine xs_seq <| xs_par (by decide) (by decide) <| joinE (α := List (Str × Str) × Str) (fun c => ClI (es.take i) (fun z => z ∈ ends (es.take i) ∨ z = e.1) c.1 ∧ (e.1, c.2) ∈ c.1) (fun c => .str c.2) (fun c => [.d (.lst (es.map edD)), .own (.dic (c.1.map mkE)), .d (.int i), .d (.str e.1), .d (.str e.2), s5, s6, s7]) (fun go => ?_) ?_
      · refine xe_dsetd ⟨_, rfl⟩ <| xe_var rfl <| xe_var rfl ⟨ms.map mkE, .inr e.1, rfl, rfl, by rw [List.length_map]; omega, fun d' hd => ?_, fun hn => ?_⟩
        · obtain ⟨m, rfl, hm⟩ := mk_some hd inv.nd
          have n1 : e.1 ∈ ends (es.take i) := (inv.is _).mp (List.mem_map.mpr ⟨_, hm, rfl⟩)
          exact go (ms, m) ⟨inv.same fun z => ⟨.inl, fun h => h.elim id fun h => by rw [h]; exact n1⟩, hm⟩
        · have n1 : e.1 ∉ ends (es.take i) := fun c => mk_not hn inv.nd ((inv.is _).mpr c)
          have := go (ms ++ [(e.1, e.1)], e.1) ⟨inv.add (fun z hz => hz) n1, by simp⟩
          dsimp only at this
          rw [List.map_append] at this
          exact this
      rintro ⟨m1, u⟩ ⟨inv1, hu⟩
      have sub1 : ∀ z, (z ∈ ends (es.take i) ∨ z = e.1) → z ∈ ends es := fun z h => h.elim (sub0 z) fun h => by rw [h]; exact e1e
      have l1 : m1.length ≤ 200 := small inv1 sub1
      refine joinE (α := List (Str × Str) × Str) (fun c => ClI (es.take i) (fun z => (z ∈ ends (es.take i) ∨ z = e.1) ∨ z = e.2) c.1 ∧ (e.2, c.2) ∈ c.1 ∧ (e.1, u) ∈ c.1) (fun c => .str c.2) (fun c => [.d (.lst (es.map edD)), .own (.dic (c.1.map mkE)), .d (.int i), .d (.str e.1), .d (.str e.2), s5, s6, s7]) (fun go => ?_) ?_
      · refine xe_dsetd ⟨_, rfl⟩ <| xe_var rfl <| xe_var rfl ⟨m1.map mkE, .inr e.2, rfl, rfl, by rw [List.length_map]; omega, fun d' hd => ?_, fun hn => ?_⟩
        · obtain ⟨m, rfl, hm⟩ := mk_some hd inv1.nd
          have n1 := (inv1.is _).mp (List.mem_map.mpr ⟨_, hm, rfl⟩)
          exact go (m1, m) ⟨inv1.same fun z => ⟨.inl, fun h => h.elim id fun h => by rw [h]; exact n1⟩, hm, hu⟩
        · have n1 : ¬ (e.2 ∈ ends (es.take i) ∨ e.2 = e.1) := fun c => mk_not hn inv1.nd ((inv1.is _).mpr c)
          have := go (m1 ++ [(e.2, e.2)], e.2) ⟨inv1.add (fun z hz => .inl hz) n1, by simp, List.mem_append_left _ hu⟩
          dsimp only at this
          rw [List.map_append] at this
          exact this
      rintro ⟨m2, v⟩ ⟨inv2, hv, hu⟩
      have sub2 : ∀ z, ((z ∈ ends (es.take i) ∨ z = e.1) ∨ z = e.2) → z ∈ ends es := fun z h => h.elim (sub1 z) fun h => by rw [h]; exact e2e
      have l2 : m2.length ≤ 200 := small inv2 sub2
      clear inv1 l1
      try dsimp only [List.set]
      have euv := inv2.eq _ hu _ hv
      dsimp only at hu hv euv
      have cut : cut (es.map edD) none (some (i : Int)) = (es.take i).map edD := by
        rw [cut_to (Int.natCast_nonneg i), Int.toNat_natCast, ← List.map_take]
      have stk : StrOkE (es.take i) := fun f hf => ok.s f (List.mem_of_mem_take hf)
      have sh1 := shp_ed (p := (e.1, e.2)) sok
      have sh2 := shp_ed (p := (e.2, e.1)) ⟨sok.2, sok.1⟩
      have shl := shp_eds (d := .lst ((es.take i).map edD)) (.inl rfl) stk
      have ring : ∀ (_ : RingAt es i), u = v ∧ (e.1, e.2) ∉ es.take i ∧ (e.2, e.1) ∉ es.take i := fun ⟨x, y, h1, h2, h3⟩ => by
        rw [he] at h1; cases h1
        exact ⟨euv.mpr h3, fun c => h2 (.inl c), fun c => h2 (.inr c)⟩
      refine xs_seq <| xs_mid (J := fun δ => δ = [.d (.lst (es.map edD)), .own (.dic (m2.map mkE)), .d (.int i), .d (.str e.1), .d (.str e.2), .d (.str u), .d (.str v), s7] ∧ ¬ RingAt es i) ?_ ?_
      · refine xs_if <| xt_and <| xt_test <| xe_eq <| xe_var rfl <| xe_var rfl ⟨_, _, rfl, rfl, rfl, _, rfl, ?_⟩
        by_cases c1 : u = v
        rotate_left
        · rw [decide_eq_false fun z => c1 (V.str.inj z)]
          exact if_ff <| if_ff <| xs_next ⟨rfl, fun r => c1 (ring r).1⟩
        rw [decide_eq_true (congrArg V.str c1)]
        refine if_tt <| xt_and <| xt_test <| xe_ninD <| xe_tup <| xa_cons <| xe_var rfl <| xa_cons <| xe_var rfl <| xa_nil ⟨by simp, xe_ofO <| xo_sl <| xe_var rfl <| xp_no <| xp_part <| xe_var rfl ⟨_, rfl, _, rfl, _, rfl, ?_⟩⟩
        rw [cut]
        refine ⟨_, rfl, rfl, pla_eds _, sh1, shl, _, rfl, ?_⟩
        rw [show D.tup [D.str e.1, D.str e.2] = edD (e.1, e.2) from rfl, any_eds]
        by_cases c2 : (e.1, e.2) ∈ es.take i
        · rw [decide_eq_true c2]
          exact if_nt <| if_ff <| xs_next ⟨rfl, fun r => (ring r).2.1 c2⟩
        rw [decide_eq_false c2]
        refine if_nf <| xt_test <| xe_ninD <| xe_tup <| xa_cons <| xe_var rfl <| xa_cons <| xe_var rfl <| xa_nil ⟨by simp, xe_ofO <| xo_sl <| xe_var rfl <| xp_no <| xp_part <| xe_var rfl ⟨_, rfl, _, rfl, _, rfl, ?_⟩⟩
        rw [cut]
        refine ⟨_, rfl, rfl, pla_eds _, sh2, shl, _, rfl, ?_⟩
        rw [show D.tup [D.str e.2, D.str e.1] = edD (e.2, e.1) from rfl, any_eds]
        by_cases c3 : (e.2, e.1) ∈ es.take i
        · rw [decide_eq_true c3]
          exact if_nt <| xs_next ⟨rfl, fun r => (ring r).2.2 c3⟩
        rw [decide_eq_false c3]
        exact if_nf <| xs_ret <| xe_var rfl (finR i ⟨e.1, e.2, he, fun j => j.elim c2 c3, euv.mp c1⟩ nr)
      rintro δ3 ⟨rfl, noR⟩
      have fin2 := ClI.next he inv2 hu hv
      refine xs_for (vs := [7]) <| xi_list <| xe_ofO <| xo_listDO rfl ⟨_, rfl, _, .inl rfl, fun k δ => ∃ s7 : S, δ = [.d (.lst (es.map edD)), .own (.dic (((m2.take k).map (remark u v) ++ m2.drop k).map mkE)), .d (.int i), .d (.str e.1), .d (.str e.2), .d (.str u), .d (.str v), s7], ⟨s7, by simp⟩, ?_, ?_⟩
      · rintro k dd δ4 hk ⟨s7, rfl⟩
        obtain ⟨p, hp, rfl⟩ : ∃ p, m2[k]? = some p ∧ D.str p.1 = dd := by
          rw [List.map_map, List.getElem?_map] at hk
          exact Option.map_eq_some_iff.mp hk
        have kl := (List.getElem?_eq_some_iff.mp hp).1
        have tk : m2.take (k + 1) = m2.take k ++ [p] := GS.take_get hp
        have dk : m2.drop k = p :: m2.drop (k + 1) := by
          obtain ⟨h1, rfl⟩ := List.getElem?_eq_some_iff.mp hp
          exact List.drop_eq_getElem_cons h1
        refine xg_name (by decide) (by decide) ?_
        try dsimp only [List.set]
        have split : m2 = m2.take k ++ p :: m2.drop (k + 1) := by rw [← dk, List.take_append_drop]
        have nd := inv2.nd
        rw [split, List.map_append, List.map_cons, List.nodup_append] at nd
        obtain ⟨_, nd2, nd3⟩ := nd
        have hA : p.1 ∉ ((m2.take k).map (remark u v)).map (·.1) := fun c => by
          rw [List.map_map] at c
          exact nd3 p.1 c p.1 (by simp) rfl
        have hB : p.1 ∉ (m2.drop (k + 1)).map (·.1) := (List.nodup_cons.mp nd2).1
        have keys : (((m2.take k).map (remark u v) ++ m2.drop k).map (·.1)) = m2.map (·.1) := by
          rw [List.map_append, List.map_map, show ((fun x : Str × Str => x.1) ∘ remark u v) = fun x => x.1 from rfl, ← List.map_append, List.take_append_drop]
        have len : (((m2.take k).map (remark u v) ++ m2.drop k).map mkE).length ≤ 200 := by
          have := congrArg List.length keys
          rw [List.length_map, List.length_map] at this
          rw [List.length_map]
          omega
        have get := mk_get (ms := (m2.take k).map (remark u v) ++ m2.drop k) (by rw [keys]; exact inv2.nd) (p := p) (by rw [dk]; simp)
        have step : ∀ m' : Str, m' = (remark u v p).2 → ((m2.take k).map (remark u v) ++ (p.1, m') :: m2.drop (k + 1)).map mkE = ((m2.take (k + 1)).map (remark u v) ++ m2.drop (k + 1)).map mkE := fun m' e => by
          rw [tk, e]
          refine congrArg (List.map mkE) ?_
          rw [List.map_append, List.append_assoc]; rfl
        refine xs_if <| xt_test <| xe_eq <| xe_dgetO ⟨_, rfl⟩ <| xe_var rfl ⟨_, .inr p.1, _, rfl, rfl, get, xe_var rfl ⟨_, _, rfl, rfl, rfl, _, rfl, ?_⟩⟩
        by_cases c : p.2 = v
        · rw [decide_eq_true (congrArg V.str c)]
          refine if_tt <| xs_dputK <| xe_var rfl ⟨⟨_, rfl⟩, xe_var rfl ⟨_, .inr p.1, rfl, rfl, by omega, ?_⟩⟩
          try dsimp only [List.set]
          refine ⟨.d (.str p.1), ?_⟩
          rw [← step u (by unfold remark; rw [if_pos c]), ← dput_mid (m := p.2) hA hB, ← dk]
        · rw [decide_eq_false fun z => c (V.str.inj z)]
          refine if_ff <| xs_next ⟨.d (.str p.1), ?_⟩
          rw [← step p.2 (by unfold remark; rw [if_neg c]), ← dk]
      · rintro δ4 ⟨s7, rfl⟩
        rw [List.length_map, List.length_map, List.take_length, List.drop_length, List.append_nil]
        exact ⟨_, _, _, _, _, _, _, rfl, fin2, no_ring nr noR⟩
    · rintro δ1 ⟨ms, s2, s3, s4, s5, s6, s7, rfl, inv, nr⟩
      rw [enumD_len, List.length_map] at nr
      exact xs_ret <| xe_non (fin (acy_iff.mpr fun i r => nr i (by obtain ⟨x, y, e, _⟩ := r; exact (List.getElem?_eq_some_iff.mp e).1) r))
theorem lay_up {n m : Nat} {d : D} (h : Lay n d) (k : n ≤ m) : Lay m d := ⟨h.1, Nat.le_trans h.2 k⟩
/-! ### edges drawn -/
def EdIn (ns : List Str) (es : List Ed) : Prop := ∀ e ∈ es, e.1 ∈ ns ∧ e.2 ∈ ns ∧ e.1 ≠ e.2
/-! ### forests drawn -/
def ParE (ns : List Str) (par : Nat → Nat) (k : Nat) (e : Ed) : Prop := ∃ a x y, 1 ≤ a ∧ a ≤ k ∧ par a < a ∧ ns[par a]? = some x ∧ ns[a]? = some y ∧ (e = (x, y) ∨ e = (y, x))
theorem ParE.ed {ns : List Str} (nd : ns.Nodup) {par : Nat → Nat} {k : Nat} {e : Ed} (h : ParE ns par k e) : e.1 ∈ ns ∧ e.2 ∈ ns ∧ e.1 ≠ e.2 := by
  obtain ⟨a, x, y, a1, ak, pa, hx, hy, h⟩ := h
  have xy : x ≠ y := fun e => by
    subst e
    have := (List.getElem?_inj (List.getElem?_eq_some_iff.mp hx).1 nd).mp (hx.trans hy.symm)
    omega
  rcases h with rfl | rfl
  · exact ⟨List.mem_of_getElem? hx, List.mem_of_getElem? hy, xy⟩
  · exact ⟨List.mem_of_getElem? hy, List.mem_of_getElem? hx, xy.symm⟩
theorem par_jn {ns : List Str} {par : Nat → Nat} {k : Nat} {es : List Ed} (h : ∀ e ∈ es, ParE ns par k e) {x y : Str} (j : Jn es x y) : ∃ a, par a < a ∧ ((ns[par a]? = some x ∧ ns[a]? = some y) ∨ (ns[par a]? = some y ∧ ns[a]? = some x)) := by
  have go : ∀ e ∈ es, ∀ x y, (e = (x, y) ∨ e = (y, x)) → ∃ a, par a < a ∧ ((ns[par a]? = some x ∧ ns[a]? = some y) ∨ (ns[par a]? = some y ∧ ns[a]? = some x)) := fun e he x y hxy => by
    obtain ⟨a, u, v, a1, ak, pa, hu, hv, h⟩ := h e he
    refine ⟨a, pa, ?_⟩
    rcases hxy with rfl | rfl <;> rcases h with h | h <;> (obtain ⟨rfl, rfl⟩ := Prod.mk.inj h) <;> simp [hu, hv]
  rcases j with j | j
  · exact go _ j x y (.inl rfl)
  · exact go _ j x y (.inr rfl)
theorem par_low {ns : List Str} (nd : ns.Nodup) {par : Nat → Nat} {k : Nat} {es : List Ed} (h : ∀ e ∈ es, ParE ns par k e) : Low es (fun x => ns.idxOf x) := by
  have key : ∀ x y, Jn es x y → ns.idxOf y < ns.idxOf x → ns[par (ns.idxOf x)]? = some y := fun x y j lt => by
    obtain ⟨a, pa, ⟨h1, h2⟩ | ⟨h1, h2⟩⟩ := par_jn h j
    · rw [idx_at nd h1, idx_at nd h2] at lt; omega
    · rw [idx_at nd h2]; exact h1
  refine ⟨fun x y j e => ?_, fun x y z jy jz ly lz => ?_⟩
  · obtain ⟨a, pa, ⟨h1, h2⟩ | ⟨h1, h2⟩⟩ := par_jn h j
    · have e : ns.idxOf x = ns.idxOf y := e
      rw [idx_at nd h1, idx_at nd h2] at e; omega
    · have e : ns.idxOf x = ns.idxOf y := e
      rw [idx_at nd h1, idx_at nd h2] at e; omega
  · have h1 := key x y jy ly
    have h2 := key x z jz lz
    rw [h1] at h2
    exact Option.some.inj h2
/-- the same edges, turned about or twice, in another order -/
def SameJ (es fs : List Ed) : Prop := ∀ x y, Jn es x y ↔ Jn fs x y
theorem jn_perm {es fs : List Ed} (h : fs.Perm es) : SameJ es fs := fun x y => by
  unfold Jn
  rw [h.mem_iff, h.mem_iff]
theorem SameJ.low {es fs : List Ed} (h : SameJ es fs) {rk : Str → Nat} (low : Low es rk) : Low fs rk := low.same fun x y j => (h x y).mpr j
theorem SameJ.ends {es fs : List Ed} (h : SameJ es fs) (x : Str) : x ∈ ends es ↔ x ∈ ends fs := by
  have go : ∀ {es fs : List Ed}, SameJ es fs → x ∈ GK.ends es → x ∈ GK.ends fs := fun {es fs} h hx => by
    obtain ⟨e, he, rfl | rfl⟩ := mem_ends.mp hx
    · exact ((h e.1 e.2).mp (.inl he)).ends.1
    · exact ((h e.1 e.2).mp (.inl he)).ends.2
  exact ⟨go h, go fun x y => (h x y).symm⟩
/-! ### edges drawn -/
/-- x, y = a list of two data -/
theorem xs_asgLst2 {Z : Wd} {δ : List S} {te : TE} {bs : List Nat} {P : Po} {i1 i2 : Nat} (h1 : i1 ∉ bs) (h2 : i2 ∉ bs) (h : XE Z te δ fun d δ1 => ∃ x y, d = .lst [x, y] ∧ P.N ((δ1.set i1 (.d x)).set i2 (.d y))) :
    XS Z bs (tAsg te (gLst Z.K 2 (gCons (gName i1) (gCons (gName i2) gNil)))) δ P := fun B W M H σ Ed hb I e => h.run I fun M1 H1 δ1 v d h0 e1 I1 at1 => by
  obtain ⟨x, y, rfl, f⟩ := h0
  cases at1 with
  | @lst a vs _ k l c =>
    match vs, k, l, c with
    | [v0, v1], k, l, c =>
      refine ⟨a, [v0, v1], rfl, SqL.of (I1.ex _ _ k), rfl, _, _, rfl, _, _, rfl, rfl, ?_⟩
      have a0 : At Z M1 v0 x := c 0 v0 x rfl rfl
      have a1 : At Z M1 v1 y := c 1 v1 y rfl rfl
      exact e.nx _ _ _ _ f e1 ((I1.put (not_bor hb h1) (hol_d _) (slotD a0)).put (not_bor hb h2) (hol_d _) (slotD a1))
theorem pl_str {w : Str} (h : PyData.strOk w = true) : Pl (.str w) := ⟨rfl, lay_up (n := 0) (lay_str h) (by decide)⟩
theorem two_of {ns us : List Str} (h : us.Perm ns) (l : 2 ≤ ns.length) : ∃ a b r, us = a :: b :: r := by
  have := h.length_eq
  match us, this with
  | [], e => simp at e; omega
  | [_], e => simp at e; omega
  | a :: b :: r, _ => exact ⟨a, b, r, rfl⟩
def prSD (z : Str × Str) : D := .tup [.str z.1, .str z.2]
theorem pl_prS {p : Str × Str} (h1 : PyData.strOk p.1 = true) (h2 : PyData.strOk p.2 = true) : Pl (prSD p) := by
  refine ⟨rfl, lay_up (n := 1) (lay_tup (n := 0) fun x hx => ?_) (by decide)⟩
  simp only [List.mem_cons, List.not_mem_nil, or_false] at hx
  rcases hx with rfl | rfl
  · exact lay_str h1
  · exact lay_str h2
def F_forest : FD := fun y ds Φ => ∃ (ns : List Str), ds = [.lst (ns.map .str)] ∧ 2 ≤ ns.length ∧ ns.length ≤ 7 ∧ ns.Nodup ∧ (∀ n ∈ ns, n ∈ pool) ∧ DealD y ∧ ∀ (es : List Ed) y', EdIn ns es → es.length ≤ 14 → Low es (fun x => ns.idxOf x) → DealD y' → Φ (.own (.lst (es.map edD))) y'
theorem ok_forest (T : Txt K mg a) (G_lw_draw : FnOk P w K mg base CX0 1 a.f_lw_draw a.fd_lw_draw ["_law_deal_here", "_law_bound"] (spD (ZZ K a) F_draw)) (G_lw_mixed : FnOk P w K mg base CX0 2 a.f_lw_mixed a.fd_lw_mixed ["_law_deal_here", "_law_some"] (spD (ZZ K a) F_mixed)) (G_lw_pick : FnOk P w K mg base CX0 2 a.f_lw_pick a.fd_lw_pick ["_law_deal_here", "_law_some"] (spD (ZZ K a) F_pick3)) : FnOk P w K mg base CX0 3 a.f_lw_forest a.fd_lw_forest ["_law_deal_here", "_law_names_here"] (spD (ZZ K a) F_forest) := by
  refine T.F_lw_forest.ok sc_lw_forest (fun vs H Q E h => ?_) (fun cdv A outer s H vs Q E hr h => ?_)
  · obtain ⟨M, p, q, y, ws, ds, Φ, rfl, _, _, al, ⟨ns, rfl, _⟩, _⟩ := h
    simp [al.len]
  · obtain ⟨M, p, q, y, ws, ds, Φ, rfl, so, ex, al, ⟨ns, rfl, n2, n7, nd, np, hy, k⟩, fin⟩ := h
    refine ⟨_, (pss_cons (ps_set (i := 2) sc_lw_forest.nd rfl (Or.inl rfl) (pe_lst pa_nil))
      (pss_cons (ps_for PassesOwn.never rfl (pi_range2 (by rfl) T.n_range (pa_cons pe_int (pa_cons (pe_callB (show CallR _ (.builtin "len") (G.rLen K) from call_len) (by rfl) T.n_len PySem.boot_len (pa_cons (pv 1) pa_nil)) pa_nil))) (pg_name (i := 3) sc_lw_forest.nd rfl (Or.inl rfl))
      (pss_one (ps_if (pt_cmpR op_gt (pe_call G_lw_draw (hr.mono (by decide)) (by rfl) T.m_lw_draw T.F_lw_draw.kp T.b_lw_draw .nil pass0 (pa_cons (pv 0) (pa_cons pe_int pa_nil))) pe_int (nomark _)) (pss_cons (ps_set (i := 4) sc_lw_forest.nd rfl (Or.inl rfl) (pe_tup (pa_cons (pe_ix (show IxR _ (rIx K) from ix_seq) (pv 1) (pe_call G_lw_draw (hr.mono (by decide)) (by rfl) T.m_lw_draw T.F_lw_draw.kp T.b_lw_draw .nil pass0 (pa_cons (pv 0) (pa_cons (pv 3) pa_nil))) (fun _ _ => rfl)) (pa_cons (pe_ix (show IxR _ (rIx K) from ix_seq) (pv 1) (pv 3) (fun _ _ => rfl)) pa_nil))))
      (pss_cons (ps_expr (pe_bm PySem.F.plainAttrs_list PySem.F.slot_list_append PySem.F.type_list_append mt_append (pv 2) (pa_cons (pe_ifExp (pt_cmpR op_eq (pe_call G_lw_draw (hr.mono (by decide)) (by rfl) T.m_lw_draw T.F_lw_draw.kp T.b_lw_draw .nil pass0 (pa_cons (pv 0) (pa_cons pe_int pa_nil))) pe_int (nomark _)) (pv 4) (GR.pe_back (pv 4))) pa_nil)))
      (pss_one (ps_if (pt_cmpR op_eq (pe_call G_lw_draw (hr.mono (by decide)) (by rfl) T.m_lw_draw T.F_lw_draw.kp T.b_lw_draw .nil pass0 (pa_cons (pv 0) (pa_cons pe_int pa_nil))) pe_int (nomark _)) (pss_one (ps_expr (pe_bm PySem.F.plainAttrs_list PySem.F.slot_list_append PySem.F.type_list_append mt_append (pv 2) (pa_cons (pe_call G_lw_pick (hr.mono (by decide)) (by rfl) T.m_lw_pick T.F_lw_pick.kp T.b_lw_pick .nil pass0 (pa_cons (pv 0) (pa_cons (pe_lst (pa_cons (pv 4) (pa_cons (GR.pe_back (pv 4)) pa_nil))) pa_nil))) pa_nil)))) pss_nil)))) pss_nil)))
      (pss_one (ps_ret (pe_call G_lw_mixed (hr.mono (by decide)) (by rfl) T.m_lw_mixed T.F_lw_mixed.kp T.b_lw_mixed .nil pass0 (pa_cons (pv 0) (pa_cons (pv 2) pa_nil))))))), entD (n := 3) so ex al rfl fin ?_⟩
    walk_at "ent"
    refine xs_seq <| xs_setO (by decide) <| xo_lst <| xa_nil ⟨by simp, by simp, ?_⟩
    try dsimp only [List.set]
    refine xs_seq <| xs_for (vs := [3]) <| xi_rng2 <| xe_int <| xe_len <| xe_var rfl ⟨ns.length, by simp [lenD], 1, ns.length, rfl, rfl, by omega, ?_⟩
    refine ⟨fun i δ => ∃ (y : Dl) (es : List Ed) (s3 s4 : S) (par : Nat → Nat), δ = [.deal q y.cs y.n, .d (.lst (ns.map .str)), .own (.lst (es.map edD)), s3, s4] ∧ (∀ e ∈ es, ParE ns par i e) ∧ es.length ≤ 2 * i ∧ DealD y, ⟨y, [], _, _, fun _ => 0, rfl, fun e he => (nomatch he), by simp, hy⟩, ?_, ?_⟩
    · rintro i dd δ1 hi ⟨y, es, s3, s4, par, rfl, h1, h2, h3⟩
      obtain ⟨hi2, rfl⟩ := rng_at hi
      have il : 1 + i < ns.length := by omega
      refine xg_name (by decide) (by decide) ?_
      try dsimp only [List.set]
      have up : ∀ e, ParE ns par i e → ParE ns par (i + 1) e := fun e ⟨a, x, y, a1, ak, r⟩ => ⟨a, x, y, a1, by omega, r⟩
      refine xs_if <| xt_test <| xe_B0 <| xr_callD (i := 0) (fun _ => .nil) ⟨_, _, _, rfl⟩ <| xa_cons <| xe_int <| xa_nil ⟨q, y, rfl, _, rfl, by omega, by omega, h3, fun d1 y1 d10 d11 hy1 => on_d <| xe_int ⟨_, _, rfl, rfl, _, rfl, ?_⟩⟩
      refine ite_b (fun h => ?_) (fun h => ?_)
      · obtain ⟨vv, hv⟩ : ∃ v, ns[1 + i]? = some v := ⟨_, List.getElem?_eq_getElem il⟩
        refine xs_seq <| xs_set (by decide) <| xe_tup <| xa_cons <| xe_ix <| xe_var rfl <| xr_callD (i := 0) (fun _ => .nil) ⟨_, _, _, rfl⟩ <| xa_cons <| xe_var rfl <| xa_nil ⟨q, y1, rfl, _, rfl, by omega, by omega, hy1, fun d2 y2 d20 d21 hy2 => on_d ?_⟩
        obtain ⟨j, rfl⟩ : ∃ j : Nat, d2 = j := ⟨d2.toNat, by omega⟩
        have jl : j < 1 + i := by omega
        obtain ⟨uu, hu⟩ : ∃ u, ns[j]? = some u := ⟨_, List.getElem?_eq_getElem (by omega)⟩
        refine ⟨j, .str uu, rfl, ?_, xa_cons <| xe_ix <| xe_var rfl <| xe_var rfl ⟨((1 + i : Nat) : Int), .str vv, ?_, ?_, xa_nil ⟨by simp, ?_⟩⟩⟩
        · show atI (ns.map D.str) (j : Int) = some (D.str uu)
          rw [L2.atI_nat (v := D.str uu) (by rw [List.getElem?_map, hu]; rfl)]
        · simp
        · show atI (ns.map D.str) ((1 + i : Nat) : Int) = some (D.str vv)
          rw [L2.atI_nat (v := D.str vv) (by rw [List.getElem?_map, hv]; rfl)]
        try dsimp only [List.set]
        let par' : Nat → Nat := fun a => if a = 1 + i then j else par a
        have keep : ∀ e ∈ es, ParE ns par' (i + 1) e := fun e he => by
          obtain ⟨a, x, y, a1, ak, pa, hx, hy, r⟩ := h1 e he
          have : par' a = par a := if_neg (by omega)
          exact ⟨a, x, y, a1, by omega, by rw [this]; exact pa, by rw [this]; exact hx, hy, r⟩
        have p1 : par' (1 + i) = j := if_pos rfl
        have new : ∀ e : Ed, (e = (uu, vv) ∨ e = (vv, uu)) → ParE ns par' (i + 1) e := fun e he => ⟨1 + i, uu, vv, by omega, by omega, by rw [p1]; exact jl, by rw [p1]; exact hu, hv, he⟩
        refine xs_seq <| xs_mid (J := fun δ => ∃ (y : Dl) (e : Ed), δ = [.deal q y.cs y.n, .d (.lst (ns.map .str)), .own (.lst ((es ++ [e]).map edD)), .d (.int (1 + i)), .d (edD (uu, vv))] ∧ (e = (uu, vv) ∨ e = (vv, uu)) ∧ DealD y) ?_ ?_
        · refine xs_drop <| xe_app ⟨_, rfl⟩ <| joinE (α := Ed × Dl) (fun c => (c.1 = (uu, vv) ∨ c.1 = (vv, uu)) ∧ DealD c.2) (fun c => edD c.1) (fun c => [.deal q c.2.cs c.2.n, .d (.lst (ns.map .str)), .own (.lst (es.map edD)), .d (.int (1 + i)), .d (edD (uu, vv))]) (fun go => ?_) ?_
          · refine xr_if <| xt_test <| xe_eq <| xr_callD (i := 0) (fun _ => .nil) ⟨_, _, _, rfl⟩ <| xa_cons <| xe_int <| xa_nil ⟨q, y2, rfl, _, rfl, by omega, by omega, hy2, fun d y3 d0 d1 hy3 => on_d <| xe_int ⟨_, _, rfl, rfl, rfl, _, rfl, ite_b (fun h => ?_) (fun h => ?_)⟩⟩
            · exact xe_var rfl (go ((uu, vv), y3) ⟨.inl rfl, hy3⟩)
            · exact xe_back <| xe_var rfl ⟨_, rfl, go ((vv, uu), y3) ⟨.inr rfl, hy3⟩⟩
          · rintro ⟨e, y3⟩ ⟨he, hy3⟩
            exact ⟨es.map edD, rfl, by simp; omega, y3, e, by simp, he, hy3⟩
        rintro δ2 ⟨y3, e1, rfl, he1, hy3⟩
        have in1 : ∀ e ∈ es ++ [e1], ParE ns par' (i + 1) e := fun e he => (List.mem_append.mp he).elim (keep e) fun z => by rw [List.mem_singleton.mp z]; exact new e1 he1
        refine xs_if <| xt_test <| xe_eq <| xr_callD (i := 0) (fun _ => .nil) ⟨_, _, _, rfl⟩ <| xa_cons <| xe_int <| xa_nil ⟨q, y3, rfl, _, rfl, by omega, by omega, hy3, fun d y6 d0 d1 hy6 => on_d <| xe_int ⟨_, _, rfl, rfl, rfl, _, rfl, ?_⟩⟩
        refine ite_b (fun h => ?_) (fun h => ?_)
        · refine xs_drop <| xe_app ⟨_, rfl⟩ <| xr_callD (i := 0) (fun _ => .nil) ⟨_, _, _, rfl⟩ <| xa_cons <| xe_ofO <| xo_lst <| xa_cons <| xe_var rfl <| xa_cons <| xe_back <| xe_var rfl ⟨_, rfl, xa_nil ⟨by simp, _, rfl, xa_nil ⟨q, y6, rfl, [edD (uu, vv), edD (vv, uu)], _, rfl, .inl rfl, by simp, by simp, hy6, fun x y7 hx hy7 => on_d ⟨(es ++ [e1]).map edD, rfl, by simp; omega, ?_⟩⟩⟩⟩
          have : ∃ e : Ed, x = edD e ∧ (e = (uu, vv) ∨ e = (vv, uu)) := by
            rcases List.mem_cons.mp hx with rfl | hx
            · exact ⟨(uu, vv), rfl, .inl rfl⟩
            · rw [List.mem_singleton.mp hx]; exact ⟨(vv, uu), rfl, .inr rfl⟩
          obtain ⟨e, rfl, he⟩ := this
          exact ⟨y7, es ++ [e1] ++ [e], .d (.int (1 + i)), .d (edD (uu, vv)), par', by simp, fun e' he' => (List.mem_append.mp he').elim (in1 e') fun z => by rw [List.mem_singleton.mp z]; exact new e he, by simp; omega, hy7⟩
        · exact xs_next ⟨y6, es ++ [e1], .d (.int (1 + i)), .d (edD (uu, vv)), par', rfl, in1, by simp; omega, hy6⟩
      · exact xs_next ⟨y1, es, _, _, par, rfl, fun e he => up e (h1 e he), by omega, hy1⟩
    · rintro δ1 ⟨y, es, s3, s4, par, rfl, h1, h2, h3⟩
      rw [rng_len] at h1 h2
      have low := par_low nd h1
      refine xs_freeze (i := 2) (by decide) rfl ?_
      try dsimp only [List.set]
      refine xs_retS <| xr_callD (i := 0) (fun _ => .nil) ⟨_, _, _, rfl⟩ <| xa_cons <| xe_var rfl <| xa_nil ⟨q, y, rfl, es.map edD, _, rfl, .inl rfl, by simp; omega, fun x hx => ?_, h3, fun zs y5 hz hy5 => ?_⟩
      · obtain ⟨e, he, rfl⟩ := List.mem_map.mp hx
        obtain ⟨m1, m2, _⟩ := (h1 e he).ed nd
        exact pl_prS (p := e) (pool_ok _ (np _ m1)).2.2 (pool_ok _ (np _ m2)).2.2
      obtain ⟨fs, rfl, hfs⟩ := perm_map hz
      exact ⟨y5, rfl, k fs y5 (fun e he => (h1 e (hfs.mem_iff.mp he)).ed nd) (by rw [hfs.length_eq]; omega) ((jn_perm hfs).low low) hy5⟩
def F_graph : FD := fun y ds Φ => ∃ (ns : List Str) (m : Int), ds = [.lst (ns.map .str), .int m] ∧ 2 ≤ ns.length ∧ ns.length ≤ 7 ∧ ns.Nodup ∧ (∀ n ∈ ns, n ∈ pool) ∧ 0 ≤ m ∧ m ≤ 20 ∧ DealD y ∧ ∀ (es : List Ed) y', EdIn ns es → es.length ≤ 42 → DealD y' → Φ (.own (.lst (es.map edD))) y'
theorem ok_graph (T : Txt K mg a) (G_lw_draw : FnOk P w K mg base CX0 1 a.f_lw_draw a.fd_lw_draw ["_law_deal_here", "_law_bound"] (spD (ZZ K a) F_draw)) (G_lw_mixed : FnOk P w K mg base CX0 2 a.f_lw_mixed a.fd_lw_mixed ["_law_deal_here", "_law_some"] (spD (ZZ K a) F_mixed)) (G_lw_pick : FnOk P w K mg base CX0 2 a.f_lw_pick a.fd_lw_pick ["_law_deal_here", "_law_some"] (spD (ZZ K a) F_pick3)) : FnOk P w K mg base CX0 3 a.f_lw_graph a.fd_lw_graph ["_law_deal_here", "_law_names_here", "_law_most"] (spD (ZZ K a) F_graph) := by
  refine T.F_lw_graph.ok sc_lw_graph (fun vs H Q E h => ?_) (fun cdv A outer s H vs Q E hr h => ?_)
  · obtain ⟨M, p, q, y, ws, ds, Φ, rfl, _, _, al, ⟨ns, m, rfl, _⟩, _⟩ := h
    simp [al.len]
  · obtain ⟨M, p, q, y, ws, ds, Φ, rfl, so, ex, al, ⟨ns, m, rfl, n2, n7, nd, np, m0, m1, hy, k⟩, fin⟩ := h
    refine ⟨_, (pss_cons (ps_set (i := 3) sc_lw_graph.nd rfl (Or.inl rfl) (pe_lst pa_nil))
      (pss_cons (ps_for PassesOwn.never rfl (pi_range1 (by rfl) T.n_range (pa_cons (pe_call G_lw_draw (hr.mono (by decide)) (by rfl) T.m_lw_draw T.F_lw_draw.kp T.b_lw_draw .nil pass0 (pa_cons (pv 0) (pa_cons (pe_op op_add (pv 2) pe_int) pa_nil))) pa_nil)) (pg_name (i := 4) sc_lw_graph.nd rfl (Or.inl rfl))
      (pss_cons (ps_asg (pe_slice (show SlR _ (rSlL K) from sl_list) (pe_call G_lw_mixed (hr.mono (by decide)) (by rfl) T.m_lw_mixed T.F_lw_mixed.kp T.b_lw_mixed .nil pass0 (pa_cons (pv 0) (pa_cons (pv 1) pa_nil))) po_none (po_some pe_int)) (pg_lst rfl (pgs_cons (pg_name (i := 5) sc_lw_graph.nd rfl (Or.inl rfl)) (pgs_cons (pg_name (i := 6) sc_lw_graph.nd rfl (Or.inl rfl)) pgs_nil))))
      (pss_cons (ps_expr (pe_bm PySem.F.plainAttrs_list PySem.F.slot_list_append PySem.F.type_list_append mt_append (pv 3) (pa_cons (pe_tup (pa_cons (pv 5) (pa_cons (pv 6) pa_nil))) pa_nil)))
      (pss_one (ps_if (pt_cmpR op_eq (pe_call G_lw_draw (hr.mono (by decide)) (by rfl) T.m_lw_draw T.F_lw_draw.kp T.b_lw_draw .nil pass0 (pa_cons (pv 0) (pa_cons pe_int pa_nil))) pe_int (nomark _)) (pss_one (ps_expr (pe_bm PySem.F.plainAttrs_list PySem.F.slot_list_append PySem.F.type_list_append mt_append (pv 3) (pa_cons (pe_call G_lw_pick (hr.mono (by decide)) (by rfl) T.m_lw_pick T.F_lw_pick.kp T.b_lw_pick .nil pass0 (pa_cons (pv 0) (pa_cons (pe_lst (pa_cons (pe_tup (pa_cons (pv 6) (pa_cons (pv 5) pa_nil))) (pa_cons (pe_tup (pa_cons (pv 5) (pa_cons (pv 6) pa_nil))) pa_nil))) pa_nil))) pa_nil)))) pss_nil)))))
      (pss_one (ps_ret (pv 3))))), entD (n := 4) so ex al rfl fin ?_⟩
    walk_at "ent"
    refine xs_seq <| xs_setO (by decide) <| xo_lst <| xa_nil ⟨by simp, by simp, ?_⟩
    try dsimp only [List.set]
    refine xs_seq <| xs_for (vs := [4]) <| xi_rng1 <| xr_callD (i := 0) (fun _ => .nil) ⟨_, _, _, rfl⟩ <| xa_cons <| xe_I0 <| xe_var rfl <| xe_int ⟨_, _, rfl, rfl, xa_nil ⟨q, y, rfl, _, rfl, by omega, by omega, hy, fun t y1 t0 t1 hy1 => on_d ⟨t, rfl, by omega, by omega, fun i δ => ∃ (y : Dl) (es : List Ed) (s4 s5 s6 : S), δ = [.deal q y.cs y.n, .d (.lst (ns.map .str)), .d (.int m), .own (.lst (es.map edD)), s4, s5, s6] ∧ EdIn ns es ∧ es.length ≤ 2 * i ∧ DealD y, ⟨y1, [], _, _, _, rfl, fun e he => (nomatch he), by simp, hy1⟩, ?_, ?_⟩⟩⟩
    · rintro i dd δ1 hi ⟨y, es, s4, s5, s6, rfl, h1, h2, h3⟩
      have hi2 := (rng_at hi).1
      refine xg_name (by decide) (by decide) ?_
      try dsimp only [List.set]
      refine xs_seq <| xs_asgLst2 (by decide) (by decide) <| xe_ofO <| xo_sl <| xe_ofO <| xr_callD (i := 0) (fun _ => .nil) ⟨_, _, _, rfl⟩ <| xa_cons <| xe_var rfl <| xa_nil ⟨q, y, rfl, ns.map .str, _, rfl, .inl rfl, by simp; omega, fun x hx => ?_, h3, fun zs y5 hz hy5 => on_o ⟨_, rfl, xp_no <| xp_part <| xe_int ⟨_, rfl, _, rfl, _, rfl, ?_⟩⟩⟩
      · obtain ⟨s, hs, rfl⟩ := List.mem_map.mp hx
        exact pl_str (pool_ok s (np s hs)).2.2
      obtain ⟨us, rfl, hus⟩ := perm_map hz
      obtain ⟨u, v, r, rfl⟩ := two_of hus n2
      rw [cut_to (by omega), ← List.map_take]
      have un : u ∈ ns := hus.mem_iff.mp (by simp)
      have vn : v ∈ ns := hus.mem_iff.mp (by simp)
      have uv : u ≠ v := fun e => by
        have := hus.nodup_iff.mpr nd
        rw [e] at this
        simp at this
      refine ⟨.str u, .str v, rfl, ?_⟩
      try dsimp only [List.set]
      have in1 : EdIn ns (es ++ [(u, v)]) := fun e he => (List.mem_append.mp he).elim (h1 e) fun z => by rw [List.mem_singleton.mp z]; exact ⟨un, vn, uv⟩
      refine xs_seq <| xs_drop <| xe_app ⟨_, rfl⟩ <| xe_tup <| xa_cons <| xe_var rfl <| xa_cons <| xe_var rfl <| xa_nil ⟨by simp, es.map edD, rfl, by simp; omega, ?_⟩
      try dsimp only [List.set]
      refine xs_if <| xt_test <| xe_eq <| xr_callD (i := 0) (fun _ => .nil) ⟨_, _, _, rfl⟩ <| xa_cons <| xe_int <| xa_nil ⟨q, y5, rfl, _, rfl, by omega, by omega, hy5, fun d y6 d0 d1 hy6 => on_d <| xe_int ⟨_, _, rfl, rfl, rfl, _, rfl, ?_⟩⟩
      refine ite_b (fun h => ?_) (fun h => ?_)
      · refine xs_drop <| xe_app ⟨_, rfl⟩ <| xr_callD (i := 0) (fun _ => .nil) ⟨_, _, _, rfl⟩ <| xa_cons <| xe_ofO <| xo_lst <| xa_cons <| xe_tup <| xa_cons <| xe_var rfl <| xa_cons <| xe_var rfl <| xa_nil ⟨by simp, xa_cons <| xe_tup <| xa_cons <| xe_var rfl <| xa_cons <| xe_var rfl <| xa_nil ⟨by simp, xa_nil ⟨by simp, _, rfl, xa_nil ⟨q, y6, rfl, [edD (v, u), edD (u, v)], _, rfl, .inl rfl, by simp, by simp, hy6, fun x y7 hx hy7 => on_d ⟨es.map edD ++ [edD (u, v)], rfl, by simp; omega, ?_⟩⟩⟩⟩⟩
        have : ∃ e : Ed, x = edD e ∧ e.1 ∈ ns ∧ e.2 ∈ ns ∧ e.1 ≠ e.2 := by
          rcases List.mem_cons.mp hx with rfl | hx
          · exact ⟨(v, u), rfl, vn, un, uv.symm⟩
          · rw [List.mem_singleton.mp hx]; exact ⟨(u, v), rfl, un, vn, uv⟩
        obtain ⟨e, rfl, he⟩ := this
        exact ⟨y7, es ++ [(u, v)] ++ [e], .d dd, .d (.str u), .d (.str v), by simp [edD], fun e' he' => (List.mem_append.mp he').elim (in1 e') fun z => by rw [List.mem_singleton.mp z]; exact he, by simp; omega, hy7⟩
      · exact xs_next ⟨y6, es ++ [(u, v)], .d dd, .d (.str u), .d (.str v), by simp [edD], in1, by simp; omega, hy6⟩
    · rintro δ1 ⟨y, es, s4, s5, s6, rfl, h1, h2, h3⟩
      rw [rng_len] at h2
      exact xs_retV (by decide) rfl ⟨y, rfl, k es y h1 (by omega) h3⟩
/-! ### points drawn -/
def xyD (p : Int × Int) : D := .tup [.int p.1, .int p.2]
theorem any_xy (m : Int × Int) : ∀ ls : List (Int × Int), ((pyL (ls.map xyD)).any fun z => PyData.eqv z (py (xyD m))) = decide (m ∈ ls)
  | [] => rfl
  | p :: ls => by
    show (PyData.eqv (py (xyD p)) (py (xyD m)) || (pyL (ls.map xyD)).any fun z => PyData.eqv z (py (xyD m))) = _
    rw [any_xy m ls, show PyData.eqv (py (xyD p)) (py (xyD m)) = decide ((p.1, p.2) = (m.1, m.2)) from eqv_xy _ _ _ _, Bool.eq_iff_iff, Bool.or_eq_true, decide_eq_true_iff, decide_eq_true_iff, decide_eq_true_iff, List.mem_cons]
    exact ⟨fun h => h.imp Eq.symm id, fun h => h.imp Eq.symm id⟩
theorem pla_xys : ∀ ls : List (Int × Int), plaL (ls.map xyD) = true
  | [] => rfl
  | _ :: ls => by
    show (true && plaL (ls.map xyD)) = true
    rw [pla_xys ls]; rfl
theorem lay_xys : ∀ (ls : List (Int × Int)), PyData.canLayAll0 (pyL (ls.map xyD)) = true ∧ PyData.depthAll (pyL (ls.map xyD)) ≤ 2
  | [] => ⟨rfl, Nat.zero_le _⟩
  | e :: es => by
    obtain ⟨h1, h2⟩ := lay_xys es
    refine ⟨?_, ?_⟩
    · show PyData.canLayAll0 (PyData.tuple [.int e.1, .int e.2] :: pyL (es.map xyD)) = true
      simp [PyData.canLay0, PyData.canLay0.eq_6, PyData.canLayAll0, h1]
    · show PyData.depthAll (PyData.tuple [.int e.1, .int e.2] :: pyL (es.map xyD)) ≤ 2
      simp [PyData.depth, PyData.depthAll]
      omega
theorem shp_xys (ls : List (Int × Int)) : SeqAt.shaped (py (.lst (ls.map xyD))) = true := by
  obtain ⟨h1, h2⟩ := lay_xys ls
  show ((PyData.list (pyL (ls.map xyD))).canLay0 && decide ((PyData.list (pyL (ls.map xyD))).depth ≤ 64)) = true
  simp [PyData.canLay0, PyData.depth, h1]
  omega
structure PtIn (ps : List Pt) : Prop where
  l : ps.length ≤ 7
  p : ∀ p ∈ ps, p.1 ∈ pool
  b : ∀ p ∈ ps, (-50 ≤ p.2.1 ∧ p.2.1 ≤ 50) ∧ -50 ≤ p.2.2 ∧ p.2.2 ≤ 50
  nn : (ps.map (·.1)).Nodup
  np : (ps.map (·.2)).Nodup
def F_points : FD := fun y ds Φ => ∃ b w : Int, ds = [.int b, .int w] ∧ 0 ≤ b ∧ b ≤ 7 ∧ 1 ≤ w ∧ w ≤ 50 ∧ DealD y ∧ ∀ (ps : List Pt) y', PtIn ps → (ps.length : Int) ≤ b → DealD y' → Φ (.own (.lst (ps.map ptD))) y'
theorem ok_points (T : Txt K mg a) (G_lw_draw : FnOk P w K mg base CX0 1 a.f_lw_draw a.fd_lw_draw ["_law_deal_here", "_law_bound"] (spD (ZZ K a) F_draw)) (G_lw_names : FnOk P w K mg base CX0 2 a.f_lw_names a.fd_lw_names ["_law_deal_here", "_law_bound"] (spD (ZZ K a) F_names)) : FnOk P w K mg base CX0 3 a.f_lw_points a.fd_lw_points ["_law_deal_here", "_law_bound", "_law_wide"] (spD (ZZ K a) F_points) := by
  refine T.F_lw_points.ok sc_lw_points (fun vs H Q E h => ?_) (fun cdv A outer s H vs Q E hr h => ?_)
  · obtain ⟨M, p, q, y, ws, ds, Φ, rfl, _, _, al, ⟨b, w, rfl, _⟩, _⟩ := h
    simp [al.len]
  · obtain ⟨M, p, q, y, ws, ds, Φ, rfl, so, ex, al, ⟨b, w, rfl, b0, b1, w0, w1, hy, k⟩, fin⟩ := h
    refine ⟨_, (pss_cons (ps_par (i := 3) (j := 4) (by rfl) sc_lw_points.nd rfl rfl (by decide) rfl rfl (pa_cons (pe_lst pa_nil) (pa_cons (pe_lst pa_nil) pa_nil)) (by rfl))
      (pss_cons (ps_for PassesOwn.never rfl (pi_list (pe_call G_lw_names (hr.mono (by decide)) (by rfl) T.m_lw_names T.F_lw_names.kp T.b_lw_names .nil pass0 (pa_cons (pv 0) (pa_cons (pv 1) pa_nil)))) (pg_name (i := 5) sc_lw_points.nd rfl (Or.inl rfl))
      (pss_cons (ps_set (i := 6) sc_lw_points.nd rfl (Or.inl rfl) (pe_tup (pa_cons (pe_op op_sub (pe_call G_lw_draw (hr.mono (by decide)) (by rfl) T.m_lw_draw T.F_lw_draw.kp T.b_lw_draw .nil pass0 (pa_cons (pv 0) (pa_cons (pe_op op_add (pe_op op_mulW pe_int (pv 2)) pe_int) pa_nil))) (pv 2)) (pa_cons (pe_op op_sub (pe_call G_lw_draw (hr.mono (by decide)) (by rfl) T.m_lw_draw T.F_lw_draw.kp T.b_lw_draw .nil pass0 (pa_cons (pv 0) (pa_cons (pe_op op_add (pe_op op_mulW pe_int (pv 2)) pe_int) pa_nil))) (pv 2)) pa_nil))))
      (pss_one (ps_if (pt_cmpR (op_notInD (units65 hr)) (pv 6) (pv 4) rfl) (pss_cons (ps_expr (pe_bm PySem.F.plainAttrs_list PySem.F.slot_list_append PySem.F.type_list_append mt_append (pv 4) (pa_cons (pv 6) pa_nil)))
      (pss_one (ps_expr (pe_bm PySem.F.plainAttrs_list PySem.F.slot_list_append PySem.F.type_list_append mt_append (pv 3) (pa_cons (pe_op op_catA (pe_tup (pa_cons (pv 5) pa_nil)) (pv 6)) pa_nil))))) pss_nil))))
      (pss_one (ps_ret (pv 3))))), entD (n := 4) so ex al rfl fin ?_⟩
    walk_at "ent"
    refine xs_seq <| xs_parOO (by decide) (by decide) (by decide) <| xo_lst <| xa_nil ⟨by simp, xo_lst <| xa_nil ⟨by simp, by simp, by simp, ?_⟩⟩
    try dsimp only [List.set]
    refine xs_seq <| xs_for (vs := [5]) <| xi_list <| xe_ofO <| xr_callD (i := 0) (fun _ => .nil) ⟨_, _, _, rfl⟩ <| xa_cons <| xe_var rfl <| xa_nil ⟨q, y, rfl, b, rfl, b0, by omega, hy, fun ns y1 nd np nl hy1 => on_o ⟨_, rfl, _, .inl rfl, ?_⟩⟩
    refine ⟨fun i δ => ∃ (y : Dl) (ps : List Pt) (s5 s6 : S), δ = [.deal q y.cs y.n, .d (.int b), .d (.int w), .own (.lst (ps.map ptD)), .own (.lst ((ps.map (·.2)).map xyD)), s5, s6] ∧ (ps.map (·.1)).Sublist (ns.take i) ∧ (∀ p ∈ ps, (-50 ≤ p.2.1 ∧ p.2.1 ≤ 50) ∧ -50 ≤ p.2.2 ∧ p.2.2 ≤ 50) ∧ (ps.map (·.2)).Nodup ∧ DealD y, ⟨y1, [], _, _, rfl, by simp, by simp, by simp, hy1⟩, ?_, ?_⟩
    · rintro i x δ1 hi ⟨y, ps, s5, s6, rfl, sub, bd, npl, hy⟩
      obtain ⟨n, hn, rfl⟩ : ∃ n, ns[i]? = some n ∧ D.str n = x := by rw [List.getElem?_map] at hi; exact Option.map_eq_some_iff.mp hi
      have tk : ns.take (i + 1) = ns.take i ++ [n] := GS.take_get hn
      have pl : ps.length ≤ 7 := by
        have := sub.length_le
        rw [List.length_map, List.length_take] at this
        omega
      refine xg_name (by decide) (by decide) ?_
      try dsimp only [List.set]
      refine xs_seq <| xs_set (by decide) <| xe_tup <| xa_cons <| xe_I0 <| xr_callD (i := 0) (fun _ => .nil) ⟨_, _, _, rfl⟩ <| xa_cons <| xe_I0 <| xe_I <| xe_int <| xe_var rfl ⟨_, _, rfl, rfl, mulw (by omega) (by omega), xe_int ⟨_, _, rfl, rfl, xa_nil ⟨q, y, rfl, _, rfl, by omega, by omega, hy, fun u y2 u0 u1 hy2 => on_d <| xe_var rfl ⟨_, _, rfl, rfl, ?_⟩⟩⟩⟩
      refine xa_cons <| xe_I0 <| xr_callD (i := 0) (fun _ => .nil) ⟨_, _, _, rfl⟩ <| xa_cons <| xe_I0 <| xe_I <| xe_int <| xe_var rfl ⟨_, _, rfl, rfl, mulw (by omega) (by omega), xe_int ⟨_, _, rfl, rfl, xa_nil ⟨q, y2, rfl, _, rfl, by omega, by omega, hy2, fun v y3 v0 v1 hy3 => on_d <| xe_var rfl ⟨_, _, rfl, rfl, xa_nil ⟨by simp, ?_⟩⟩⟩⟩⟩
      try dsimp only [List.set]
      have e := any_xy (u - w, v - w) (ps.map (·.2))
      refine xs_if <| xt_test <| xe_ninDO <| xe_var rfl ⟨_, rfl, rfl, pla_xys _, shp_xy _ _, shp_xys _, _, rfl, ?_⟩
      rw [show D.tup [D.int (u - w), D.int (v - w)] = xyD (u - w, v - w) from rfl, e]
      by_cases c : (u - w, v - w) ∈ ps.map (·.2)
      · rw [decide_eq_true c]
        exact if_ff <| xs_next ⟨y3, ps, _, _, rfl, sub.trans (by rw [tk]; exact List.sublist_append_left _ _), bd, npl, hy3⟩
      · rw [decide_eq_false c]
        refine if_tt <| xs_seq <| xs_drop <| xe_app ⟨_, rfl⟩ <| xe_var rfl ⟨_, rfl, by simp; omega, ?_⟩
        try dsimp only [List.set]
        refine xs_drop <| xe_app ⟨_, rfl⟩ <| xe_catA <| xe_tup <| xa_cons <| xe_var rfl <| xa_nil ⟨by simp, xe_var rfl ⟨_, _, rfl, rfl, by simp, ps.map ptD, rfl, by simp; omega, ?_⟩⟩
        refine ⟨y3, ps ++ [(n, u - w, v - w)], .d (.str n), .d (xyD (u - w, v - w)), by simp [ptD, xyD], ?_, fun p hp => ?_, ?_, hy3⟩
        · rw [tk, List.map_append]
          exact List.Sublist.append sub (by simp)
        · rcases List.mem_append.mp hp with z | z
          · exact bd p z
          · rw [List.mem_singleton.mp z]
            dsimp only
            omega
        · rw [List.map_append, List.nodup_append]
          refine ⟨npl, by simp, fun x hx y hy e => c ?_⟩
          rw [← (List.mem_singleton.mp hy : y = (u - w, v - w)), ← e]; exact hx
    · rintro δ1 ⟨y, ps, s5, s6, rfl, sub, bd, npl, hy⟩
      rw [List.length_map, List.take_length] at sub
      have pl := sub.length_le
      rw [List.length_map] at pl
      exact xs_retV (by decide) rfl ⟨y, rfl, k ps y ⟨by omega, fun p hp => np _ (sub.subset (List.mem_map_of_mem hp)), bd, nd.sublist sub, npl⟩ (by omega) hy⟩
/-! ### things that are no edge, or no point -/
structure OddV (K : PySem.W.Frag) (a : Ads) (x : D) : Prop where
  any : AnyE K a x
  ed : ¬ EdG x
  pt : isPtB x = false
structure OddP (K : PySem.W.Frag) (a : Ads) (x : D) : Prop where
  any : AnyE K a x
  pt : isPtB x = false
def okB1 : D → Bool | .str s => decide (s.length ≤ 100) | d => (tyD d).isSome
def okSB (d : D) : Bool := okB1 d && match seqOf d with | some xs => decide (xs.length ≤ 100) && xs.all okB1 | none => true
theorem okB1_of {d : D} (h : okB1 d = true) : ok1 d := by
  have sl : (100 : Nat) ≤ sizeLine := by rw [sizeLine_eq]; decide
  cases d with
  | str s => exact ⟨⟨_, rfl⟩, fun t e => by cases e; exact Nat.le_trans (of_decide_eq_true h) sl⟩
  | _ => exact ⟨Option.isSome_iff_exists.mp h, fun t e => nomatch e⟩
theorem okSB_of {d : D} (h : okSB d = true) : okS d := by
  unfold okSB at h
  rw [Bool.and_eq_true] at h
  refine ⟨okB1_of h.1, fun xs e => ?_⟩
  have h2 := h.2
  rw [show seqOf d = some xs by rcases e with rfl | rfl <;> rfl] at h2
  dsimp only at h2
  rw [Bool.and_eq_true, decide_eq_true_eq, List.all_eq_true] at h2
  exact ⟨Nat.le_trans h2.1 (by decide), fun x hx => okB1_of (h2.2 x hx)⟩
def edB : D → Bool | .tup [.str x, .str y] => nmS x && nmS y && !decide (x = y) | _ => false
theorem edB_of {d : D} (h : EdG d) : edB d = true := by
  obtain ⟨e, rfl, h1, h2, h3⟩ := h
  show (nmS e.1 && nmS e.2 && !decide (e.1 = e.2)) = true
  rw [h1.2, h2.2, decide_eq_false h3]; rfl
theorem odd_of {x : D} (h : okSB x = true) (h1 : edB x = false) (h2 : isPtB x = false) : OddV K a x := ⟨anyE_s (okSB_of h), fun e => (by rw [edB_of e] at h1; cases h1), h2⟩
theorem room_rnm : ∀ r ∈ [(("a" : Str), ([] : List Str))], RNm r := fun r hr => by
  rw [List.mem_singleton.mp hr]
  exact ⟨by decide +kernel, by simp, by simp⟩
def F_odd (K : PySem.W.Frag) (a : Ads) : FD := fun y ds Φ => ∃ f : Nat, ds = [.int f] ∧ f < 3 ∧ DealD y ∧ ∀ x y', ((f < 2 → OddV K a x) ∧ (f = 2 → OddP K a x)) → DealD y' → Φ (.d x) y'
def oddA : List D := [.non, .str "ab", .int 3, .tup [], .tup [.str "a"], .lst [.str "a", .str "b"], .tup [.str "a", .str "b", .str "c"], .tup [.str "a", .str "Ab"], .tup [.str "if", .str "b"], .tup [.str "a", .int 1], .tup [.str "a", .str "a"]]
def oddB : List D := [.tup [.str "abcd", .str "b"], .tup [.str "a", .non], .tup [.tup [.str "a", .str "b"]], .tup [.str "a\n", .str "b"], .lst [.lst [.lst [.lst [.lst [.lst [.lst [.str "a"]]]]]]]]
def oddC : List D := [.tup [.str "a", .int 1], .tup [.str "a", .int 1, .non], .tup [.str "a", .bl true, .int 2], .lst [.str "a", .int 1, .int 2], .tup [.str "A", .int 1, .int 2], .tup [.int 1, .int 1, .int 2], .tup [.str "a", .int 1, .str "2"], .tup [.str "a", .int 1, .int 2, .int 3], .tup [.str "if", .int 0, .int 0]]
theorem oddA_ok : ∀ x ∈ oddA, okSB x = true ∧ edB x = false ∧ isPtB x = false := by
  intro x hx
  simp only [oddA, List.mem_cons, List.not_mem_nil, or_false] at hx
  rcases hx with rfl | rfl | rfl | rfl | rfl | rfl | rfl | rfl | rfl | rfl | rfl <;> exact ⟨by decide +kernel, by decide +kernel, by decide +kernel⟩
theorem oddB_ok : ∀ x ∈ oddB, okSB x = true ∧ edB x = false ∧ isPtB x = false := by
  intro x hx
  simp only [oddB, List.mem_cons, List.not_mem_nil, or_false] at hx
  rcases hx with rfl | rfl | rfl | rfl | rfl <;> exact ⟨by decide +kernel, by decide +kernel, by decide +kernel⟩
theorem oddC_ok : ∀ x ∈ oddC, okSB x = true ∧ isPtB x = false := by
  intro x hx
  simp only [oddC, List.mem_cons, List.not_mem_nil, or_false] at hx
  rcases hx with rfl | rfl | rfl | rfl | rfl | rfl | rfl | rfl | rfl <;> exact ⟨by decide +kernel, by decide +kernel⟩
theorem odd_room (T : Txt K mg a) (os : List Rl) (ns : List Str) : OddV K a (roomF os ns) := ⟨⟨⟨_, .obj (c := 1) T.isC_Room, T.ku_Room_tuple⟩, fun xs e => nomatch e⟩, fun ⟨e, h, _⟩ => (nomatch h), rfl⟩
theorem ok_odd (T : Txt K mg a) (G_lw_pick : FnOk P w K mg base CX0 2 a.f_lw_pick a.fd_lw_pick ["_law_deal_here", "_law_some"] (spD (ZZ K a) F_pick3)) (G_Room_read : FnOk P w K mg base CX0 6 a.f_Room_read a.fd_Room_read ["cls", "text"] (spR (ZZ K a) (F_read a.C_Room))) : FnOk P w K mg base CX0 7 a.f_lw_odd a.fd_lw_odd ["_law_deal_here", "_law_form"] (spD (ZZ K a) (F_odd K a)) := by
  refine T.F_lw_odd.ok sc_lw_odd (fun vs H Q E h => ?_) (fun cdv A outer s H vs Q E hr h => ?_)
  · obtain ⟨M, p, q, y, ws, ds, Φ, rfl, _, _, al, ⟨f, rfl, _⟩, _⟩ := h
    simp [al.len]
  · obtain ⟨M, p, q, y, ws, ds, Φ, rfl, so, ex, al, ⟨f, rfl, f3, hy, k⟩, fin⟩ := h
    refine ⟨_, (pss_cons (ps_set (i := 2) sc_lw_odd.nd rfl (Or.inl rfl) (pe_lst (pa_cons pe_non (pa_cons pe_str (pa_cons pe_int (pa_cons (pe_tup pa_nil) (pa_cons (pe_tup (pa_cons pe_str pa_nil)) (pa_cons (pe_lst (pa_cons pe_str (pa_cons pe_str pa_nil))) (pa_cons (pe_tup (pa_cons pe_str (pa_cons pe_str (pa_cons pe_str pa_nil)))) (pa_cons (pe_tup (pa_cons pe_str (pa_cons pe_str pa_nil))) (pa_cons (pe_tup (pa_cons pe_str (pa_cons pe_str pa_nil))) (pa_cons (pe_tup (pa_cons pe_str (pa_cons pe_int pa_nil))) (pa_cons (pe_tup (pa_cons pe_str (pa_cons pe_str pa_nil))) pa_nil)))))))))))))
      (pss_cons (ps_set (i := 2) sc_lw_odd.nd rfl (Or.inl rfl) (pe_op op_cat (pv 2) (pe_lst (pa_cons (pe_tup (pa_cons pe_str (pa_cons pe_str pa_nil))) (pa_cons (pe_tup (pa_cons pe_str (pa_cons pe_non pa_nil))) (pa_cons (pe_tup (pa_cons (pe_tup (pa_cons pe_str (pa_cons pe_str pa_nil))) pa_nil)) (pa_cons (pe_tup (pa_cons pe_str (pa_cons pe_str pa_nil))) (pa_cons (pe_lst (pa_cons (pe_lst (pa_cons (pe_lst (pa_cons (pe_lst (pa_cons (pe_lst (pa_cons (pe_lst (pa_cons (pe_lst (pa_cons pe_str pa_nil)) pa_nil)) pa_nil)) pa_nil)) pa_nil)) pa_nil)) pa_nil)) (pa_cons (ClX.pe_cmeth (pe_glob (v := .ref a.C_Room) rfl T.m_Room rfl) T.cr_Room T.cm_Room_read (FnOk.raw G_Room_read T.b_Room_read .nil) (hr.mono (by decide)) pass0 (pa_cons pe_str pa_nil)) pa_nil)))))))))
      (pss_cons (ps_if (pt_cmpR op_eq (pv 1) pe_int (nomark _)) (pss_cons (ps_set (i := 2) sc_lw_odd.nd rfl (Or.inl rfl) (pe_op op_cat (pv 2) (pe_lst (pa_cons (pe_tup (pa_cons pe_str (pa_cons pe_int pa_nil))) (pa_cons (pe_tup (pa_cons pe_str (pa_cons pe_int (pa_cons pe_non pa_nil)))) (pa_cons (pe_tup (pa_cons pe_str (pa_cons pe_bl (pa_cons pe_int pa_nil)))) (pa_cons (pe_lst (pa_cons pe_str (pa_cons pe_int (pa_cons pe_int pa_nil)))) (pa_cons (pe_tup (pa_cons pe_str (pa_cons pe_int (pa_cons pe_int pa_nil)))) (pa_cons (pe_tup (pa_cons pe_int (pa_cons pe_int (pa_cons pe_int pa_nil)))) (pa_cons (pe_tup (pa_cons pe_str (pa_cons pe_int (pa_cons pe_str pa_nil)))) pa_nil))))))))))
      (pss_one (ps_set (i := 2) sc_lw_odd.nd rfl (Or.inl rfl) (pe_op op_cat (pv 2) (pe_lst (pa_cons (pe_tup (pa_cons pe_str (pa_cons pe_int (pa_cons pe_int (pa_cons pe_int pa_nil))))) (pa_cons (pe_tup (pa_cons pe_str (pa_cons pe_int (pa_cons pe_int pa_nil)))) pa_nil))))))) pss_nil)
      (pss_one (ps_ret (pe_call G_lw_pick (hr.mono (by decide)) (by rfl) T.m_lw_pick T.F_lw_pick.kp T.b_lw_pick .nil pass0 (pa_cons (pv 0) (pa_cons (pv 2) pa_nil)))))))), entD (n := 1) so ex al rfl fin ?_⟩
    walk_at "ent"
    refine xs_seq <| xs_set (by decide) <| xe_lst <| xa_cons <| xe_non <| xa_cons <| xe_str <| xa_cons <| xe_int <| xa_cons <| xe_tup <| xa_nil ⟨by simp, xa_cons <| xe_tup <| xa_cons <| xe_str <| xa_nil ⟨by simp, xa_cons <| xe_lst <| xa_cons <| xe_str <| xa_cons <| xe_str <| xa_nil ⟨by simp, xa_cons <| xe_tup <| xa_cons <| xe_str <| xa_cons <| xe_str <| xa_cons <| xe_str <| xa_nil ⟨by simp, xa_cons <| xe_tup <| xa_cons <| xe_str <| xa_cons <| xe_str <| xa_nil ⟨by simp, xa_cons <| xe_tup <| xa_cons <| xe_str <| xa_cons <| xe_str <| xa_nil ⟨by simp, xa_cons <| xe_tup <| xa_cons <| xe_str <| xa_cons <| xe_int <| xa_nil ⟨by simp, xa_cons <| xe_tup <| xa_cons <| xe_str <| xa_cons <| xe_str <| xa_nil ⟨by simp, xa_nil ⟨by simp, ?_⟩⟩⟩⟩⟩⟩⟩⟩⟩
    try dsimp only [List.set]
    refine xs_seq <| xs_set (by decide) <| xe_ofO <| xo_cat <| xe_var rfl <| xe_lst <| xa_cons <| xe_tup <| xa_cons <| xe_str <| xa_cons <| xe_str <| xa_nil ⟨by simp, xa_cons <| xe_tup <| xa_cons <| xe_str <| xa_cons <| xe_non <| xa_nil ⟨by simp, xa_cons <| xe_tup <| xa_cons <| xe_tup <| xa_cons <| xe_str <| xa_cons <| xe_str <| xa_nil ⟨by simp, xa_nil ⟨by simp, xa_cons <| xe_tup <| xa_cons <| xe_str <| xa_cons <| xe_str <| xa_nil ⟨by simp, xa_cons <| xe_lst <| xa_cons <| xe_lst <| xa_cons <| xe_lst <| xa_cons <| xe_lst <| xa_cons <| xe_lst <| xa_cons <| xe_lst <| xa_cons <| xe_lst <| xa_cons <| xe_str <| xa_nil ⟨by simp, xa_nil ⟨by simp, xa_nil ⟨by simp, xa_nil ⟨by simp, xa_nil ⟨by simp, xa_nil ⟨by simp, xa_nil ⟨by simp, xa_cons <| xr_cmeth <| xa_cons <| xe_str <| xa_nil ⟨[("a", [])], rfl, by decide, room_rnm, fun lot ns hns => on_d <| xa_nil ⟨by simp, oddA, oddB ++ [roomF (([(("a" : Str), ([] : List Str))]).map lotR) ns], rfl, rfl, by simp [oddA, oddB], _, rfl, ?_⟩⟩⟩⟩⟩⟩⟩⟩⟩⟩⟩⟩⟩⟩
    try dsimp only [List.set]
    generalize ([(("a" : Str), ([] : List Str))]).map lotR = os
    have all : ∀ x ∈ oddA ++ (oddB ++ [roomF os ns]), OddV K a x := fun x hx => by
      rcases List.mem_append.mp hx with h | h
      · obtain ⟨h1, h2, h3⟩ := oddA_ok x h
        exact odd_of h1 h2 h3
      · rcases List.mem_append.mp h with h | h
        · obtain ⟨h1, h2, h3⟩ := oddB_ok x h
          exact odd_of h1 h2 h3
        · rw [List.mem_singleton.mp h]; exact odd_room T os ns
    have al1 : ∀ x ∈ oddA ++ (oddB ++ [roomF os ns]), (f < 2 → OddV K a x) ∧ (f = 2 → OddP K a x) := fun x hx => ⟨fun _ => all x hx, fun _ => ⟨(all x hx).any, (all x hx).pt⟩⟩
    have l1 : (oddA ++ (oddB ++ [roomF os ns])).length = 17 := rfl
    generalize oddA ++ (oddB ++ [roomF os ns]) = xs at al1 l1
    clear all
    refine xs_seq <| xs_mid (J := fun δ => ∃ zs : List D, δ = [.deal q y.cs y.n, .d (.int f), .d (.lst zs)] ∧ 0 < zs.length ∧ zs.length ≤ 100 ∧ ∀ x ∈ zs, (f < 2 → OddV K a x) ∧ (f = 2 → OddP K a x)) ?_ ?_
    · refine xs_if <| xt_test <| xe_eq <| xe_var rfl <| xe_int ⟨_, _, rfl, rfl, rfl, _, rfl, ?_⟩
      by_cases c : f = 2
      · subst c
        rw [show decide (V.int ((2 : Nat) : Int) = V.int 2) = true from rfl]
        refine if_tt <| xs_seq <| xs_set (by decide) <| xe_ofO <| xo_cat <| xe_var rfl <| xe_lst <| xa_cons <| xe_tup <| xa_cons <| xe_str <| xa_cons <| xe_int <| xa_nil ⟨by simp, xa_cons <| xe_tup <| xa_cons <| xe_str <| xa_cons <| xe_int <| xa_cons <| xe_non <| xa_nil ⟨by simp, xa_cons <| xe_tup <| xa_cons <| xe_str <| xa_cons <| xe_bl <| xa_cons <| xe_int <| xa_nil ⟨by simp, xa_cons <| xe_lst <| xa_cons <| xe_str <| xa_cons <| xe_int <| xa_cons <| xe_int <| xa_nil ⟨by simp, xa_cons <| xe_tup <| xa_cons <| xe_str <| xa_cons <| xe_int <| xa_cons <| xe_int <| xa_nil ⟨by simp, xa_cons <| xe_tup <| xa_cons <| xe_int <| xa_cons <| xe_int <| xa_cons <| xe_int <| xa_nil ⟨by simp, xa_cons <| xe_tup <| xa_cons <| xe_str <| xa_cons <| xe_int <| xa_cons <| xe_str <| xa_nil ⟨by simp, xa_nil ⟨by simp, _, _, rfl, rfl, by simp [l1], _, rfl, ?_⟩⟩⟩⟩⟩⟩⟩⟩
        try dsimp only [List.set]
        refine xs_set (by decide) <| xe_ofO <| xo_cat <| xe_var rfl <| xe_lst <| xa_cons <| xe_tup <| xa_cons <| xe_str <| xa_cons <| xe_int <| xa_cons <| xe_int <| xa_cons <| xe_int <| xa_nil ⟨by simp, xa_cons <| xe_tup <| xa_cons <| xe_str <| xa_cons <| xe_int <| xa_cons <| xe_int <| xa_nil ⟨by simp, xa_nil ⟨by simp, _, _, rfl, rfl, by simp [l1], _, rfl, ?_⟩⟩⟩
        try dsimp only [List.set]
        refine ⟨xs ++ oddC, by rw [List.append_assoc]; rfl, by rw [List.length_append, l1]; omega, by simp [l1, oddC], fun x hx => ?_⟩
        rcases List.mem_append.mp hx with h | h
        · exact al1 x h
        · obtain ⟨h1, h2⟩ := oddC_ok x h
          exact ⟨fun h => absurd h (by decide), fun _ => ⟨anyE_s (okSB_of h1), h2⟩⟩
      · rw [decide_eq_false fun z => c (by have := V.int.inj z; omega)]
        exact if_ff <| xs_next ⟨xs, rfl, by omega, by omega, al1⟩
    · rintro δ1 ⟨zs, rfl, z0, z1, hz⟩
      exact xs_retS <| xr_callD (i := 0) (fun _ => .nil) ⟨_, _, _, rfl⟩ <| xa_cons <| xe_var rfl <| xa_nil ⟨q, y, rfl, zs, _, rfl, .inl rfl, z0, by omega, hy, fun x y1 hx hy1 => ⟨y1, rfl, k x y1 (hz x hx) hy1⟩⟩
/-! ### the law -/
theorem edsOk {ns : List Str} {es : List Ed} (h : EdIn ns es) (np : ∀ n ∈ ns, n ∈ pool) (l : es.length ≤ 100) : EdsOk es := ⟨l, fun e he => ⟨nm_pool (np _ (h e he).1), nm_pool (np _ (h e he).2.1), (h e he).2.2⟩, fun e he => ⟨(pool_ok _ (np _ (h e he).1)).2.2, (pool_ok _ (np _ (h e he).2.1)).2.2⟩⟩
theorem edsFew {ns : List Str} {es : List Ed} (h : EdIn ns es) (l : ns.length ≤ 7) : ∀ ms, GS.IsLot ms (ends es) → ms.length ≤ 7 := fun ms hm => Nat.le_trans (nodup_len (GS.Asc.nodup hm.asc) fun x hx => by
  obtain ⟨e, he, rfl | rfl⟩ := mem_ends.mp ((hm.mem x).mp hx)
  · exact (h e he).1
  · exact (h e he).2.1) l
theorem pl_pt {p : Pt} (h : PyData.strOk p.1 = true) : Pl (ptD p) := by
  refine ⟨rfl, ?_, ?_⟩
  · show PyData.canLay0 (PyData.tuple [PyData.str p.1, PyData.int p.2.1, PyData.int p.2.2]) = true
    simp [PyData.canLay0, PyData.canLay0.eq_6, PyData.canLayAll0, h]
  · show (PyData.tuple [PyData.str p.1, PyData.int p.2.1, PyData.int p.2.2]).depth ≤ _
    simp [PyData.depth, PyData.depthAll]
theorem PtIn.ok {ps : List Pt} (h : PtIn ps) : PtsOk ps := ⟨h.l, fun p hp => by
  obtain ⟨⟨b1, b2⟩, b3, b4⟩ := h.b p hp
  exact ⟨nm_pool (h.p p hp), (pool_ok _ (h.p p hp)).2.2, by unfold Sml; omega, by unfold Sml; omega⟩, h.nn, h.np⟩
theorem PtIn.pl {ps : List Pt} (h : PtIn ps) : ∀ x ∈ ps.map ptD, Pl x := fun x hx => by
  obtain ⟨p, hp, rfl⟩ := List.mem_map.mp hx
  exact pl_pt (pool_ok _ (h.p p hp)).2.2
theorem EdsOk.take {es : List Ed} (h : EdsOk es) (k : Nat) : EdsOk (es.take k) := ⟨(by rw [List.length_take]; have := h.l; omega), fun e he => h.nm e (List.mem_of_mem_take he), fun e he => h.s e (List.mem_of_mem_take he)⟩
theorem PtsOk.take {ps : List Pt} (h : PtsOk ps) (k : Nat) : PtsOk (ps.take k) := ⟨(by rw [List.length_take]; have := h.l; omega), fun p hp => h.ok p (List.mem_of_mem_take hp), by rw [List.map_take]; exact List.Nodup.sublist (List.take_sublist _ _) h.nn, by rw [List.map_take]; exact List.Nodup.sublist (List.take_sublist _ _) h.np⟩
theorem zzz_ok : NmOk ("zzz" : Str) ∧ PyData.strOk ("zzz" : Str) = true := ⟨⟨by decide, by decide +kernel⟩, by decide +kernel⟩
def GoodV (f : Nat) (xs : List D) : Prop := (f < 2 ∧ ∃ es : List Ed, xs = es.map edD ∧ EdsOk es) ∨ (f = 2 ∧ ∃ ps : List Pt, xs = ps.map ptD ∧ PtsOk ps)
theorem GoodV.len {f : Nat} {xs : List D} (h : GoodV f xs) : xs.length ≤ 100 := by
  rcases h with ⟨_, es, rfl, ok⟩ | ⟨_, ps, rfl, ok⟩
  · rw [List.length_map]; exact ok.l
  · rw [List.length_map]; exact Nat.le_trans ok.l (by decide)
theorem ref_bad {f k : Nat} {xs tl : List D} {x : D} {Φ : S → Prop} (g : GoodV f xs) (hk : k ≤ xs.length) (ox : (f < 2 → OddV K a x) ∧ (f = 2 → OddP K a x)) (l : tl.length ≤ 200) (h : Φ (.d (.int k))) : Ref42 K a f (xs.take k ++ x :: tl) Φ := by
  have ln : (xs.take k ++ x :: tl).length ≤ 1000 := by
    have := g.len
    rw [List.length_append, List.length_take, List.length_cons]
    omega
  have edge : f < 2 → ∀ good, RefE K a (xs.take k ++ x :: tl) Φ good := fun f2 good => by
    rcases g with ⟨_, es, rfl, ok⟩ | ⟨c, _⟩
    · have o := ox.1 f2
      rw [List.length_map] at hk
      refine ⟨es.take k, x :: tl, by rw [List.map_take], ln, ok.take k, fun e => (nomatch e), fun y rs e => ?_⟩
      cases e
      exact ⟨o.any, o.ed, by rw [List.length_take, Nat.min_eq_left hk]; exact h⟩
    · omega
  refine ⟨fun e => edge (by omega) _, fun e => edge (by omega) _, fun e => ?_⟩
  rcases g with ⟨c, _⟩ | ⟨_, ps, rfl, ok⟩
  · omega
  · have o := ox.2 e
    rw [List.length_map] at hk
    refine ⟨ps.take k, x :: tl, by rw [List.map_take], ln, ok.take k, fun e => (nomatch e), fun y rs e => ?_⟩
    cases e
    exact ⟨.inl ⟨o.any, o.pt⟩, by rw [List.length_take, Nat.min_eq_left hk]; exact h⟩
def F_law : FR := fun ds Φ => ∃ ns : List Int, ds = [.scr ns] ∧ ns.length ≤ 63 ∧ Φ (.d (.bl true))
theorem ok_law (T : Txt K mg a) (G_lw_deal : FnOk P w K mg base CX0 1 a.f_lw_deal a.fd_lw_deal ["_law_script", "_law_base"] (spR (ZZ K a) F_deal)) (G_lw_draw : FnOk P w K mg base CX0 1 a.f_lw_draw a.fd_lw_draw ["_law_deal_here", "_law_bound"] (spD (ZZ K a) F_draw)) (G_lw_pick : FnOk P w K mg base CX0 2 a.f_lw_pick a.fd_lw_pick ["_law_deal_here", "_law_some"] (spD (ZZ K a) F_pick3)) (G_lw_names : FnOk P w K mg base CX0 2 a.f_lw_names a.fd_lw_names ["_law_deal_here", "_law_bound"] (spD (ZZ K a) F_names)) (G_lw_graph : FnOk P w K mg base CX0 3 a.f_lw_graph a.fd_lw_graph ["_law_deal_here", "_law_names_here", "_law_most"] (spD (ZZ K a) F_graph))
    (G_lw_forest : FnOk P w K mg base CX0 3 a.f_lw_forest a.fd_lw_forest ["_law_deal_here", "_law_names_here"] (spD (ZZ K a) F_forest)) (G_lw_points : FnOk P w K mg base CX0 3 a.f_lw_points a.fd_lw_points ["_law_deal_here", "_law_bound", "_law_wide"] (spD (ZZ K a) F_points)) (G_lw_odd : FnOk P w K mg base CX0 7 a.f_lw_odd a.fd_lw_odd ["_law_deal_here", "_law_form"] (spD (ZZ K a) (F_odd K a))) (G_lw_refused : FnOk P w K mg base CX0 8 a.f_lw_refused a.fd_lw_refused ["_law_form", "_law_value"] (spR (ZZ K a) (F_ref42 K a))) (G_lw_closing : FnOk P w K mg base CX0 1 a.f_lw_closing a.fd_lw_closing ["_law_edges"] (spR (ZZ K a) F_closing)) : FnOk P w K mg base CX0 10 a.f_lw_main a.fd_lw_main ["_law_script"] (spR (ZZ K a) F_law) := by
  refine T.F_lw_main.ok sc_lw_main (fun vs H Q E h => ?_) (fun cdv A outer s H vs Q E hr h => ?_)
  · obtain ⟨M, ds, Φ, _, al, ⟨ns, rfl, _⟩, _⟩ := h
    exact al.len
  · obtain ⟨M, ds, Φ, ex, al, ⟨scr, rfl, hl, fin⟩, q⟩ := h
    refine ⟨_, (pss_cons (ps_for PassesOwn.never rfl (pi_range1 (by rfl) T.n_range (pa_cons (pe_callB (call_max2 rfl) (by rfl) T.n_max (by decide +kernel) (pa_cons pe_int (pa_cons (pe_callB (call_min2 rfl) (by rfl) T.n_min (by decide +kernel) (pa_cons pe_int (pa_cons (pe_callB (show CallR _ (.builtin "len") (G.rLen K) from call_len) (by rfl) T.n_len PySem.boot_len (pa_cons (pv 0) pa_nil)) pa_nil))) pa_nil))) pa_nil)) (pg_name (i := 1) sc_lw_main.nd rfl (Or.inl rfl))
      (pss_cons (ps_set (i := 2) sc_lw_main.nd rfl (Or.inl rfl) (pe_call G_lw_deal (hr.mono (by decide)) (by rfl) T.m_lw_deal T.F_lw_deal.kp T.b_lw_deal .nil pass0 (pa_cons (pv 0) (pa_cons (pv 1) pa_nil))))
      (pss_one (ps_for PassesOwn.never rfl (pi_range1 (by rfl) T.n_range (pa_cons pe_int pa_nil)) (pg_name (i := 3) sc_lw_main.nd rfl (Or.inl rfl))
      (pss_cons (ps_set (i := 4) sc_lw_main.nd rfl (Or.inl rfl) (pe_call G_lw_names (hr.mono (by decide)) (by rfl) T.m_lw_names T.F_lw_names.kp T.b_lw_names .nil pass0 (pa_cons (pv 2) (pa_cons (pe_op op_add pe_int (pe_call G_lw_draw (hr.mono (by decide)) (by rfl) T.m_lw_draw T.F_lw_draw.kp T.b_lw_draw .nil pass0 (pa_cons (pv 2) (pa_cons pe_int pa_nil)))) pa_nil))))
      (pss_cons (ps_par (i := 5) (j := 6) (by rfl) sc_lw_main.nd rfl rfl (by decide) rfl rfl (pa_cons (pe_call G_lw_graph (hr.mono (by decide)) (by rfl) T.m_lw_graph T.F_lw_graph.kp T.b_lw_graph .nil pass0 (pa_cons (pv 2) (pa_cons (pv 4) (pa_cons pe_int pa_nil)))) (pa_cons (pe_call G_lw_forest (hr.mono (by decide)) (by rfl) T.m_lw_forest T.F_lw_forest.kp T.b_lw_forest .nil pass0 (pa_cons (pv 2) (pa_cons (pv 4) pa_nil))) pa_nil)) (by rfl))
      (pss_cons (ps_set (i := 7) sc_lw_main.nd rfl (Or.inl rfl) (pe_call G_lw_points (hr.mono (by decide)) (by rfl) T.m_lw_points T.F_lw_points.kp T.b_lw_points .nil pass0 (pa_cons (pv 2) (pa_cons pe_int (pa_cons pe_int pa_nil)))))
      (pss_cons (ps_if (pt_cmpR (op_neD hr.units) (pe_call G_lw_refused (hr.mono (by decide)) (by rfl) T.m_lw_refused T.F_lw_refused.kp T.b_lw_refused .nil pass0 (pa_cons pe_int (pa_cons (pv 5) pa_nil))) (pe_call G_lw_closing (hr.mono (by decide)) (by rfl) T.m_lw_closing T.F_lw_closing.kp T.b_lw_closing .nil pass0 (pa_cons (pv 5) pa_nil)) (nomark _)) (pss_one (ps_ret pe_bl)) pss_nil)
      (pss_cons (ps_if (pt_cmpR GS.op_notX (pe_call G_lw_refused (hr.mono (by decide)) (by rfl) T.m_lw_refused T.F_lw_refused.kp T.b_lw_refused .nil pass0 (pa_cons pe_int (pa_cons (pv 5) pa_nil))) pe_non (nomark _)) (pss_one (ps_ret pe_bl)) pss_nil)
      (pss_cons (ps_if (pt_cmpR GS.op_notX (pe_call G_lw_refused (hr.mono (by decide)) (by rfl) T.m_lw_refused T.F_lw_refused.kp T.b_lw_refused .nil pass0 (pa_cons pe_int (pa_cons (pv 6) pa_nil))) pe_non (nomark _)) (pss_one (ps_ret pe_bl)) pss_nil)
      (pss_cons (ps_if (pt_cmpR GS.op_notX (pe_call G_lw_refused (hr.mono (by decide)) (by rfl) T.m_lw_refused T.F_lw_refused.kp T.b_lw_refused .nil pass0 (pa_cons pe_int (pa_cons (pv 7) pa_nil))) pe_non (nomark _)) (pss_one (ps_ret pe_bl)) pss_nil)
      (pss_cons (ps_for PassesOwn.never rfl (pi_tupK (K := K) rfl (pe_tup (pa_cons (pe_tup (pa_cons pe_int (pa_cons (pv 5) pa_nil))) (pa_cons (pe_tup (pa_cons pe_int (pa_cons (pv 5) pa_nil))) (pa_cons (pe_tup (pa_cons pe_int (pa_cons (pv 7) pa_nil))) pa_nil))))) (pg_tup rfl (pgs_cons (pg_name (i := 8) sc_lw_main.nd rfl (Or.inl rfl)) (pgs_cons (pg_name (i := 9) sc_lw_main.nd rfl (Or.inl rfl)) pgs_nil)))
      (pss_cons (ps_par (i := 10) (j := 11) (by rfl) sc_lw_main.nd rfl rfl (by decide) rfl rfl (pa_cons (pe_call G_lw_draw (hr.mono (by decide)) (by rfl) T.m_lw_draw T.F_lw_draw.kp T.b_lw_draw .nil pass0 (pa_cons (pv 2) (pa_cons (pe_op op_add (pe_callB (show CallR _ (.builtin "len") (G.rLen K) from call_len) (by rfl) T.n_len PySem.boot_len (pa_cons (pv 9) pa_nil)) pe_int) pa_nil))) (pa_cons (pe_call G_lw_odd (hr.mono (by decide)) (by rfl) T.m_lw_odd T.F_lw_odd.kp T.b_lw_odd .nil pass0 (pa_cons (pv 2) (pa_cons (pv 8) pa_nil))) pa_nil)) (by rfl))
      (pss_cons (ps_if (pt_cmpR (op_neD hr.units) (pe_call G_lw_refused (hr.mono (by decide)) (by rfl) T.m_lw_refused T.F_lw_refused.kp T.b_lw_refused .nil pass0 (pa_cons (pv 8) (pa_cons (pe_op op_cat (pe_op op_cat (pe_slice (show SlR _ (rSlL K) from sl_list) (pv 9) po_none (po_some (pv 10))) (pe_lst (pa_cons (pv 11) pa_nil))) (pe_slice (show SlR _ (rSlL K) from sl_list) (pv 9) (po_some (pv 10)) po_none)) pa_nil))) (pv 10) (nomark _)) (pss_one (ps_ret pe_bl)) pss_nil)
      (pss_cons (ps_if (pt_cmpR (op_neD hr.units) (pe_call G_lw_refused (hr.mono (by decide)) (by rfl) T.m_lw_refused T.F_lw_refused.kp T.b_lw_refused .nil pass0 (pa_cons (pv 8) (pa_cons (pe_op op_catA (pe_callTy call_tuple_of (by rfl) T.n_tuple (by decide +kernel) (pa_cons (pe_slice (show SlR _ (rSlL K) from sl_list) (pv 9) po_none (po_some (pv 10))) pa_nil)) (pe_tup (pa_cons (pv 11) (pa_cons pe_non pa_nil)))) pa_nil))) (pv 10) (nomark _)) (pss_one (ps_ret pe_bl)) pss_nil)
      (pss_one (ps_for PassesOwn.never rfl (pi_tupK (K := K) rfl (pe_tup (pa_cons pe_non (pa_cons pe_str (pa_cons pe_int (pa_cons pe_bl pa_nil)))))) (pg_name (i := 12) sc_lw_main.nd rfl (Or.inl rfl))
      (pss_one (ps_if (pt_cmpR op_ne (pe_callB GX.cr_repI (by rfl) T.n_repr (by decide +kernel) (pa_cons (pe_call G_lw_refused (hr.mono (by decide)) (by rfl) T.m_lw_refused T.F_lw_refused.kp T.b_lw_refused .nil pass0 (pa_cons (pv 8) (pa_cons (pv 12) pa_nil))) pa_nil)) pe_str (nomark _)) (pss_one (ps_ret pe_bl)) pss_nil))))))))
      (pss_one (ps_if (pt_cmpR (op_neD hr.units) (pv 7) (pe_lst pa_nil) (nomark _)) (pss_cons (ps_asg (pe_call G_lw_pick (hr.mono (by decide)) (by rfl) T.m_lw_pick T.F_lw_pick.kp T.b_lw_pick .nil pass0 (pa_cons (pv 2) (pa_cons (pv 7) pa_nil))) (pg_tup rfl (pgs_cons (pg_name (i := 13) sc_lw_main.nd rfl (Or.inl rfl)) (pgs_cons (pg_name (i := 14) sc_lw_main.nd rfl (Or.inl rfl)) (pgs_cons (pg_name (i := 15) sc_lw_main.nd rfl (Or.inl rfl)) pgs_nil)))))
      (pss_cons (ps_set (i := 16) sc_lw_main.nd rfl (Or.inl rfl) (pe_ifExp (pt_cmpR op_eq (pe_call G_lw_draw (hr.mono (by decide)) (by rfl) T.m_lw_draw T.F_lw_draw.kp T.b_lw_draw .nil pass0 (pa_cons (pv 2) (pa_cons pe_int pa_nil))) pe_int (nomark _)) (pe_tup (pa_cons (pv 13) (pa_cons (pe_op op_sub pe_int (pe_callB call_abs (by rfl) T.n_abs (by decide +kernel) (pa_cons (pe_callTy call_int1 (by rfl) T.n_int (by decide +kernel) (pa_cons (pv 14) pa_nil)) pa_nil))) (pa_cons (pe_op op_sub pe_int (pe_callB call_abs (by rfl) T.n_abs (by decide +kernel) (pa_cons (pe_callTy call_int1 (by rfl) T.n_int (by decide +kernel) (pa_cons (pv 15) pa_nil)) pa_nil))) pa_nil)))) (pe_tup (pa_cons pe_str (pa_cons (pv 14) (pa_cons (pv 15) pa_nil))))))
      (pss_one (ps_if (pt_cmpR (op_neD hr.units) (pe_call G_lw_refused (hr.mono (by decide)) (by rfl) T.m_lw_refused T.F_lw_refused.kp T.b_lw_refused .nil pass0 (pa_cons pe_int (pa_cons (pe_op op_cat (pv 7) (pe_lst (pa_cons (pv 16) (pa_cons pe_non pa_nil)))) pa_nil))) (pe_callB (show CallR _ (.builtin "len") (G.rLen K) from call_len) (by rfl) T.n_len PySem.boot_len (pa_cons (pv 7) pa_nil)) (nomark _)) (pss_one (ps_ret pe_bl)) pss_nil)))) pss_nil))))))))))))))
      (pss_one (ps_ret pe_bl))), entR (n := 16) ex al rfl q ?_⟩
    walk_at "ent"
    walk_at "xs"
    have eqk : ∀ k : Int, PyData.eqv (py (.int k)) (py (.int k)) = true := fun k => PySem.SeqAt.eqv_refl _ (lay_int (n := 0)).1
    have shk : ∀ k : Int, SeqAt.shaped (py (.int k)) = true := fun k => (lay_int (n := 0)).shaped (by decide)
    have shn : SeqAt.shaped (py .non) = true := rfl
    refine xs_for (vs := [1]) (xi_rng1 ?_)
    walk_at "xs"
    refine ⟨fun i δ => ∃ s1 s2 s3 s4 s5 s6 s7 s8 s9 s10 s11 s12 s13 s14 s15 s16 : S, δ = [.d (.scr scr), s1, s2, s3, s4, s5, s6, s7, s8, s9, s10, s11, s12, s13, s14, s15, s16], ⟨_, _, _, _, _, _, _, _, _, _, _, _, _, _, _, _, rfl⟩, ?_, ?_⟩
    · rintro i d δ1 hi ⟨s1, s2, s3, s4, s5, s6, s7, s8, s9, s10, s11, s12, s13, s14, s15, s16, rfl⟩
      obtain ⟨hi', rfl⟩ := rng_at hi
      have hi3 : i < 2 := by
        refine Nat.lt_of_lt_of_le hi' ?_
        split
        · split <;> omega
        · omega
      refine xg_name (by decide) (by decide) ?_
      try dsimp only [List.set]
      refine xs_seq <| xs_setD (by decide) <| xr_call (fun _ => .nil) <| xa_cons <| xe_var rfl <| xa_cons <| xe_var rfl <| xa_nil ⟨scr, 0 + (i : Int), rfl, hl, by omega, by omega, fun qa y hy => ⟨qa, y.cs, y.n, rfl, by simp, ?_⟩⟩
      try dsimp only [List.set]
      refine xs_for (vs := [3]) <| xi_rng1 <| xe_int ⟨_, rfl, by decide, by decide, fun j δ => ∃ (y : Dl) (s3 s4 s5 s6 s7 s8 s9 s10 s11 s12 s13 s14 s15 s16 : S), δ = [.d (.scr scr), .d (.int (0 + i)), .deal qa y.cs y.n, s3, s4, s5, s6, s7, s8, s9, s10, s11, s12, s13, s14, s15, s16] ∧ DealD y, ⟨y, _, _, _, _, _, _, _, _, _, _, _, _, _, _, rfl, hy⟩, ?_, ?_⟩
      · clear hy y
        rintro j dj δ2 hj ⟨y, s3, s4, s5, s6, s7, s8, s9, s10, s11, s12, s13, s14, s15, s16, rfl, hy⟩
        refine xg_name (by decide) (by decide) ?_
        try dsimp only [List.set]
        refine xs_seq <| xs_set (by decide) <| xe_ofO <| xr_callD (i := 2) (fun _ => .nil) ⟨_, _, _, rfl⟩ <| xa_cons <| xe_I0 <| xe_int <| xr_callD (i := 2) (fun _ => .nil) ⟨_, _, _, rfl⟩ <| xa_cons <| xe_int <| xa_nil ⟨qa, y, rfl, 6, rfl, by decide, by decide, hy, fun c y1 c0 c6 hy1 => on_d ⟨_, _, rfl, rfl, xa_nil ⟨qa, y1, rfl, 2 + c, rfl, by omega, by omega, hy1, fun ns y2 nd np nl hy2 => on_o ⟨_, rfl, ?_⟩⟩⟩⟩
        try dsimp only [List.set]
        have n7 : ns.length ≤ 7 := by omega
        have n2 : 2 ≤ ns.length := by omega
        refine xs_seq <| xs_par (by decide) (by decide) <| xe_ofO <| xr_callD (i := 2) (fun _ => .nil) ⟨_, _, _, rfl⟩ <| xa_cons <| xe_var rfl <| xa_cons <| xe_int <| xa_nil ⟨qa, y2, rfl, ns, 9, rfl, n2, n7, nd, np, by decide, by decide, hy2, fun es y3 ein el hy3 => on_o ⟨_, rfl, xe_ofO <| xr_callD (i := 2) (fun _ => .nil) ⟨_, _, _, rfl⟩ <| xa_cons <| xe_var rfl <| xa_nil ⟨qa, y3, rfl, ns, rfl, n2, n7, nd, np, hy3, fun fs y4 fin' fl low hy4 => on_o ⟨_, rfl, ?_⟩⟩⟩⟩
        try dsimp only [List.set]
        refine xs_seq <| xs_set (by decide) <| xe_ofO <| xr_callD (i := 2) (fun _ => .nil) ⟨_, _, _, rfl⟩ <| xa_cons <| xe_int <| xa_cons <| xe_int <| xa_nil ⟨qa, y4, rfl, 6, 50, rfl, by decide, by decide, by decide, by decide, hy4, fun ps y5 pin pl6 hy5 => on_o ⟨_, rfl, ?_⟩⟩
        try dsimp only [List.set]
        have eok := edsOk ein np (by omega)
        have fok := edsOk fin' np (by omega)
        have ef := edsFew ein n7
        have ff := edsFew fin' n7
        have pl7 := pin.l
        have one : ∀ es : List Ed, EdsOk es → (es.map edD).length ≤ 1000 := fun es h => by rw [List.length_map]; have := h.l; omega
        refine xs_seq <| xs_mid (J := fun δ => δ = [.d (.scr scr), .d (.int (0 + i)), .deal qa y5.cs y5.n, .d dj, .d (.lst (ns.map .str)), .d (.lst (es.map edD)), .d (.lst (fs.map edD)), .d (.lst (ps.map ptD)), s8, s9, s10, s11, s12, s13, s14, s15, s16]) ?_ ?_
        · refine xs_if <| xt_test <| xe_neD <| xr_call (fun _ => .nil) <| xa_cons <| xe_int <| xa_cons <| xe_var rfl <| xa_nil ⟨0, _, rfl, by decide, seqK_eds (.inl rfl), fun sq => (nomatch sq), fun xs sq => ?_⟩
          cases sq
          refine ⟨fun _ => ⟨es, [], by simp, one es eok, eok, fun _ => ⟨ef, fun acy => on_d <| xr_call (fun _ => .nil) <| xa_cons <| xe_var rfl <| xa_nil ⟨es, rfl, eok, fun _ => on_d ⟨rfl, rfl, shn, shn, _, rfl, ?_⟩, fun i r _ => absurd r (acy_iff.mp acy i)⟩, fun i r nr => on_d <| xr_call (fun _ => .nil) <| xa_cons <| xe_var rfl <| xa_nil ⟨es, rfl, eok, fun acy => absurd r (acy_iff.mp acy i), fun i2 r2 nr2 => on_d ⟨rfl, rfl, shk _, shk _, _, rfl, ?_⟩⟩⟩, fun x rs e => nomatch e⟩, fun e => (nomatch e), fun e => (nomatch e)⟩
          · exact if_ff <| xs_next rfl
          · have : i2 = i := by
              rcases Nat.lt_trichotomy i2 i with c | c | c
              · exact absurd r2 (nr i2 c)
              · exact c
              · exact absurd r (nr2 i c)
            subst this
            rw [eqk]
            exact if_nt <| xs_next rfl
        rintro δ3 rfl
        refine xs_seq <| xs_if <| xt_test <| xe_notN <| xr_call (fun _ => .nil) <| xa_cons <| xe_int <| xa_cons <| xe_var rfl <| xa_nil ⟨1, _, rfl, by decide, seqK_eds (.inl rfl), fun sq => (nomatch sq), fun xs sq => ?_⟩
        cases sq
        refine ⟨fun e => (nomatch e), fun _ => ⟨es, [], by simp, one es eok, eok, fun _ => ⟨ef, on_d ⟨_, rfl, if_ff <| xs_next ?_⟩⟩, fun x rs e => nomatch e⟩, fun e => (nomatch e)⟩
        refine xs_seq <| xs_if <| xt_test <| xe_notN <| xr_call (fun _ => .nil) <| xa_cons <| xe_int <| xa_cons <| xe_var rfl <| xa_nil ⟨0, _, rfl, by decide, seqK_eds (.inl rfl), fun sq => (nomatch sq), fun xs sq => ?_⟩
        cases sq
        refine ⟨fun _ => ⟨fs, [], by simp, one fs fok, fok, fun _ => ⟨ff, fun _ => on_d ⟨_, rfl, if_ff <| xs_next ?_⟩, fun i r _ => absurd r (acy_iff.mp low.acy i)⟩, fun x rs e => nomatch e⟩, fun e => (nomatch e), fun e => (nomatch e)⟩
        refine xs_seq <| xs_if <| xt_test <| xe_notN <| xr_call (fun _ => .nil) <| xa_cons <| xe_int <| xa_cons <| xe_var rfl <| xa_nil ⟨2, _, rfl, by decide, seqK_ty (n := "list") rfl, fun sq => (nomatch sq), fun xs sq => ?_⟩
        cases sq
        refine ⟨fun e => (nomatch e), fun e => (nomatch e), fun _ => ⟨ps, [], by simp, by rw [List.length_map]; omega, pin.ok, fun _ => on_d ⟨_, rfl, if_ff <| xs_next ?_⟩, fun x rs e => nomatch e⟩⟩
        refine xs_seq <| xs_for (vs := [8, 9]) <| xi_tup <| xe_tup <| xa_cons <| xe_tup <| xa_cons <| xe_int <| xa_cons <| xe_var rfl <| xa_nil ⟨by simp, xa_cons <| xe_tup <| xa_cons <| xe_int <| xa_cons <| xe_var rfl <| xa_nil ⟨by simp, xa_cons <| xe_tup <| xa_cons <| xe_int <| xa_cons <| xe_var rfl <| xa_nil ⟨by simp, xa_nil ⟨by simp, _, rfl, ?_⟩⟩⟩⟩
        refine ⟨fun t δ => ∃ (y : Dl) (s8 s9 s10 s11 s12 : S), δ = [.d (.scr scr), .d (.int (0 + i)), .deal qa y.cs y.n, .d dj, .d (.lst (ns.map .str)), .d (.lst (es.map edD)), .d (.lst (fs.map edD)), .d (.lst (ps.map ptD)), s8, s9, s10, s11, s12, s13, s14, s15, s16] ∧ DealD y, ⟨y5, _, _, _, _, _, rfl, hy5⟩, ?_, ?_⟩
        · clear hy hy1 hy2 hy3 hy4 hy5 y y1 y2 y3 y4 y5
          rintro t dd δ3 ht ⟨y, s8, s9, s10, s11, s12, rfl, hy⟩
          obtain ⟨f, gs, rfl, f3, g⟩ : ∃ (f : Nat) (gs : List D), dd = .tup [.int f, .lst gs] ∧ f < 3 ∧ GoodV f gs := by
            have hm := List.mem_of_getElem? ht
            simp only [List.mem_cons, List.not_mem_nil, or_false] at hm
            rcases hm with rfl | rfl | rfl
            · exact ⟨0, _, rfl, by decide, .inl ⟨by decide, es, rfl, eok⟩⟩
            · exact ⟨1, _, rfl, by decide, .inl ⟨by decide, es, rfl, eok⟩⟩
            · exact ⟨2, _, rfl, by decide, .inr ⟨rfl, ps, rfl, pin.ok⟩⟩
          have gl := g.len
          refine xg_tup (xs := [.int f, .lst gs]) rfl <| xgs_cons <| xg_name (by decide) (by decide) <| xgs_cons <| xg_name (by decide) (by decide) <| xgs_nil ?_
          try dsimp only [List.set]
          refine xs_seq <| xs_par (by decide) (by decide) <| xr_callD (i := 2) (fun _ => .nil) ⟨_, _, _, rfl⟩ <| xa_cons <| xe_I0 <| xe_len <| xe_var rfl ⟨gs.length, by simp [lenD], xe_int ⟨_, _, rfl, rfl, xa_nil ⟨qa, y, rfl, _, rfl, by omega, by omega, hy, fun k y1 k0 k1 hy1 => on_d <| xr_callD (i := 2) (fun _ => .nil) ⟨_, _, _, rfl⟩ <| xa_cons <| xe_var rfl <| xa_nil ⟨qa, y1, rfl, f, rfl, f3, hy1, fun x y2 ox hy2 => on_d ?_⟩⟩⟩⟩
          try dsimp only [List.set]
          obtain ⟨kn, rfl⟩ : ∃ kn : Nat, k = kn := ⟨k.toNat, by omega⟩
          have kle : kn ≤ gs.length := by omega
          have ct : cut gs none (some (kn : Int)) = gs.take kn := by rw [cut_to (by omega), Int.toNat_natCast]
          have cf : cut gs (some (kn : Int)) none = gs.drop kn := by rw [cut_from (by omega) (by omega), Int.toNat_natCast]
          have tl : (gs.take kn).length ≤ 100 := by rw [List.length_take]; omega
          have dl : (gs.drop kn).length ≤ 100 := by rw [List.length_drop]; omega
          refine xs_seq <| xs_if <| xt_test <| xe_neD <| xr_call (fun _ => .nil) <| xa_cons <| xe_var rfl <| xa_cons <| xe_ofO <| xo_cat <| xe_ofO <| xo_cat <| xe_ofO <| xo_sl <| xe_var rfl <| xp_no <| xp_part <| xe_var rfl ⟨_, rfl, _, rfl, _, rfl, xe_lst <| xa_cons <| xe_var rfl <| xa_nil ⟨by simp, _, _, rfl, rfl, ?_, _, rfl, xe_ofO <| xo_sl <| xe_var rfl <| xp_part <| xe_var rfl ⟨_, rfl, xp_no ⟨_, rfl, _, rfl, _, _, rfl, rfl, ?_, _, rfl, xa_nil ⟨f, _, rfl, f3, seqK_ty (n := "list") rfl, fun sq => (nomatch sq), fun zs sq => ?_⟩⟩⟩⟩⟩
          · rw [ct]; simp; omega
          · rw [ct, cf]; simp; omega
          cases sq
          rw [ct, cf, List.append_assoc]
          refine ref_bad (tl := gs.drop kn) g kle ox (by omega) (on_d <| xe_var rfl ⟨rfl, rfl, shk _, shk _, _, rfl, ?_⟩)
          rw [eqk]
          refine if_nt <| xs_next ?_
          refine xs_seq <| xs_if <| xt_test <| xe_neD <| xr_call (fun _ => .nil) <| xa_cons <| xe_var rfl <| xa_cons <| xe_catA <| xe_tuple <| xe_ofO <| xo_sl <| xe_var rfl <| xp_no <| xp_part <| xe_var rfl ⟨_, rfl, _, rfl, _, rfl, _, .inl rfl, xe_tup <| xa_cons <| xe_var rfl <| xa_cons <| xe_non <| xa_nil ⟨by simp, _, _, rfl, rfl, ?_, xa_nil ⟨f, _, rfl, f3, seqK_ty (n := "tuple") rfl, fun sq => (nomatch sq), fun zs sq => ?_⟩⟩⟩
          · rw [ct]; simp; omega
          cases sq
          rw [ct]
          refine ref_bad (tl := [.non]) g kle ox (by simp) (on_d <| xe_var rfl ⟨rfl, rfl, shk _, shk _, _, rfl, ?_⟩)
          rw [eqk]
          refine if_nt <| xs_next ?_
          refine xs_for (vs := [12]) <| xi_tup <| xe_tup <| xa_cons <| xe_non <| xa_cons <| xe_str <| xa_cons <| xe_int <| xa_cons <| xe_bl <| xa_nil ⟨by simp, _, rfl, ?_⟩
          refine ⟨fun t δ => ∃ s12 : S, δ = [.d (.scr scr), .d (.int (0 + i)), .deal qa y2.cs y2.n, .d dj, .d (.lst (ns.map .str)), .d (.lst (es.map edD)), .d (.lst (fs.map edD)), .d (.lst (ps.map ptD)), .d (.int f), .d (.lst gs), .d (.int kn), .d x, s12, s13, s14, s15, s16], ⟨_, rfl⟩, ?_, ?_⟩
          · rintro t v δ4 hv ⟨s12, rfl⟩
            have kf : SeqK K a v ∧ seqOf v = none := by
              have hm := List.mem_of_getElem? hv
              simp only [List.mem_cons, List.not_mem_nil, or_false] at hm
              rcases hm with rfl | rfl | rfl | rfl
              · exact ⟨seqK_ty (n := "NoneType") rfl, rfl⟩
              · exact ⟨seqK_ty (n := "str") rfl, rfl⟩
              · exact ⟨seqK_ty (n := "int") rfl, rfl⟩
              · exact ⟨seqK_ty (n := "bool") rfl, rfl⟩
            refine xg_name (by decide) (by decide) ?_
            try dsimp only [List.set]
            refine xs_if <| xt_test <| xe_ne <| xe_repI <| xr_call (fun _ => .nil) <| xa_cons <| xe_var rfl <| xa_cons <| xe_var rfl <| xa_nil ⟨f, v, rfl, f3, kf.1, fun _ => on_d ⟨.inl ⟨0, rfl, by decide⟩, xe_str ⟨_, _, rfl, rfl, rfl, false, ?_, if_ff <| xs_next ⟨_, rfl⟩⟩⟩, fun xs sq => by rw [kf.2] at sq; cases sq⟩
            rw [show repD (D.int 0) = ("0" : Str) by decide +kernel, decide_eq_true rfl]; rfl
          · rintro δ4 ⟨s12, rfl⟩
            exact ⟨y2, _, _, _, _, _, rfl, hy2⟩
        · clear hy hy1 hy2 hy3 hy4 hy5 y y1 y2 y3 y4 y5
          rintro δ3 ⟨y, s8, s9, s10, s11, s12, rfl, hy⟩
          have ppl := pl_lst (xs := ps.map ptD) pin.pl
          refine xs_if <| xt_test <| xe_neD <| xe_var rfl <| xe_ofO <| xo_lst <| xa_nil ⟨by simp, _, rfl, ppl.1, rfl, ppl.2, (pl_lst (xs := []) (by simp)).2, _, rfl, ?_⟩
          rw [eqv_nil, List.isEmpty_map]
          cases e : ps.isEmpty with
          | true => exact if_ff <| xs_next ⟨y, _, _, _, _, _, _, _, _, _, _, _, _, _, _, rfl, hy⟩
          | false =>
          have p0 : 0 < ps.length := by
            rcases Nat.eq_zero_or_pos ps.length with z | z
            · rw [List.eq_nil_of_length_eq_zero z] at e; cases e
            · exact z
          refine if_tt <| xs_seq <| xs_asg (vs := [13, 14, 15]) <| xr_callD (i := 2) (fun _ => .nil) ⟨_, _, _, rfl⟩ <| xa_cons <| xe_var rfl <| xa_nil ⟨qa, y, rfl, ps.map ptD, _, rfl, .inl rfl, by rw [List.length_map]; exact p0, by rw [List.length_map]; omega, hy, fun x y1 hx hy1 => on_d ?_⟩
          obtain ⟨p, hp, rfl⟩ := List.mem_map.mp hx
          obtain ⟨⟨b1, b2⟩, b3, b4⟩ := pin.b p hp
          have pok := pin.ok.ok p hp
          refine xg_tup (xs := [.str p.1, .int p.2.1, .int p.2.2]) rfl <| xgs_cons <| xg_name (by decide) (by decide) <| xgs_cons <| xg_name (by decide) (by decide) <| xgs_cons <| xg_name (by decide) (by decide) <| xgs_nil ?_
          try dsimp only [List.set]
          refine xs_seq <| xs_set (by decide) <| joinE (α := Pt × Dl) (fun c => PtOk c.1 ∧ (c.1.1 ∈ ps.map (·.1) ∨ c.1.2 ∈ ps.map (·.2)) ∧ DealD c.2) (fun c => ptD c.1) (fun c => [.d (.scr scr), .d (.int (0 + i)), .deal qa c.2.cs c.2.n, .d dj, .d (.lst (ns.map .str)), .d (.lst (es.map edD)), .d (.lst (fs.map edD)), .d (.lst (ps.map ptD)), s8, s9, s10, s11, s12, .d (.str p.1), .d (.int p.2.1), .d (.int p.2.2), s16]) (fun go => ?_) ?_
          · refine xr_if <| xt_test <| xe_eq <| xr_callD (i := 2) (fun _ => .nil) ⟨_, _, _, rfl⟩ <| xa_cons <| xe_int <| xa_nil ⟨qa, y1, rfl, _, rfl, by omega, by omega, hy1, fun d y2 d0 d1 hy2 => on_d <| xe_int ⟨_, _, rfl, rfl, rfl, _, rfl, ite_b (fun h => ?_) (fun h => ?_)⟩⟩
            · refine xe_tup <| xa_cons <| xe_var rfl <| xa_cons <| xe_I0 <| xe_int <| xe_abs <| xe_callInt <| xe_var rfl ⟨_, rfl, _, rfl, _, _, rfl, rfl, xa_cons <| xe_I0 <| xe_int <| xe_abs <| xe_callInt <| xe_var rfl ⟨_, rfl, _, rfl, _, _, rfl, rfl, xa_nil ⟨by simp, ?_⟩⟩⟩
              refine go ((p.1, 49 - (if p.2.1 < 0 then -p.2.1 else p.2.1), 0 - (if p.2.2 < 0 then -p.2.2 else p.2.2)), y2) ⟨⟨pok.n, pok.s, ?_, ?_⟩, .inl (List.mem_map.mpr ⟨p, hp, rfl⟩), hy2⟩
              · unfold Sml; dsimp only; split <;> omega
              · unfold Sml; dsimp only; split <;> omega
            · exact xe_tup <| xa_cons <| xe_str <| xa_cons <| xe_var rfl <| xa_cons <| xe_var rfl <| xa_nil ⟨by simp, go (("zzz", p.2), y2) ⟨⟨zzz_ok.1, zzz_ok.2, pok.x, pok.y⟩, .inr (List.mem_map.mpr ⟨p, hp, rfl⟩), hy2⟩⟩
          rintro ⟨o, y3⟩ ⟨ook, dup, hy3⟩
          try dsimp only [List.set]
          refine xs_if <| xt_test <| xe_neD <| xr_call (fun _ => .nil) <| xa_cons <| xe_int <| xa_cons <| xe_ofO <| xo_cat <| xe_var rfl <| xe_lst <| xa_cons <| xe_var rfl <| xa_cons <| xe_non <| xa_nil ⟨by simp, _, _, rfl, rfl, by simp; omega, _, rfl, xa_nil ⟨2, _, rfl, by decide, seqK_ty (n := "list") rfl, fun sq => (nomatch sq), fun zs sq => ?_⟩⟩
          cases sq
          refine ⟨fun e => (nomatch e), fun e => (nomatch e), fun _ => ⟨ps, [ptD o, .non], rfl, by simp; omega, pin.ok, fun e => (nomatch e), fun x rs e => ?_⟩⟩
          cases e
          refine ⟨.inr ⟨o, rfl, ook, dup⟩, on_d <| xe_len <| xe_var rfl ⟨ps.length, by simp [lenD], rfl, rfl, shk _, shk _, _, rfl, ?_⟩⟩
          rw [eqk]
          exact if_nt <| xs_next ⟨y3, _, _, _, _, _, _, _, _, _, _, _, _, _, _, rfl, hy3⟩
      · rintro δ2 ⟨y, s3, s4, s5, s6, s7, s8, s9, s10, s11, s12, s13, s14, s15, s16, rfl, hy⟩
        exact ⟨_, _, _, _, _, _, _, _, _, _, _, _, _, _, _, _, rfl⟩
    · rintro δ1 ⟨s1, s2, s3, s4, s5, s6, s7, s8, s9, s10, s11, s12, s13, s14, s15, s16, rfl⟩
      exact xs_ret <| xe_bl fin
def spLaw (K : PySem.W.Frag) : Sp := fun vs H Q _ => ∃ (p : Addr) (ns : List Int), vs = [.ref p] ∧ SqL K H p (ns.map V.int) ∧ ns.length ≤ 63 ∧ ∀ H', Q (.bl true) H'
theorem law_of {k : Nat} (h : FnOk P w K mg base CX0 k a.f_lw_main a.fd_lw_main ["_law_script"] (spR (ZZ K a) F_law)) : FnOk P w K mg base CX0 k a.f_lw_main a.fd_lw_main ["_law_script"] (spLaw K) := by
  refine FnOk.imp h fun vs H Q E h => ?_
  obtain ⟨p, ns, rfl, hs, hl, q⟩ := h
  refine ⟨H, [.scr ns], fun s => s = .d (.bl true), Ex.rfl', AtL.one (At.scr hs), ⟨ns, rfl, hl, rfl⟩, fun M' H' v s hs _ _ _ _ r => ?_⟩
  subst hs
  cases (r : At (ZZ K a) M' v (.bl true))
  exact q H'
theorem ok_main (T : Txt K mg a) : FnOk P w K mg base CX0 10 a.f_lw_main a.fd_lw_main ["_law_script"] (spLaw K) := by
  have t := ok_draw (P := P) (w := w) (base := base) T
  have i1 := ok_is_name (P := P) (w := w) (base := base) T
  have i2 := ok_is_sequence (P := P) (w := w) (base := base) T
  have i3 := ok_are_names T i1 i2
  have sq := ok_is_seqR (P := P) (w := w) (base := base) T
  have l2 := ok_lot_of (P := P) (w := w) (base := base) T
  have lF := ok_lot_ofF (P := P) (w := w) (base := base) T
  have rn := ok_Rule_initN (ok_Rule_initX T i1 i3 l2)
  have ro := ok_Room_initF T i2 lF
  have rd := ok_read T (ok_read_rule T rn) ro
  have bo := ok_bits_of (P := P) (w := w) (base := base) T
  have nm := ok_names_of (P := P) (w := w) (base := base) T
  have un := ok_are_unlike T i3
  have le := ok_least (P := P) (w := w) (base := base) T (ok_ones T) (ok_has_one T)
  have kb := ok_kept_by T lF bo nm le rn ro
  have tu := ok_turn (P := P) (w := w) (base := base) T
  have ar := ok_around T (ok_between T tu (ok_opened T)) (ok_inside T tu)
  have to := ok_tuple_of (P := P) (w := w) (base := base) T
  have cp := ok_check_pointsX T sq (ok_is_point T i1 (ok_is_intB T) to)
  have pe := ok_peeledX T cp ar kb
  have jn := ok_are_joined (P := P) (w := w) (base := base) T
  have ce := ok_check_edgesX T sq to un
  have tx := ok_takenX T ce l2 (ok_unjoined T jn) kb
  have tr := ok_treeX T ce (ok_ring_at T jn) (ok_taken tx)
  have mi := ok_mixed T t
  have pi := ok_pick3 T t
  have na := ok_names3 T t
  exact law_of (ok_law T (ok_deal T) t pi na (ok_graph T t mi pi) (ok_forest T t mi pi) (ok_points T t na) (ok_odd T pi rd) (ok_ref42 T tr tx pe) (ok_closing T))
end
theorem all_mk {l : PySem.W.OpenLaw} {w : World} {K : PySem.W.Frag} {h : Heap} {mg : Str → Option Value} {fa : Addr} (X : K.In h) (G : h.Ns mainGlobals mg) (hfa : mg "law" = some (.ref fa))
    {C_Rule : Addr}
    {C_Room : Addr}
    {C_InvalidDrawing R0_InvalidDrawing : Addr} {nm_InvalidDrawing q_InvalidDrawing : Str} {N_InvalidDrawing : Addr} {bs_InvalidDrawing : List Value} {sn_InvalidDrawing : List Str} {sub_InvalidDrawing : List Value} {ab_InvalidDrawing : Bool} {col_InvalidDrawing : Option Bool} {dd_InvalidDrawing : Option Addr} {m0_InvalidDrawing m1_InvalidDrawing m2_InvalidDrawing m3_InvalidDrawing m5_InvalidDrawing : Option Value}
    {C_InvalidRule R0_InvalidRule : Addr} {nm_InvalidRule q_InvalidRule : Str} {N_InvalidRule : Addr} {bs_InvalidRule : List Value} {sn_InvalidRule : List Str} {sub_InvalidRule : List Value} {ab_InvalidRule : Bool} {col_InvalidRule : Option Bool} {dd_InvalidRule : Option Addr} {m0_InvalidRule m1_InvalidRule m2_InvalidRule m3_InvalidRule m5_InvalidRule : Option Value}
    {C_InvalidOrder : Addr}
    {C_LeaveError : Addr}
    {f_is_int : Addr} {od_is_int an_is_int : Option Addr} {sl_is_int : Array (Option Value)} {oc_is_int kV_is_int dc_is_int pm_is_int cd_is_int ct_is_int : Value}
    {f_is_index : Addr} {od_is_index an_is_index : Option Addr} {sl_is_index : Array (Option Value)} {oc_is_index kV_is_index dc_is_index pm_is_index cd_is_index ct_is_index : Value}
    {f_is_name : Addr} {od_is_name an_is_name : Option Addr} {sl_is_name : Array (Option Value)} {oc_is_name kV_is_name dc_is_name pm_is_name cd_is_name ct_is_name : Value}
    {f_is_sequence : Addr} {od_is_sequence an_is_sequence : Option Addr} {sl_is_sequence : Array (Option Value)} {oc_is_sequence kV_is_sequence dc_is_sequence pm_is_sequence cd_is_sequence ct_is_sequence : Value}
    {f_are_names : Addr} {od_are_names an_are_names : Option Addr} {sl_are_names : Array (Option Value)} {oc_are_names kV_are_names dc_are_names pm_are_names cd_are_names ct_are_names : Value}
    {f_are_unlike : Addr} {od_are_unlike an_are_unlike : Option Addr} {sl_are_unlike : Array (Option Value)} {oc_are_unlike kV_are_unlike dc_are_unlike pm_are_unlike cd_are_unlike ct_are_unlike : Value}
    {f_lot_of : Addr} {od_lot_of an_lot_of : Option Addr} {sl_lot_of : Array (Option Value)} {oc_lot_of kV_lot_of dc_lot_of pm_lot_of cd_lot_of ct_lot_of : Value}
    {f_bits_of : Addr} {od_bits_of an_bits_of : Option Addr} {sl_bits_of : Array (Option Value)} {oc_bits_of kV_bits_of dc_bits_of pm_bits_of cd_bits_of ct_bits_of : Value}
    {f_names_of : Addr} {od_names_of an_names_of : Option Addr} {sl_names_of : Array (Option Value)} {oc_names_of kV_names_of dc_names_of pm_names_of cd_names_of ct_names_of : Value}
    {f_InvalidRule_init : Addr} {od_InvalidRule_init an_InvalidRule_init : Option Addr} {sl_InvalidRule_init : Array (Option Value)} {oc_InvalidRule_init kV_InvalidRule_init dc_InvalidRule_init pm_InvalidRule_init cd_InvalidRule_init ct_InvalidRule_init : Value}
    {f_InvalidDrawing_init : Addr} {od_InvalidDrawing_init an_InvalidDrawing_init : Option Addr} {sl_InvalidDrawing_init : Array (Option Value)} {oc_InvalidDrawing_init kV_InvalidDrawing_init dc_InvalidDrawing_init pm_InvalidDrawing_init cd_InvalidDrawing_init ct_InvalidDrawing_init : Value}
    {f_Rule_init : Addr} {od_Rule_init an_Rule_init : Option Addr} {sl_Rule_init : Array (Option Value)} {oc_Rule_init kV_Rule_init dc_Rule_init pm_Rule_init cd_Rule_init ct_Rule_init : Value}
    {T_Rule_init e_Rule_init : Addr} {oT_Rule_init : Value} {dT_Rule_init dE_Rule_init : Option Addr} {nT_Rule_init nE_Rule_init : Nat} {sT_Rule_init sE_Rule_init : Array (Option Value)}
    {f_Rule_eq : Addr} {od_Rule_eq an_Rule_eq : Option Addr} {sl_Rule_eq : Array (Option Value)} {oc_Rule_eq kV_Rule_eq dc_Rule_eq pm_Rule_eq cd_Rule_eq ct_Rule_eq : Value}
    {f_Rule_str : Addr} {od_Rule_str an_Rule_str : Option Addr} {sl_Rule_str : Array (Option Value)} {oc_Rule_str kV_Rule_str dc_Rule_str pm_Rule_str cd_Rule_str ct_Rule_str : Value}
    {f_read_rule : Addr} {od_read_rule an_read_rule : Option Addr} {sl_read_rule : Array (Option Value)} {oc_read_rule kV_read_rule dc_read_rule pm_read_rule cd_read_rule ct_read_rule : Value}
    {f_Room_init : Addr} {od_Room_init an_Room_init : Option Addr} {sl_Room_init : Array (Option Value)} {oc_Room_init kV_Room_init dc_Room_init pm_Room_init cd_Room_init ct_Room_init : Value}
    {T_Room_init e_Room_init : Addr} {oT_Room_init : Value} {dT_Room_init dE_Room_init : Option Addr} {nT_Room_init nE_Room_init : Nat} {sT_Room_init sE_Room_init : Array (Option Value)}
    {f_Room_read : Addr} {od_Room_read an_Room_read : Option Addr} {sl_Room_read : Array (Option Value)} {oc_Room_read kV_Room_read dc_Room_read pm_Room_read cd_Room_read ct_Room_read : Value}
    {p_Room_read : Addr} {pr_Room_read : List Value}
    {f_Room_without : Addr} {od_Room_without an_Room_without : Option Addr} {sl_Room_without : Array (Option Value)} {oc_Room_without kV_Room_without dc_Room_without pm_Room_without cd_Room_without ct_Room_without : Value}
    {f_Room_len : Addr} {od_Room_len an_Room_len : Option Addr} {sl_Room_len : Array (Option Value)} {oc_Room_len kV_Room_len dc_Room_len pm_Room_len cd_Room_len ct_Room_len : Value}
    {f_Room_getitem : Addr} {od_Room_getitem an_Room_getitem : Option Addr} {sl_Room_getitem : Array (Option Value)} {oc_Room_getitem kV_Room_getitem dc_Room_getitem pm_Room_getitem cd_Room_getitem ct_Room_getitem : Value}
    {f_Room_add : Addr} {od_Room_add an_Room_add : Option Addr} {sl_Room_add : Array (Option Value)} {oc_Room_add kV_Room_add dc_Room_add pm_Room_add cd_Room_add ct_Room_add : Value}
    {f_Room_eq : Addr} {od_Room_eq an_Room_eq : Option Addr} {sl_Room_eq : Array (Option Value)} {oc_Room_eq kV_Room_eq dc_Room_eq pm_Room_eq cd_Room_eq ct_Room_eq : Value}
    {f_Room_str : Addr} {od_Room_str an_Room_str : Option Addr} {sl_Room_str : Array (Option Value)} {oc_Room_str kV_Room_str dc_Room_str pm_Room_str cd_Room_str ct_Room_str : Value}
    {f_least_meeting : Addr} {od_least_meeting an_least_meeting : Option Addr} {sl_least_meeting : Array (Option Value)} {oc_least_meeting kV_least_meeting dc_least_meeting pm_least_meeting cd_least_meeting ct_least_meeting : Value}
    {f_ones_of : Addr} {od_ones_of an_ones_of : Option Addr} {sl_ones_of : Array (Option Value)} {oc_ones_of kV_ones_of dc_ones_of pm_ones_of cd_ones_of ct_ones_of : Value}
    {f_has_one_of : Addr} {od_has_one_of an_has_one_of : Option Addr} {sl_has_one_of : Array (Option Value)} {oc_has_one_of kV_has_one_of dc_has_one_of pm_has_one_of cd_has_one_of ct_has_one_of : Value}
    {f_tree : Addr} {od_tree an_tree : Option Addr} {sl_tree : Array (Option Value)} {oc_tree kV_tree dc_tree pm_tree cd_tree ct_tree : Value}
    {f_taken_down : Addr} {od_taken_down an_taken_down : Option Addr} {sl_taken_down : Array (Option Value)} {oc_taken_down kV_taken_down dc_taken_down pm_taken_down cd_taken_down ct_taken_down : Value}
    {f_check_edges : Addr} {od_check_edges an_check_edges : Option Addr} {sl_check_edges : Array (Option Value)} {oc_check_edges kV_check_edges dc_check_edges pm_check_edges cd_check_edges ct_check_edges : Value}
    {f_is_tuple_of : Addr} {od_is_tuple_of an_is_tuple_of : Option Addr} {sl_is_tuple_of : Array (Option Value)} {oc_is_tuple_of kV_is_tuple_of dc_is_tuple_of pm_is_tuple_of cd_is_tuple_of ct_is_tuple_of : Value}
    {f_ring_at : Addr} {od_ring_at an_ring_at : Option Addr} {sl_ring_at : Array (Option Value)} {oc_ring_at kV_ring_at dc_ring_at pm_ring_at cd_ring_at ct_ring_at : Value}
    {f_are_joined : Addr} {od_are_joined an_are_joined : Option Addr} {sl_are_joined : Array (Option Value)} {oc_are_joined kV_are_joined dc_are_joined pm_are_joined cd_are_joined ct_are_joined : Value}
    {f_unjoined_beside : Addr} {od_unjoined_beside an_unjoined_beside : Option Addr} {sl_unjoined_beside : Array (Option Value)} {oc_unjoined_beside kV_unjoined_beside dc_unjoined_beside pm_unjoined_beside cd_unjoined_beside ct_unjoined_beside : Value}
    {f_room_kept_by : Addr} {od_room_kept_by an_room_kept_by : Option Addr} {sl_room_kept_by : Array (Option Value)} {oc_room_kept_by kV_room_kept_by dc_room_kept_by pm_room_kept_by cd_room_kept_by ct_room_kept_by : Value}
    {f_peeled : Addr} {od_peeled an_peeled : Option Addr} {sl_peeled : Array (Option Value)} {oc_peeled kV_peeled dc_peeled pm_peeled cd_peeled ct_peeled : Value}
    {f_check_points : Addr} {od_check_points an_check_points : Option Addr} {sl_check_points : Array (Option Value)} {oc_check_points kV_check_points dc_check_points pm_check_points cd_check_points ct_check_points : Value}
    {f_is_point : Addr} {od_is_point an_is_point : Option Addr} {sl_is_point : Array (Option Value)} {oc_is_point kV_is_point dc_is_point pm_is_point cd_is_point ct_is_point : Value}
    {f_around : Addr} {od_around an_around : Option Addr} {sl_around : Array (Option Value)} {oc_around kV_around dc_around pm_around cd_around ct_around : Value}
    {f_is_between : Addr} {od_is_between an_is_between : Option Addr} {sl_is_between : Array (Option Value)} {oc_is_between kV_is_between dc_is_between pm_is_between cd_is_between ct_is_between : Value}
    {f_is_inside : Addr} {od_is_inside an_is_inside : Option Addr} {sl_is_inside : Array (Option Value)} {oc_is_inside kV_is_inside dc_is_inside pm_is_inside cd_is_inside ct_is_inside : Value}
    {f_turn : Addr} {od_turn an_turn : Option Addr} {sl_turn : Array (Option Value)} {oc_turn kV_turn dc_turn pm_turn cd_turn ct_turn : Value}
    {f_opened : Addr} {od_opened an_opened : Option Addr} {sl_opened : Array (Option Value)} {oc_opened kV_opened dc_opened pm_opened cd_opened ct_opened : Value}
    {f_lw_graph : Addr} {od_lw_graph an_lw_graph : Option Addr} {sl_lw_graph : Array (Option Value)} {oc_lw_graph kV_lw_graph dc_lw_graph pm_lw_graph cd_lw_graph ct_lw_graph : Value}
    {f_lw_forest : Addr} {od_lw_forest an_lw_forest : Option Addr} {sl_lw_forest : Array (Option Value)} {oc_lw_forest kV_lw_forest dc_lw_forest pm_lw_forest cd_lw_forest ct_lw_forest : Value}
    {f_lw_points : Addr} {od_lw_points an_lw_points : Option Addr} {sl_lw_points : Array (Option Value)} {oc_lw_points kV_lw_points dc_lw_points pm_lw_points cd_lw_points ct_lw_points : Value}
    {f_lw_refused : Addr} {od_lw_refused an_lw_refused : Option Addr} {sl_lw_refused : Array (Option Value)} {oc_lw_refused kV_lw_refused dc_lw_refused pm_lw_refused cd_lw_refused ct_lw_refused : Value}
    {f_lw_closing : Addr} {od_lw_closing an_lw_closing : Option Addr} {sl_lw_closing : Array (Option Value)} {oc_lw_closing kV_lw_closing dc_lw_closing pm_lw_closing cd_lw_closing ct_lw_closing : Value}
    {f_lw_odd : Addr} {od_lw_odd an_lw_odd : Option Addr} {sl_lw_odd : Array (Option Value)} {oc_lw_odd kV_lw_odd dc_lw_odd pm_lw_odd cd_lw_odd ct_lw_odd : Value}
    {f_lw_deal : Addr} {od_lw_deal an_lw_deal : Option Addr} {sl_lw_deal : Array (Option Value)} {oc_lw_deal kV_lw_deal dc_lw_deal pm_lw_deal cd_lw_deal ct_lw_deal : Value}
    {f_lw_draw : Addr} {od_lw_draw an_lw_draw : Option Addr} {sl_lw_draw : Array (Option Value)} {oc_lw_draw kV_lw_draw dc_lw_draw pm_lw_draw cd_lw_draw ct_lw_draw : Value}
    {f_lw_pick : Addr} {od_lw_pick an_lw_pick : Option Addr} {sl_lw_pick : Array (Option Value)} {oc_lw_pick kV_lw_pick dc_lw_pick pm_lw_pick cd_lw_pick ct_lw_pick : Value}
    {f_lw_mixed : Addr} {od_lw_mixed an_lw_mixed : Option Addr} {sl_lw_mixed : Array (Option Value)} {oc_lw_mixed kV_lw_mixed dc_lw_mixed pm_lw_mixed cd_lw_mixed ct_lw_mixed : Value}
    {f_lw_names : Addr} {od_lw_names an_lw_names : Option Addr} {sl_lw_names : Array (Option Value)} {oc_lw_names kV_lw_names dc_lw_names pm_lw_names cd_lw_names ct_lw_names : Value}
    {f_lw_main : Addr} {od_lw_main an_lw_main : Option Addr} {sl_lw_main : Array (Option Value)} {oc_lw_main kV_lw_main dc_lw_main pm_lw_main cd_lw_main ct_lw_main : Value}
    {tk_LETTERS : Tok}
    (aC_Rule : PySem.W.nsIn K mainGlobals "Rule" = some (some (.ref C_Rule)))
    (pg_Rule : PySem.W.plainGet K C_Rule Str.empty = true)
    (hd_Rule : PySem.W.hasDictIn K C_Rule = true)
    (po_Rule : PySem.W.plainOver K C_Rule = true)
    (sa_Rule : PySem.W.findIn K (.ref C_Rule) "__setattr__" = some (some (.builtin "object.__setattr__")))
    (mk_Rule : PySem.W.makesIn K C_Rule = true)
    (kc_Rule : PySem.W.keepIn K (.ref C_Rule) = true)
    (no_Rule_name : PySem.W.findIn K (.ref C_Rule) "name" = some none)
    (no_Rule_gone : PySem.W.findIn K (.ref C_Rule) "gone" = some none)
    (ha_Rule : PySem.W.findIn K (.ref C_Rule) "__class__" = some (some (.builtin "object.__class__")))
    (hn_Rule : PySem.W.specialIn K (.builtin "object.__class__") "__get__" = some (some (.builtin "getset_descriptor.__get__")))
    (htk_Rule : PySem.W.takesIn K (.builtin "object.__class__") = some true)
    (hm_Rule : PySem.W.mroIn K C_Rule (.type "object") = some true)
    (nd_Rule : PySem.W.findIn K (.ref C_Rule) "__ne__" = some (some (.builtin "object.__ne__")))
    (sx_Rule : PySem.W.subIn K (.type "str") (.ref C_Rule) = some false)
    (aC_Room : PySem.W.nsIn K mainGlobals "Room" = some (some (.ref C_Room)))
    (pg_Room : PySem.W.plainGet K C_Room Str.empty = true)
    (hd_Room : PySem.W.hasDictIn K C_Room = true)
    (po_Room : PySem.W.plainOver K C_Room = true)
    (sa_Room : PySem.W.findIn K (.ref C_Room) "__setattr__" = some (some (.builtin "object.__setattr__")))
    (mk_Room : PySem.W.makesIn K C_Room = true)
    (kc_Room : PySem.W.keepIn K (.ref C_Room) = true)
    (no_Room_rules : PySem.W.findIn K (.ref C_Room) "rules" = some none)
    (no_Room_names : PySem.W.findIn K (.ref C_Room) "names" = some none)
    (ha_Room : PySem.W.findIn K (.ref C_Room) "__class__" = some (some (.builtin "object.__class__")))
    (hn_Room : PySem.W.specialIn K (.builtin "object.__class__") "__get__" = some (some (.builtin "getset_descriptor.__get__")))
    (htk_Room : PySem.W.takesIn K (.builtin "object.__class__") = some true)
    (hm_Room : PySem.W.mroIn K C_Room (.type "object") = some true)
    (aC_InvalidDrawing : PySem.W.nsIn K mainGlobals "InvalidDrawing" = some (some (.ref C_InvalidDrawing)))
    (xL_InvalidDrawing : K.lookup C_InvalidDrawing = some (excClassObj nm_InvalidDrawing q_InvalidDrawing C_InvalidDrawing N_InvalidDrawing bs_InvalidDrawing [.ref R0_InvalidDrawing, .type "ValueError", .type "Exception", .type "BaseException", .type "object"] true sn_InvalidDrawing sub_InvalidDrawing ab_InvalidDrawing col_InvalidDrawing dd_InvalidDrawing m0_InvalidDrawing m1_InvalidDrawing m2_InvalidDrawing m3_InvalidDrawing m5_InvalidDrawing "ValueError.__new__"))
    (aC_InvalidRule : PySem.W.nsIn K mainGlobals "InvalidRule" = some (some (.ref C_InvalidRule)))
    (xL_InvalidRule : K.lookup C_InvalidRule = some (excClassObj nm_InvalidRule q_InvalidRule C_InvalidRule N_InvalidRule bs_InvalidRule [.ref R0_InvalidRule, .type "ValueError", .type "Exception", .type "BaseException", .type "object"] true sn_InvalidRule sub_InvalidRule ab_InvalidRule col_InvalidRule dd_InvalidRule m0_InvalidRule m1_InvalidRule m2_InvalidRule m3_InvalidRule m5_InvalidRule "ValueError.__new__"))
    (aC_InvalidOrder : PySem.W.nsIn K mainGlobals "InvalidOrder" = some (some (.ref C_InvalidOrder)))
    (aC_LeaveError : PySem.W.nsIn K mainGlobals "LeaveError" = some (some (.ref C_LeaveError)))
    (su_InvalidDrawing_InvalidOrder : PySem.W.subIn K (.ref C_InvalidDrawing) (.ref C_InvalidOrder) = some false)
    (su_InvalidDrawing_LeaveError : PySem.W.subIn K (.ref C_InvalidDrawing) (.ref C_LeaveError) = some true)
    (sb_NoneType_Room : PySem.W.subIn K (.type "NoneType") (.ref C_Room) = some false)
    (sb_bool_Room : PySem.W.subIn K (.type "bool") (.ref C_Room) = some false)
    (sb_int_Room : PySem.W.subIn K (.type "int") (.ref C_Room) = some false)
    (sb_str_Room : PySem.W.subIn K (.type "str") (.ref C_Room) = some false)
    (sb_list_Room : PySem.W.subIn K (.type "list") (.ref C_Room) = some false)
    (sb_tuple_Room : PySem.W.subIn K (.type "tuple") (.ref C_Room) = some false)
    (so_Rule_Room : PySem.W.subIn K (.ref C_Rule) (.ref C_Room) = some false)
    (so_Room_Room : PySem.W.subIn K (.ref C_Room) (.ref C_Room) = some true)
    (sb_NoneType_Rule : PySem.W.subIn K (.type "NoneType") (.ref C_Rule) = some false)
    (sb_bool_Rule : PySem.W.subIn K (.type "bool") (.ref C_Rule) = some false)
    (sb_int_Rule : PySem.W.subIn K (.type "int") (.ref C_Rule) = some false)
    (sb_str_Rule : PySem.W.subIn K (.type "str") (.ref C_Rule) = some false)
    (sb_list_Rule : PySem.W.subIn K (.type "list") (.ref C_Rule) = some false)
    (sb_tuple_Rule : PySem.W.subIn K (.type "tuple") (.ref C_Rule) = some false)
    (so_Rule_Rule : PySem.W.subIn K (.ref C_Rule) (.ref C_Rule) = some true)
    (so_Room_Rule : PySem.W.subIn K (.ref C_Room) (.ref C_Rule) = some false)
    (sl_Rule_list : PySem.W.subIn K (.ref C_Rule) (.type "list") = some false)
    (sl_Rule_tuple : PySem.W.subIn K (.ref C_Rule) (.type "tuple") = some false)
    (sl_Room_list : PySem.W.subIn K (.ref C_Room) (.type "list") = some false)
    (sl_Room_tuple : PySem.W.subIn K (.ref C_Room) (.type "tuple") = some false)
    (iL_InvalidOrder : PySem.W.isClsIn K C_InvalidOrder = true)
    (tL_InvalidOrder : PySem.W.typeIn K (.ref C_InvalidOrder) = some (.type "type"))
    (iL_LeaveError : PySem.W.isClsIn K C_LeaveError = true)
    (tL_LeaveError : PySem.W.typeIn K (.ref C_LeaveError) = some (.type "type"))
    (iL_Room : PySem.W.isClsIn K C_Room = true)
    (tL_Room : PySem.W.typeIn K (.ref C_Room) = some (.type "type"))
    (iL_Rule : PySem.W.isClsIn K C_Rule = true)
    (tL_Rule : PySem.W.typeIn K (.ref C_Rule) = some (.type "type"))
    (a_is_int : PySem.W.nsIn K mainGlobals "is_int" = some (some (.ref f_is_int)))
    (l_is_int : K.lookup f_is_int = some ⟨oc_is_int, od_is_int, .func (PySem.W.fnOf "is_int" "is_int" (defArgs s_is_int) (defBody s_is_int) (defScope s_is_int) .none kV_is_int dc_is_int pm_is_int an_is_int cd_is_int ct_is_int), sl_is_int⟩)
    (c_is_int : PySem.W.codeIn K cd_is_int "is_int" = true)
    (k_is_int : PySem.W.keepIn K (.ref f_is_int) = true)
    (a_is_index : PySem.W.nsIn K mainGlobals "is_index" = some (some (.ref f_is_index)))
    (l_is_index : K.lookup f_is_index = some ⟨oc_is_index, od_is_index, .func (PySem.W.fnOf "is_index" "is_index" (defArgs s_is_index) (defBody s_is_index) (defScope s_is_index) .none kV_is_index dc_is_index pm_is_index an_is_index cd_is_index ct_is_index), sl_is_index⟩)
    (c_is_index : PySem.W.codeIn K cd_is_index "is_index" = true)
    (k_is_index : PySem.W.keepIn K (.ref f_is_index) = true)
    (a_is_name : PySem.W.nsIn K mainGlobals "is_name" = some (some (.ref f_is_name)))
    (l_is_name : K.lookup f_is_name = some ⟨oc_is_name, od_is_name, .func (PySem.W.fnOf "is_name" "is_name" (defArgs s_is_name) (defBody s_is_name) (defScope s_is_name) .none kV_is_name dc_is_name pm_is_name an_is_name cd_is_name ct_is_name), sl_is_name⟩)
    (c_is_name : PySem.W.codeIn K cd_is_name "is_name" = true)
    (k_is_name : PySem.W.keepIn K (.ref f_is_name) = true)
    (a_is_sequence : PySem.W.nsIn K mainGlobals "is_sequence" = some (some (.ref f_is_sequence)))
    (l_is_sequence : K.lookup f_is_sequence = some ⟨oc_is_sequence, od_is_sequence, .func (PySem.W.fnOf "is_sequence" "is_sequence" (defArgs s_is_sequence) (defBody s_is_sequence) (defScope s_is_sequence) .none kV_is_sequence dc_is_sequence pm_is_sequence an_is_sequence cd_is_sequence ct_is_sequence), sl_is_sequence⟩)
    (c_is_sequence : PySem.W.codeIn K cd_is_sequence "is_sequence" = true)
    (k_is_sequence : PySem.W.keepIn K (.ref f_is_sequence) = true)
    (a_are_names : PySem.W.nsIn K mainGlobals "are_names" = some (some (.ref f_are_names)))
    (l_are_names : K.lookup f_are_names = some ⟨oc_are_names, od_are_names, .func (PySem.W.fnOf "are_names" "are_names" (defArgs s_are_names) (defBody s_are_names) (defScope s_are_names) .none kV_are_names dc_are_names pm_are_names an_are_names cd_are_names ct_are_names), sl_are_names⟩)
    (c_are_names : PySem.W.codeIn K cd_are_names "are_names" = true)
    (k_are_names : PySem.W.keepIn K (.ref f_are_names) = true)
    (a_are_unlike : PySem.W.nsIn K mainGlobals "are_unlike" = some (some (.ref f_are_unlike)))
    (l_are_unlike : K.lookup f_are_unlike = some ⟨oc_are_unlike, od_are_unlike, .func (PySem.W.fnOf "are_unlike" "are_unlike" (defArgs s_are_unlike) (defBody s_are_unlike) (defScope s_are_unlike) .none kV_are_unlike dc_are_unlike pm_are_unlike an_are_unlike cd_are_unlike ct_are_unlike), sl_are_unlike⟩)
    (c_are_unlike : PySem.W.codeIn K cd_are_unlike "are_unlike" = true)
    (k_are_unlike : PySem.W.keepIn K (.ref f_are_unlike) = true)
    (a_lot_of : PySem.W.nsIn K mainGlobals "lot_of" = some (some (.ref f_lot_of)))
    (l_lot_of : K.lookup f_lot_of = some ⟨oc_lot_of, od_lot_of, .func (PySem.W.fnOf "lot_of" "lot_of" (defArgs s_lot_of) (defBody s_lot_of) (defScope s_lot_of) .none kV_lot_of dc_lot_of pm_lot_of an_lot_of cd_lot_of ct_lot_of), sl_lot_of⟩)
    (c_lot_of : PySem.W.codeIn K cd_lot_of "lot_of" = true)
    (k_lot_of : PySem.W.keepIn K (.ref f_lot_of) = true)
    (a_bits_of : PySem.W.nsIn K mainGlobals "bits_of" = some (some (.ref f_bits_of)))
    (l_bits_of : K.lookup f_bits_of = some ⟨oc_bits_of, od_bits_of, .func (PySem.W.fnOf "bits_of" "bits_of" (defArgs s_bits_of) (defBody s_bits_of) (defScope s_bits_of) .none kV_bits_of dc_bits_of pm_bits_of an_bits_of cd_bits_of ct_bits_of), sl_bits_of⟩)
    (c_bits_of : PySem.W.codeIn K cd_bits_of "bits_of" = true)
    (k_bits_of : PySem.W.keepIn K (.ref f_bits_of) = true)
    (a_names_of : PySem.W.nsIn K mainGlobals "names_of" = some (some (.ref f_names_of)))
    (l_names_of : K.lookup f_names_of = some ⟨oc_names_of, od_names_of, .func (PySem.W.fnOf "names_of" "names_of" (defArgs s_names_of) (defBody s_names_of) (defScope s_names_of) .none kV_names_of dc_names_of pm_names_of an_names_of cd_names_of ct_names_of), sl_names_of⟩)
    (c_names_of : PySem.W.codeIn K cd_names_of "names_of" = true)
    (k_names_of : PySem.W.keepIn K (.ref f_names_of) = true)
    (a_InvalidRule_init : PySem.W.findIn K (.ref C_InvalidRule) "__init__" = some (some (.ref f_InvalidRule_init)))
    (l_InvalidRule_init : K.lookup f_InvalidRule_init = some ⟨oc_InvalidRule_init, od_InvalidRule_init, .func (PySem.W.fnOf "__init__" "InvalidRule.__init__" (defArgs s_InvalidRule_init) (defBody s_InvalidRule_init) (defScope s_InvalidRule_init) .none kV_InvalidRule_init dc_InvalidRule_init pm_InvalidRule_init an_InvalidRule_init cd_InvalidRule_init ct_InvalidRule_init), sl_InvalidRule_init⟩)
    (c_InvalidRule_init : PySem.W.codeIn K cd_InvalidRule_init "InvalidRule.__init__" = true)
    (k_InvalidRule_init : PySem.W.keepIn K (.ref f_InvalidRule_init) = true)
    (a_InvalidDrawing_init : PySem.W.findIn K (.ref C_InvalidDrawing) "__init__" = some (some (.ref f_InvalidDrawing_init)))
    (l_InvalidDrawing_init : K.lookup f_InvalidDrawing_init = some ⟨oc_InvalidDrawing_init, od_InvalidDrawing_init, .func (PySem.W.fnOf "__init__" "InvalidDrawing.__init__" (defArgs s_InvalidDrawing_init) (defBody s_InvalidDrawing_init) (defScope s_InvalidDrawing_init) .none kV_InvalidDrawing_init dc_InvalidDrawing_init pm_InvalidDrawing_init an_InvalidDrawing_init cd_InvalidDrawing_init ct_InvalidDrawing_init), sl_InvalidDrawing_init⟩)
    (c_InvalidDrawing_init : PySem.W.codeIn K cd_InvalidDrawing_init "InvalidDrawing.__init__" = true)
    (k_InvalidDrawing_init : PySem.W.keepIn K (.ref f_InvalidDrawing_init) = true)
    (a_Rule_init : PySem.W.findIn K (.ref C_Rule) "__init__" = some (some (.ref f_Rule_init)))
    (i_Rule_init : PySem.W.isFn K (.ref f_Rule_init) = true)
    (l_Rule_init : K.lookup f_Rule_init = some ⟨oc_Rule_init, od_Rule_init, .func (PySem.W.fnOf "__init__" "Rule.__init__" (defArgs s_Rule_init) (defBody s_Rule_init) (defScope s_Rule_init) (.ref T_Rule_init) kV_Rule_init dc_Rule_init pm_Rule_init an_Rule_init cd_Rule_init ct_Rule_init), sl_Rule_init⟩)
    (lT_Rule_init : K.lookup T_Rule_init = some ⟨oT_Rule_init, dT_Rule_init, .seq #[.ref e_Rule_init] nT_Rule_init, sT_Rule_init⟩)
    (lE_Rule_init : K.lookup e_Rule_init = some ⟨.type "tuple", dE_Rule_init, .seq #[] nE_Rule_init, sE_Rule_init⟩)
    (c_Rule_init : PySem.W.codeIn K cd_Rule_init "Rule.__init__" = true)
    (k_Rule_init : PySem.W.keepIn K (.ref f_Rule_init) = true)
    (a_Rule_eq : PySem.W.findIn K (.ref C_Rule) "__eq__" = some (some (.ref f_Rule_eq)))
    (i_Rule_eq : PySem.W.isFn K (.ref f_Rule_eq) = true)
    (l_Rule_eq : K.lookup f_Rule_eq = some ⟨oc_Rule_eq, od_Rule_eq, .func (PySem.W.fnOf "__eq__" "Rule.__eq__" (defArgs s_Rule_eq) (defBody s_Rule_eq) (defScope s_Rule_eq) .none kV_Rule_eq dc_Rule_eq pm_Rule_eq an_Rule_eq cd_Rule_eq ct_Rule_eq), sl_Rule_eq⟩)
    (c_Rule_eq : PySem.W.codeIn K cd_Rule_eq "Rule.__eq__" = true)
    (k_Rule_eq : PySem.W.keepIn K (.ref f_Rule_eq) = true)
    (a_Rule_str : PySem.W.findIn K (.ref C_Rule) "__str__" = some (some (.ref f_Rule_str)))
    (i_Rule_str : PySem.W.isFn K (.ref f_Rule_str) = true)
    (l_Rule_str : K.lookup f_Rule_str = some ⟨oc_Rule_str, od_Rule_str, .func (PySem.W.fnOf "__str__" "Rule.__str__" (defArgs s_Rule_str) (defBody s_Rule_str) (defScope s_Rule_str) .none kV_Rule_str dc_Rule_str pm_Rule_str an_Rule_str cd_Rule_str ct_Rule_str), sl_Rule_str⟩)
    (c_Rule_str : PySem.W.codeIn K cd_Rule_str "Rule.__str__" = true)
    (k_Rule_str : PySem.W.keepIn K (.ref f_Rule_str) = true)
    (a_read_rule : PySem.W.nsIn K mainGlobals "read_rule" = some (some (.ref f_read_rule)))
    (l_read_rule : K.lookup f_read_rule = some ⟨oc_read_rule, od_read_rule, .func (PySem.W.fnOf "read_rule" "read_rule" (defArgs s_read_rule) (defBody s_read_rule) (defScope s_read_rule) .none kV_read_rule dc_read_rule pm_read_rule an_read_rule cd_read_rule ct_read_rule), sl_read_rule⟩)
    (c_read_rule : PySem.W.codeIn K cd_read_rule "read_rule" = true)
    (k_read_rule : PySem.W.keepIn K (.ref f_read_rule) = true)
    (a_Room_init : PySem.W.findIn K (.ref C_Room) "__init__" = some (some (.ref f_Room_init)))
    (i_Room_init : PySem.W.isFn K (.ref f_Room_init) = true)
    (l_Room_init : K.lookup f_Room_init = some ⟨oc_Room_init, od_Room_init, .func (PySem.W.fnOf "__init__" "Room.__init__" (defArgs s_Room_init) (defBody s_Room_init) (defScope s_Room_init) (.ref T_Room_init) kV_Room_init dc_Room_init pm_Room_init an_Room_init cd_Room_init ct_Room_init), sl_Room_init⟩)
    (lT_Room_init : K.lookup T_Room_init = some ⟨oT_Room_init, dT_Room_init, .seq #[.ref e_Room_init] nT_Room_init, sT_Room_init⟩)
    (lE_Room_init : K.lookup e_Room_init = some ⟨.type "tuple", dE_Room_init, .seq #[] nE_Room_init, sE_Room_init⟩)
    (c_Room_init : PySem.W.codeIn K cd_Room_init "Room.__init__" = true)
    (k_Room_init : PySem.W.keepIn K (.ref f_Room_init) = true)
    (cmf_Room_read : PySem.W.findCls K (.ref C_Room) (.type "type") "read" = some (.get (.builtin "classmethod.__get__") (.ref p_Room_read) .none (.ref C_Room)))
    (cmr_Room_read : PySem.W.recIn K p_Room_read "classmethod" = some (.ref f_Room_read :: pr_Room_read))
    (cmi_Room_read : PySem.W.fnIn K f_Room_read = true)
    (crd_Room : PySem.W.readsIn K C_Room (.type "type") = true)
    (cga_Room : PySem.W.specialIn K (.ref C_Room) "__getattribute__" = some (some (.builtin "type.__getattribute__")))
    (l_Room_read : K.lookup f_Room_read = some ⟨oc_Room_read, od_Room_read, .func (PySem.W.fnOf "read" "Room.read" (defArgs s_Room_read) (defBody s_Room_read) (defScope s_Room_read) .none kV_Room_read dc_Room_read pm_Room_read an_Room_read cd_Room_read ct_Room_read), sl_Room_read⟩)
    (c_Room_read : PySem.W.codeIn K cd_Room_read "Room.read" = true)
    (k_Room_read : PySem.W.keepIn K (.ref f_Room_read) = true)
    (a_Room_without : PySem.W.findIn K (.ref C_Room) "without" = some (some (.ref f_Room_without)))
    (i_Room_without : PySem.W.isFn K (.ref f_Room_without) = true)
    (l_Room_without : K.lookup f_Room_without = some ⟨oc_Room_without, od_Room_without, .func (PySem.W.fnOf "without" "Room.without" (defArgs s_Room_without) (defBody s_Room_without) (defScope s_Room_without) .none kV_Room_without dc_Room_without pm_Room_without an_Room_without cd_Room_without ct_Room_without), sl_Room_without⟩)
    (c_Room_without : PySem.W.codeIn K cd_Room_without "Room.without" = true)
    (k_Room_without : PySem.W.keepIn K (.ref f_Room_without) = true)
    (a_Room_len : PySem.W.findIn K (.ref C_Room) "__len__" = some (some (.ref f_Room_len)))
    (i_Room_len : PySem.W.isFn K (.ref f_Room_len) = true)
    (l_Room_len : K.lookup f_Room_len = some ⟨oc_Room_len, od_Room_len, .func (PySem.W.fnOf "__len__" "Room.__len__" (defArgs s_Room_len) (defBody s_Room_len) (defScope s_Room_len) .none kV_Room_len dc_Room_len pm_Room_len an_Room_len cd_Room_len ct_Room_len), sl_Room_len⟩)
    (c_Room_len : PySem.W.codeIn K cd_Room_len "Room.__len__" = true)
    (k_Room_len : PySem.W.keepIn K (.ref f_Room_len) = true)
    (a_Room_getitem : PySem.W.findIn K (.ref C_Room) "__getitem__" = some (some (.ref f_Room_getitem)))
    (i_Room_getitem : PySem.W.isFn K (.ref f_Room_getitem) = true)
    (l_Room_getitem : K.lookup f_Room_getitem = some ⟨oc_Room_getitem, od_Room_getitem, .func (PySem.W.fnOf "__getitem__" "Room.__getitem__" (defArgs s_Room_getitem) (defBody s_Room_getitem) (defScope s_Room_getitem) .none kV_Room_getitem dc_Room_getitem pm_Room_getitem an_Room_getitem cd_Room_getitem ct_Room_getitem), sl_Room_getitem⟩)
    (c_Room_getitem : PySem.W.codeIn K cd_Room_getitem "Room.__getitem__" = true)
    (k_Room_getitem : PySem.W.keepIn K (.ref f_Room_getitem) = true)
    (a_Room_add : PySem.W.findIn K (.ref C_Room) "__add__" = some (some (.ref f_Room_add)))
    (i_Room_add : PySem.W.isFn K (.ref f_Room_add) = true)
    (l_Room_add : K.lookup f_Room_add = some ⟨oc_Room_add, od_Room_add, .func (PySem.W.fnOf "__add__" "Room.__add__" (defArgs s_Room_add) (defBody s_Room_add) (defScope s_Room_add) .none kV_Room_add dc_Room_add pm_Room_add an_Room_add cd_Room_add ct_Room_add), sl_Room_add⟩)
    (c_Room_add : PySem.W.codeIn K cd_Room_add "Room.__add__" = true)
    (k_Room_add : PySem.W.keepIn K (.ref f_Room_add) = true)
    (a_Room_eq : PySem.W.findIn K (.ref C_Room) "__eq__" = some (some (.ref f_Room_eq)))
    (i_Room_eq : PySem.W.isFn K (.ref f_Room_eq) = true)
    (l_Room_eq : K.lookup f_Room_eq = some ⟨oc_Room_eq, od_Room_eq, .func (PySem.W.fnOf "__eq__" "Room.__eq__" (defArgs s_Room_eq) (defBody s_Room_eq) (defScope s_Room_eq) .none kV_Room_eq dc_Room_eq pm_Room_eq an_Room_eq cd_Room_eq ct_Room_eq), sl_Room_eq⟩)
    (c_Room_eq : PySem.W.codeIn K cd_Room_eq "Room.__eq__" = true)
    (k_Room_eq : PySem.W.keepIn K (.ref f_Room_eq) = true)
    (a_Room_str : PySem.W.findIn K (.ref C_Room) "__str__" = some (some (.ref f_Room_str)))
    (i_Room_str : PySem.W.isFn K (.ref f_Room_str) = true)
    (l_Room_str : K.lookup f_Room_str = some ⟨oc_Room_str, od_Room_str, .func (PySem.W.fnOf "__str__" "Room.__str__" (defArgs s_Room_str) (defBody s_Room_str) (defScope s_Room_str) .none kV_Room_str dc_Room_str pm_Room_str an_Room_str cd_Room_str ct_Room_str), sl_Room_str⟩)
    (c_Room_str : PySem.W.codeIn K cd_Room_str "Room.__str__" = true)
    (k_Room_str : PySem.W.keepIn K (.ref f_Room_str) = true)
    (a_least_meeting : PySem.W.nsIn K mainGlobals "least_meeting" = some (some (.ref f_least_meeting)))
    (l_least_meeting : K.lookup f_least_meeting = some ⟨oc_least_meeting, od_least_meeting, .func (PySem.W.fnOf "least_meeting" "least_meeting" (defArgs s_least_meeting) (defBody s_least_meeting) (defScope s_least_meeting) .none kV_least_meeting dc_least_meeting pm_least_meeting an_least_meeting cd_least_meeting ct_least_meeting), sl_least_meeting⟩)
    (c_least_meeting : PySem.W.codeIn K cd_least_meeting "least_meeting" = true)
    (k_least_meeting : PySem.W.keepIn K (.ref f_least_meeting) = true)
    (a_ones_of : PySem.W.nsIn K mainGlobals "ones_of" = some (some (.ref f_ones_of)))
    (l_ones_of : K.lookup f_ones_of = some ⟨oc_ones_of, od_ones_of, .func (PySem.W.fnOf "ones_of" "ones_of" (defArgs s_ones_of) (defBody s_ones_of) (defScope s_ones_of) .none kV_ones_of dc_ones_of pm_ones_of an_ones_of cd_ones_of ct_ones_of), sl_ones_of⟩)
    (c_ones_of : PySem.W.codeIn K cd_ones_of "ones_of" = true)
    (k_ones_of : PySem.W.keepIn K (.ref f_ones_of) = true)
    (a_has_one_of : PySem.W.nsIn K mainGlobals "has_one_of" = some (some (.ref f_has_one_of)))
    (l_has_one_of : K.lookup f_has_one_of = some ⟨oc_has_one_of, od_has_one_of, .func (PySem.W.fnOf "has_one_of" "has_one_of" (defArgs s_has_one_of) (defBody s_has_one_of) (defScope s_has_one_of) .none kV_has_one_of dc_has_one_of pm_has_one_of an_has_one_of cd_has_one_of ct_has_one_of), sl_has_one_of⟩)
    (c_has_one_of : PySem.W.codeIn K cd_has_one_of "has_one_of" = true)
    (k_has_one_of : PySem.W.keepIn K (.ref f_has_one_of) = true)
    (a_tree : PySem.W.nsIn K mainGlobals "tree" = some (some (.ref f_tree)))
    (l_tree : K.lookup f_tree = some ⟨oc_tree, od_tree, .func (PySem.W.fnOf "tree" "tree" (defArgs s_tree) (defBody s_tree) (defScope s_tree) .none kV_tree dc_tree pm_tree an_tree cd_tree ct_tree), sl_tree⟩)
    (c_tree : PySem.W.codeIn K cd_tree "tree" = true)
    (k_tree : PySem.W.keepIn K (.ref f_tree) = true)
    (a_taken_down : PySem.W.nsIn K mainGlobals "taken_down" = some (some (.ref f_taken_down)))
    (l_taken_down : K.lookup f_taken_down = some ⟨oc_taken_down, od_taken_down, .func (PySem.W.fnOf "taken_down" "taken_down" (defArgs s_taken_down) (defBody s_taken_down) (defScope s_taken_down) .none kV_taken_down dc_taken_down pm_taken_down an_taken_down cd_taken_down ct_taken_down), sl_taken_down⟩)
    (c_taken_down : PySem.W.codeIn K cd_taken_down "taken_down" = true)
    (k_taken_down : PySem.W.keepIn K (.ref f_taken_down) = true)
    (a_check_edges : PySem.W.nsIn K mainGlobals "check_edges" = some (some (.ref f_check_edges)))
    (l_check_edges : K.lookup f_check_edges = some ⟨oc_check_edges, od_check_edges, .func (PySem.W.fnOf "check_edges" "check_edges" (defArgs s_check_edges) (defBody s_check_edges) (defScope s_check_edges) .none kV_check_edges dc_check_edges pm_check_edges an_check_edges cd_check_edges ct_check_edges), sl_check_edges⟩)
    (c_check_edges : PySem.W.codeIn K cd_check_edges "check_edges" = true)
    (k_check_edges : PySem.W.keepIn K (.ref f_check_edges) = true)
    (a_is_tuple_of : PySem.W.nsIn K mainGlobals "is_tuple_of" = some (some (.ref f_is_tuple_of)))
    (l_is_tuple_of : K.lookup f_is_tuple_of = some ⟨oc_is_tuple_of, od_is_tuple_of, .func (PySem.W.fnOf "is_tuple_of" "is_tuple_of" (defArgs s_is_tuple_of) (defBody s_is_tuple_of) (defScope s_is_tuple_of) .none kV_is_tuple_of dc_is_tuple_of pm_is_tuple_of an_is_tuple_of cd_is_tuple_of ct_is_tuple_of), sl_is_tuple_of⟩)
    (c_is_tuple_of : PySem.W.codeIn K cd_is_tuple_of "is_tuple_of" = true)
    (k_is_tuple_of : PySem.W.keepIn K (.ref f_is_tuple_of) = true)
    (a_ring_at : PySem.W.nsIn K mainGlobals "ring_at" = some (some (.ref f_ring_at)))
    (l_ring_at : K.lookup f_ring_at = some ⟨oc_ring_at, od_ring_at, .func (PySem.W.fnOf "ring_at" "ring_at" (defArgs s_ring_at) (defBody s_ring_at) (defScope s_ring_at) .none kV_ring_at dc_ring_at pm_ring_at an_ring_at cd_ring_at ct_ring_at), sl_ring_at⟩)
    (c_ring_at : PySem.W.codeIn K cd_ring_at "ring_at" = true)
    (k_ring_at : PySem.W.keepIn K (.ref f_ring_at) = true)
    (a_are_joined : PySem.W.nsIn K mainGlobals "are_joined" = some (some (.ref f_are_joined)))
    (l_are_joined : K.lookup f_are_joined = some ⟨oc_are_joined, od_are_joined, .func (PySem.W.fnOf "are_joined" "are_joined" (defArgs s_are_joined) (defBody s_are_joined) (defScope s_are_joined) .none kV_are_joined dc_are_joined pm_are_joined an_are_joined cd_are_joined ct_are_joined), sl_are_joined⟩)
    (c_are_joined : PySem.W.codeIn K cd_are_joined "are_joined" = true)
    (k_are_joined : PySem.W.keepIn K (.ref f_are_joined) = true)
    (a_unjoined_beside : PySem.W.nsIn K mainGlobals "unjoined_beside" = some (some (.ref f_unjoined_beside)))
    (l_unjoined_beside : K.lookup f_unjoined_beside = some ⟨oc_unjoined_beside, od_unjoined_beside, .func (PySem.W.fnOf "unjoined_beside" "unjoined_beside" (defArgs s_unjoined_beside) (defBody s_unjoined_beside) (defScope s_unjoined_beside) .none kV_unjoined_beside dc_unjoined_beside pm_unjoined_beside an_unjoined_beside cd_unjoined_beside ct_unjoined_beside), sl_unjoined_beside⟩)
    (c_unjoined_beside : PySem.W.codeIn K cd_unjoined_beside "unjoined_beside" = true)
    (k_unjoined_beside : PySem.W.keepIn K (.ref f_unjoined_beside) = true)
    (a_room_kept_by : PySem.W.nsIn K mainGlobals "room_kept_by" = some (some (.ref f_room_kept_by)))
    (l_room_kept_by : K.lookup f_room_kept_by = some ⟨oc_room_kept_by, od_room_kept_by, .func (PySem.W.fnOf "room_kept_by" "room_kept_by" (defArgs s_room_kept_by) (defBody s_room_kept_by) (defScope s_room_kept_by) .none kV_room_kept_by dc_room_kept_by pm_room_kept_by an_room_kept_by cd_room_kept_by ct_room_kept_by), sl_room_kept_by⟩)
    (c_room_kept_by : PySem.W.codeIn K cd_room_kept_by "room_kept_by" = true)
    (k_room_kept_by : PySem.W.keepIn K (.ref f_room_kept_by) = true)
    (a_peeled : PySem.W.nsIn K mainGlobals "peeled" = some (some (.ref f_peeled)))
    (l_peeled : K.lookup f_peeled = some ⟨oc_peeled, od_peeled, .func (PySem.W.fnOf "peeled" "peeled" (defArgs s_peeled) (defBody s_peeled) (defScope s_peeled) .none kV_peeled dc_peeled pm_peeled an_peeled cd_peeled ct_peeled), sl_peeled⟩)
    (c_peeled : PySem.W.codeIn K cd_peeled "peeled" = true)
    (k_peeled : PySem.W.keepIn K (.ref f_peeled) = true)
    (a_check_points : PySem.W.nsIn K mainGlobals "check_points" = some (some (.ref f_check_points)))
    (l_check_points : K.lookup f_check_points = some ⟨oc_check_points, od_check_points, .func (PySem.W.fnOf "check_points" "check_points" (defArgs s_check_points) (defBody s_check_points) (defScope s_check_points) .none kV_check_points dc_check_points pm_check_points an_check_points cd_check_points ct_check_points), sl_check_points⟩)
    (c_check_points : PySem.W.codeIn K cd_check_points "check_points" = true)
    (k_check_points : PySem.W.keepIn K (.ref f_check_points) = true)
    (a_is_point : PySem.W.nsIn K mainGlobals "is_point" = some (some (.ref f_is_point)))
    (l_is_point : K.lookup f_is_point = some ⟨oc_is_point, od_is_point, .func (PySem.W.fnOf "is_point" "is_point" (defArgs s_is_point) (defBody s_is_point) (defScope s_is_point) .none kV_is_point dc_is_point pm_is_point an_is_point cd_is_point ct_is_point), sl_is_point⟩)
    (c_is_point : PySem.W.codeIn K cd_is_point "is_point" = true)
    (k_is_point : PySem.W.keepIn K (.ref f_is_point) = true)
    (a_around : PySem.W.nsIn K mainGlobals "around" = some (some (.ref f_around)))
    (l_around : K.lookup f_around = some ⟨oc_around, od_around, .func (PySem.W.fnOf "around" "around" (defArgs s_around) (defBody s_around) (defScope s_around) .none kV_around dc_around pm_around an_around cd_around ct_around), sl_around⟩)
    (c_around : PySem.W.codeIn K cd_around "around" = true)
    (k_around : PySem.W.keepIn K (.ref f_around) = true)
    (a_is_between : PySem.W.nsIn K mainGlobals "is_between" = some (some (.ref f_is_between)))
    (l_is_between : K.lookup f_is_between = some ⟨oc_is_between, od_is_between, .func (PySem.W.fnOf "is_between" "is_between" (defArgs s_is_between) (defBody s_is_between) (defScope s_is_between) .none kV_is_between dc_is_between pm_is_between an_is_between cd_is_between ct_is_between), sl_is_between⟩)
    (c_is_between : PySem.W.codeIn K cd_is_between "is_between" = true)
    (k_is_between : PySem.W.keepIn K (.ref f_is_between) = true)
    (a_is_inside : PySem.W.nsIn K mainGlobals "is_inside" = some (some (.ref f_is_inside)))
    (l_is_inside : K.lookup f_is_inside = some ⟨oc_is_inside, od_is_inside, .func (PySem.W.fnOf "is_inside" "is_inside" (defArgs s_is_inside) (defBody s_is_inside) (defScope s_is_inside) .none kV_is_inside dc_is_inside pm_is_inside an_is_inside cd_is_inside ct_is_inside), sl_is_inside⟩)
    (c_is_inside : PySem.W.codeIn K cd_is_inside "is_inside" = true)
    (k_is_inside : PySem.W.keepIn K (.ref f_is_inside) = true)
    (a_turn : PySem.W.nsIn K mainGlobals "turn" = some (some (.ref f_turn)))
    (l_turn : K.lookup f_turn = some ⟨oc_turn, od_turn, .func (PySem.W.fnOf "turn" "turn" (defArgs s_turn) (defBody s_turn) (defScope s_turn) .none kV_turn dc_turn pm_turn an_turn cd_turn ct_turn), sl_turn⟩)
    (c_turn : PySem.W.codeIn K cd_turn "turn" = true)
    (k_turn : PySem.W.keepIn K (.ref f_turn) = true)
    (a_opened : PySem.W.nsIn K mainGlobals "opened" = some (some (.ref f_opened)))
    (l_opened : K.lookup f_opened = some ⟨oc_opened, od_opened, .func (PySem.W.fnOf "opened" "opened" (defArgs s_opened) (defBody s_opened) (defScope s_opened) .none kV_opened dc_opened pm_opened an_opened cd_opened ct_opened), sl_opened⟩)
    (c_opened : PySem.W.codeIn K cd_opened "opened" = true)
    (k_opened : PySem.W.keepIn K (.ref f_opened) = true)
    (a_lw_graph : PySem.W.nsIn K mainGlobals "_law_graph" = some (some (.ref f_lw_graph)))
    (l_lw_graph : K.lookup f_lw_graph = some ⟨oc_lw_graph, od_lw_graph, .func (PySem.W.fnOf "_law_graph" "_law_graph" (defArgs s_lw_graph) (defBody s_lw_graph) (defScope s_lw_graph) .none kV_lw_graph dc_lw_graph pm_lw_graph an_lw_graph cd_lw_graph ct_lw_graph), sl_lw_graph⟩)
    (c_lw_graph : PySem.W.codeIn K cd_lw_graph "_law_graph" = true)
    (k_lw_graph : PySem.W.keepIn K (.ref f_lw_graph) = true)
    (a_lw_forest : PySem.W.nsIn K mainGlobals "_law_forest" = some (some (.ref f_lw_forest)))
    (l_lw_forest : K.lookup f_lw_forest = some ⟨oc_lw_forest, od_lw_forest, .func (PySem.W.fnOf "_law_forest" "_law_forest" (defArgs s_lw_forest) (defBody s_lw_forest) (defScope s_lw_forest) .none kV_lw_forest dc_lw_forest pm_lw_forest an_lw_forest cd_lw_forest ct_lw_forest), sl_lw_forest⟩)
    (c_lw_forest : PySem.W.codeIn K cd_lw_forest "_law_forest" = true)
    (k_lw_forest : PySem.W.keepIn K (.ref f_lw_forest) = true)
    (a_lw_points : PySem.W.nsIn K mainGlobals "_law_points" = some (some (.ref f_lw_points)))
    (l_lw_points : K.lookup f_lw_points = some ⟨oc_lw_points, od_lw_points, .func (PySem.W.fnOf "_law_points" "_law_points" (defArgs s_lw_points) (defBody s_lw_points) (defScope s_lw_points) .none kV_lw_points dc_lw_points pm_lw_points an_lw_points cd_lw_points ct_lw_points), sl_lw_points⟩)
    (c_lw_points : PySem.W.codeIn K cd_lw_points "_law_points" = true)
    (k_lw_points : PySem.W.keepIn K (.ref f_lw_points) = true)
    (a_lw_refused : PySem.W.nsIn K mainGlobals "_law_refused" = some (some (.ref f_lw_refused)))
    (l_lw_refused : K.lookup f_lw_refused = some ⟨oc_lw_refused, od_lw_refused, .func (PySem.W.fnOf "_law_refused" "_law_refused" (defArgs s_lw_refused) (defBody s_lw_refused) (defScope s_lw_refused) .none kV_lw_refused dc_lw_refused pm_lw_refused an_lw_refused cd_lw_refused ct_lw_refused), sl_lw_refused⟩)
    (c_lw_refused : PySem.W.codeIn K cd_lw_refused "_law_refused" = true)
    (k_lw_refused : PySem.W.keepIn K (.ref f_lw_refused) = true)
    (a_lw_closing : PySem.W.nsIn K mainGlobals "_law_closing" = some (some (.ref f_lw_closing)))
    (l_lw_closing : K.lookup f_lw_closing = some ⟨oc_lw_closing, od_lw_closing, .func (PySem.W.fnOf "_law_closing" "_law_closing" (defArgs s_lw_closing) (defBody s_lw_closing) (defScope s_lw_closing) .none kV_lw_closing dc_lw_closing pm_lw_closing an_lw_closing cd_lw_closing ct_lw_closing), sl_lw_closing⟩)
    (c_lw_closing : PySem.W.codeIn K cd_lw_closing "_law_closing" = true)
    (k_lw_closing : PySem.W.keepIn K (.ref f_lw_closing) = true)
    (a_lw_odd : PySem.W.nsIn K mainGlobals "_law_odd" = some (some (.ref f_lw_odd)))
    (l_lw_odd : K.lookup f_lw_odd = some ⟨oc_lw_odd, od_lw_odd, .func (PySem.W.fnOf "_law_odd" "_law_odd" (defArgs s_lw_odd) (defBody s_lw_odd) (defScope s_lw_odd) .none kV_lw_odd dc_lw_odd pm_lw_odd an_lw_odd cd_lw_odd ct_lw_odd), sl_lw_odd⟩)
    (c_lw_odd : PySem.W.codeIn K cd_lw_odd "_law_odd" = true)
    (k_lw_odd : PySem.W.keepIn K (.ref f_lw_odd) = true)
    (a_lw_deal : PySem.W.nsIn K mainGlobals "_law_deal" = some (some (.ref f_lw_deal)))
    (l_lw_deal : K.lookup f_lw_deal = some ⟨oc_lw_deal, od_lw_deal, .func (PySem.W.fnOf "_law_deal" "_law_deal" (defArgs s_lw_deal) (defBody s_lw_deal) (defScope s_lw_deal) .none kV_lw_deal dc_lw_deal pm_lw_deal an_lw_deal cd_lw_deal ct_lw_deal), sl_lw_deal⟩)
    (c_lw_deal : PySem.W.codeIn K cd_lw_deal "_law_deal" = true)
    (k_lw_deal : PySem.W.keepIn K (.ref f_lw_deal) = true)
    (a_lw_draw : PySem.W.nsIn K mainGlobals "_law_draw" = some (some (.ref f_lw_draw)))
    (l_lw_draw : K.lookup f_lw_draw = some ⟨oc_lw_draw, od_lw_draw, .func (PySem.W.fnOf "_law_draw" "_law_draw" (defArgs s_lw_draw) (defBody s_lw_draw) (defScope s_lw_draw) .none kV_lw_draw dc_lw_draw pm_lw_draw an_lw_draw cd_lw_draw ct_lw_draw), sl_lw_draw⟩)
    (c_lw_draw : PySem.W.codeIn K cd_lw_draw "_law_draw" = true)
    (k_lw_draw : PySem.W.keepIn K (.ref f_lw_draw) = true)
    (a_lw_pick : PySem.W.nsIn K mainGlobals "_law_pick" = some (some (.ref f_lw_pick)))
    (l_lw_pick : K.lookup f_lw_pick = some ⟨oc_lw_pick, od_lw_pick, .func (PySem.W.fnOf "_law_pick" "_law_pick" (defArgs s_lw_pick) (defBody s_lw_pick) (defScope s_lw_pick) .none kV_lw_pick dc_lw_pick pm_lw_pick an_lw_pick cd_lw_pick ct_lw_pick), sl_lw_pick⟩)
    (c_lw_pick : PySem.W.codeIn K cd_lw_pick "_law_pick" = true)
    (k_lw_pick : PySem.W.keepIn K (.ref f_lw_pick) = true)
    (a_lw_mixed : PySem.W.nsIn K mainGlobals "_law_mixed" = some (some (.ref f_lw_mixed)))
    (l_lw_mixed : K.lookup f_lw_mixed = some ⟨oc_lw_mixed, od_lw_mixed, .func (PySem.W.fnOf "_law_mixed" "_law_mixed" (defArgs s_lw_mixed) (defBody s_lw_mixed) (defScope s_lw_mixed) .none kV_lw_mixed dc_lw_mixed pm_lw_mixed an_lw_mixed cd_lw_mixed ct_lw_mixed), sl_lw_mixed⟩)
    (c_lw_mixed : PySem.W.codeIn K cd_lw_mixed "_law_mixed" = true)
    (k_lw_mixed : PySem.W.keepIn K (.ref f_lw_mixed) = true)
    (a_lw_names : PySem.W.nsIn K mainGlobals "_law_names" = some (some (.ref f_lw_names)))
    (l_lw_names : K.lookup f_lw_names = some ⟨oc_lw_names, od_lw_names, .func (PySem.W.fnOf "_law_names" "_law_names" (defArgs s_lw_names) (defBody s_lw_names) (defScope s_lw_names) .none kV_lw_names dc_lw_names pm_lw_names an_lw_names cd_lw_names ct_lw_names), sl_lw_names⟩)
    (c_lw_names : PySem.W.codeIn K cd_lw_names "_law_names" = true)
    (k_lw_names : PySem.W.keepIn K (.ref f_lw_names) = true)
    (a_lw_main : PySem.W.nsIn K mainGlobals "law" = some (some (.ref f_lw_main)))
    (l_lw_main : K.lookup f_lw_main = some ⟨oc_lw_main, od_lw_main, .func (PySem.W.fnOf "law" "law" (defArgs s_lw_main) (defBody s_lw_main) (defScope s_lw_main) .none kV_lw_main dc_lw_main pm_lw_main an_lw_main cd_lw_main ct_lw_main), sl_lw_main⟩)
    (c_lw_main : PySem.W.codeIn K cd_lw_main "law" = true)
    (k_lw_main : PySem.W.keepIn K (.ref f_lw_main) = true)
    (sn_Room_Rule : PySem.W.subIn K (.ref C_Room) (.ref C_Rule) = some false)
    (sa_InvalidDrawing : PySem.W.findIn K (.ref C_InvalidDrawing) "__setattr__" = some (some (.builtin "object.__setattr__")))
    (ga_InvalidDrawing : PySem.W.findIn K (.ref C_InvalidDrawing) "__getattribute__" = some (some (.builtin "BaseException.__getattribute__")))
    (gg_InvalidDrawing : PySem.W.findIn K (.ref C_InvalidDrawing) "__getattr__" = some none)
    (nb_InvalidDrawing : PySem.W.findIn K (.ref C_InvalidDrawing) "at" = some none)
    (tI_InvalidDrawing : PySem.W.typeIn K (.ref f_InvalidDrawing_init) = some (.type "function"))
    (kC_InvalidDrawing : PySem.W.keepIn K (.ref C_InvalidDrawing) = true)
    (eC_InvalidDrawing : PySem.W.subIn K (.ref C_InvalidDrawing) (.type "BaseException") = some true)
    (tC_InvalidDrawing : PySem.W.typeIn K (.ref C_InvalidDrawing) = some (.type "type"))
    (hC_InvalidDrawing : PySem.W.hasDictIn K C_InvalidDrawing = true)
    (sC_InvalidDrawing : PySem.W.subIn K (.ref C_InvalidDrawing) (.ref C_InvalidDrawing) = some true)
    (hA_InvalidDrawing : PySem.W.findIn K (.ref C_InvalidDrawing) "__class__" = some (some (.builtin "object.__class__")))
    (hN_InvalidDrawing : PySem.W.specialIn K (.builtin "object.__class__") "__get__" = some (some (.builtin "getset_descriptor.__get__")))
    (hT_InvalidDrawing : PySem.W.takesIn K (.builtin "object.__class__") = some true)
    (hM_InvalidDrawing : PySem.W.mroIn K C_InvalidDrawing (.type "object") = some true)
    (sa_InvalidRule : PySem.W.findIn K (.ref C_InvalidRule) "__setattr__" = some (some (.builtin "object.__setattr__")))
    (ga_InvalidRule : PySem.W.findIn K (.ref C_InvalidRule) "__getattribute__" = some (some (.builtin "BaseException.__getattribute__")))
    (gg_InvalidRule : PySem.W.findIn K (.ref C_InvalidRule) "__getattr__" = some none)
    (nb_InvalidRule : PySem.W.findIn K (.ref C_InvalidRule) "word" = some none)
    (tI_InvalidRule : PySem.W.typeIn K (.ref f_InvalidRule_init) = some (.type "function"))
    (kC_InvalidRule : PySem.W.keepIn K (.ref C_InvalidRule) = true)
    (eC_InvalidRule : PySem.W.subIn K (.ref C_InvalidRule) (.type "BaseException") = some true)
    (tC_InvalidRule : PySem.W.typeIn K (.ref C_InvalidRule) = some (.type "type"))
    (hC_InvalidRule : PySem.W.hasDictIn K C_InvalidRule = true)
    (sC_InvalidRule : PySem.W.subIn K (.ref C_InvalidRule) (.ref C_InvalidRule) = some true)
    (hA_InvalidRule : PySem.W.findIn K (.ref C_InvalidRule) "__class__" = some (some (.builtin "object.__class__")))
    (hN_InvalidRule : PySem.W.specialIn K (.builtin "object.__class__") "__get__" = some (some (.builtin "getset_descriptor.__get__")))
    (hT_InvalidRule : PySem.W.takesIn K (.builtin "object.__class__") = some true)
    (hM_InvalidRule : PySem.W.mroIn K C_InvalidRule (.type "object") = some true)
    (n_abs : PySem.W.nsIn K mainGlobals "abs" = some none)
    (n_all : PySem.W.nsIn K mainGlobals "all" = some none)
    (n_any : PySem.W.nsIn K mainGlobals "any" = some none)
    (n_bool : PySem.W.nsIn K mainGlobals "bool" = some none)
    (n_enumerate : PySem.W.nsIn K mainGlobals "enumerate" = some none)
    (n_int : PySem.W.nsIn K mainGlobals "int" = some none)
    (n_isinstance : PySem.W.nsIn K mainGlobals "isinstance" = some none)
    (n_len : PySem.W.nsIn K mainGlobals "len" = some none)
    (n_list : PySem.W.nsIn K mainGlobals "list" = some none)
    (n_max : PySem.W.nsIn K mainGlobals "max" = some none)
    (n_min : PySem.W.nsIn K mainGlobals "min" = some none)
    (n_range : PySem.W.nsIn K mainGlobals "range" = some none)
    (n_repr : PySem.W.nsIn K mainGlobals "repr" = some none)
    (n_set : PySem.W.nsIn K mainGlobals "set" = some none)
    (n_sorted : PySem.W.nsIn K mainGlobals "sorted" = some none)
    (n_str : PySem.W.nsIn K mainGlobals "str" = some none)
    (n_sum : PySem.W.nsIn K mainGlobals "sum" = some none)
    (n_tuple : PySem.W.nsIn K mainGlobals "tuple" = some none)
    (m_LETTERS : PySem.W.nsIn K mainGlobals "LETTERS" = some (some (.str "abcdefghijklmnopqrstuvwxyz" tk_LETTERS)))
    : ∃ a : Ads, a.f_lw_main = fa ∧ Txt K mg a ∧ (∀ (s : Shared) (v : Value), BindsTo s a.fd_lw_main ⟨[v], []⟩ [("_law_script", v)]) := by
  have e := hfa.symm.trans (PySem.W.mg_of X G a_lw_main)
  have e2 : f_lw_main = fa := by cases e; rfl
  refine ⟨⟨C_Rule, C_Room, C_InvalidDrawing, C_InvalidRule, C_InvalidOrder, C_LeaveError, f_is_int, (PySem.W.fnOf "is_int" "is_int" (defArgs s_is_int) (defBody s_is_int) (defScope s_is_int) .none kV_is_int dc_is_int pm_is_int an_is_int cd_is_int ct_is_int), f_is_index, (PySem.W.fnOf "is_index" "is_index" (defArgs s_is_index) (defBody s_is_index) (defScope s_is_index) .none kV_is_index dc_is_index pm_is_index an_is_index cd_is_index ct_is_index), f_is_name, (PySem.W.fnOf "is_name" "is_name" (defArgs s_is_name) (defBody s_is_name) (defScope s_is_name) .none kV_is_name dc_is_name pm_is_name an_is_name cd_is_name ct_is_name), f_is_sequence, (PySem.W.fnOf "is_sequence" "is_sequence" (defArgs s_is_sequence) (defBody s_is_sequence) (defScope s_is_sequence) .none kV_is_sequence dc_is_sequence pm_is_sequence an_is_sequence cd_is_sequence ct_is_sequence), f_are_names, (PySem.W.fnOf "are_names" "are_names" (defArgs s_are_names) (defBody s_are_names) (defScope s_are_names) .none kV_are_names dc_are_names pm_are_names an_are_names cd_are_names ct_are_names), f_are_unlike, (PySem.W.fnOf "are_unlike" "are_unlike" (defArgs s_are_unlike) (defBody s_are_unlike) (defScope s_are_unlike) .none kV_are_unlike dc_are_unlike pm_are_unlike an_are_unlike cd_are_unlike ct_are_unlike), f_lot_of, (PySem.W.fnOf "lot_of" "lot_of" (defArgs s_lot_of) (defBody s_lot_of) (defScope s_lot_of) .none kV_lot_of dc_lot_of pm_lot_of an_lot_of cd_lot_of ct_lot_of), f_bits_of, (PySem.W.fnOf "bits_of" "bits_of" (defArgs s_bits_of) (defBody s_bits_of) (defScope s_bits_of) .none kV_bits_of dc_bits_of pm_bits_of an_bits_of cd_bits_of ct_bits_of), f_names_of, (PySem.W.fnOf "names_of" "names_of" (defArgs s_names_of) (defBody s_names_of) (defScope s_names_of) .none kV_names_of dc_names_of pm_names_of an_names_of cd_names_of ct_names_of), f_InvalidRule_init, (PySem.W.fnOf "__init__" "InvalidRule.__init__" (defArgs s_InvalidRule_init) (defBody s_InvalidRule_init) (defScope s_InvalidRule_init) .none kV_InvalidRule_init dc_InvalidRule_init pm_InvalidRule_init an_InvalidRule_init cd_InvalidRule_init ct_InvalidRule_init), f_InvalidDrawing_init, (PySem.W.fnOf "__init__" "InvalidDrawing.__init__" (defArgs s_InvalidDrawing_init) (defBody s_InvalidDrawing_init) (defScope s_InvalidDrawing_init) .none kV_InvalidDrawing_init dc_InvalidDrawing_init pm_InvalidDrawing_init an_InvalidDrawing_init cd_InvalidDrawing_init ct_InvalidDrawing_init), f_Rule_init, (PySem.W.fnOf "__init__" "Rule.__init__" (defArgs s_Rule_init) (defBody s_Rule_init) (defScope s_Rule_init) (.ref T_Rule_init) kV_Rule_init dc_Rule_init pm_Rule_init an_Rule_init cd_Rule_init ct_Rule_init), e_Rule_init, f_Rule_eq, (PySem.W.fnOf "__eq__" "Rule.__eq__" (defArgs s_Rule_eq) (defBody s_Rule_eq) (defScope s_Rule_eq) .none kV_Rule_eq dc_Rule_eq pm_Rule_eq an_Rule_eq cd_Rule_eq ct_Rule_eq), f_Rule_str, (PySem.W.fnOf "__str__" "Rule.__str__" (defArgs s_Rule_str) (defBody s_Rule_str) (defScope s_Rule_str) .none kV_Rule_str dc_Rule_str pm_Rule_str an_Rule_str cd_Rule_str ct_Rule_str), f_read_rule, (PySem.W.fnOf "read_rule" "read_rule" (defArgs s_read_rule) (defBody s_read_rule) (defScope s_read_rule) .none kV_read_rule dc_read_rule pm_read_rule an_read_rule cd_read_rule ct_read_rule), f_Room_init, (PySem.W.fnOf "__init__" "Room.__init__" (defArgs s_Room_init) (defBody s_Room_init) (defScope s_Room_init) (.ref T_Room_init) kV_Room_init dc_Room_init pm_Room_init an_Room_init cd_Room_init ct_Room_init), e_Room_init, f_Room_read, (PySem.W.fnOf "read" "Room.read" (defArgs s_Room_read) (defBody s_Room_read) (defScope s_Room_read) .none kV_Room_read dc_Room_read pm_Room_read an_Room_read cd_Room_read ct_Room_read), p_Room_read, f_Room_without, (PySem.W.fnOf "without" "Room.without" (defArgs s_Room_without) (defBody s_Room_without) (defScope s_Room_without) .none kV_Room_without dc_Room_without pm_Room_without an_Room_without cd_Room_without ct_Room_without), f_Room_len, (PySem.W.fnOf "__len__" "Room.__len__" (defArgs s_Room_len) (defBody s_Room_len) (defScope s_Room_len) .none kV_Room_len dc_Room_len pm_Room_len an_Room_len cd_Room_len ct_Room_len), f_Room_getitem, (PySem.W.fnOf "__getitem__" "Room.__getitem__" (defArgs s_Room_getitem) (defBody s_Room_getitem) (defScope s_Room_getitem) .none kV_Room_getitem dc_Room_getitem pm_Room_getitem an_Room_getitem cd_Room_getitem ct_Room_getitem), f_Room_add, (PySem.W.fnOf "__add__" "Room.__add__" (defArgs s_Room_add) (defBody s_Room_add) (defScope s_Room_add) .none kV_Room_add dc_Room_add pm_Room_add an_Room_add cd_Room_add ct_Room_add), f_Room_eq, (PySem.W.fnOf "__eq__" "Room.__eq__" (defArgs s_Room_eq) (defBody s_Room_eq) (defScope s_Room_eq) .none kV_Room_eq dc_Room_eq pm_Room_eq an_Room_eq cd_Room_eq ct_Room_eq), f_Room_str, (PySem.W.fnOf "__str__" "Room.__str__" (defArgs s_Room_str) (defBody s_Room_str) (defScope s_Room_str) .none kV_Room_str dc_Room_str pm_Room_str an_Room_str cd_Room_str ct_Room_str), f_least_meeting, (PySem.W.fnOf "least_meeting" "least_meeting" (defArgs s_least_meeting) (defBody s_least_meeting) (defScope s_least_meeting) .none kV_least_meeting dc_least_meeting pm_least_meeting an_least_meeting cd_least_meeting ct_least_meeting), f_ones_of, (PySem.W.fnOf "ones_of" "ones_of" (defArgs s_ones_of) (defBody s_ones_of) (defScope s_ones_of) .none kV_ones_of dc_ones_of pm_ones_of an_ones_of cd_ones_of ct_ones_of), f_has_one_of, (PySem.W.fnOf "has_one_of" "has_one_of" (defArgs s_has_one_of) (defBody s_has_one_of) (defScope s_has_one_of) .none kV_has_one_of dc_has_one_of pm_has_one_of an_has_one_of cd_has_one_of ct_has_one_of), f_tree, (PySem.W.fnOf "tree" "tree" (defArgs s_tree) (defBody s_tree) (defScope s_tree) .none kV_tree dc_tree pm_tree an_tree cd_tree ct_tree), f_taken_down, (PySem.W.fnOf "taken_down" "taken_down" (defArgs s_taken_down) (defBody s_taken_down) (defScope s_taken_down) .none kV_taken_down dc_taken_down pm_taken_down an_taken_down cd_taken_down ct_taken_down), f_check_edges, (PySem.W.fnOf "check_edges" "check_edges" (defArgs s_check_edges) (defBody s_check_edges) (defScope s_check_edges) .none kV_check_edges dc_check_edges pm_check_edges an_check_edges cd_check_edges ct_check_edges), f_is_tuple_of, (PySem.W.fnOf "is_tuple_of" "is_tuple_of" (defArgs s_is_tuple_of) (defBody s_is_tuple_of) (defScope s_is_tuple_of) .none kV_is_tuple_of dc_is_tuple_of pm_is_tuple_of an_is_tuple_of cd_is_tuple_of ct_is_tuple_of), f_ring_at, (PySem.W.fnOf "ring_at" "ring_at" (defArgs s_ring_at) (defBody s_ring_at) (defScope s_ring_at) .none kV_ring_at dc_ring_at pm_ring_at an_ring_at cd_ring_at ct_ring_at), f_are_joined, (PySem.W.fnOf "are_joined" "are_joined" (defArgs s_are_joined) (defBody s_are_joined) (defScope s_are_joined) .none kV_are_joined dc_are_joined pm_are_joined an_are_joined cd_are_joined ct_are_joined), f_unjoined_beside, (PySem.W.fnOf "unjoined_beside" "unjoined_beside" (defArgs s_unjoined_beside) (defBody s_unjoined_beside) (defScope s_unjoined_beside) .none kV_unjoined_beside dc_unjoined_beside pm_unjoined_beside an_unjoined_beside cd_unjoined_beside ct_unjoined_beside), f_room_kept_by, (PySem.W.fnOf "room_kept_by" "room_kept_by" (defArgs s_room_kept_by) (defBody s_room_kept_by) (defScope s_room_kept_by) .none kV_room_kept_by dc_room_kept_by pm_room_kept_by an_room_kept_by cd_room_kept_by ct_room_kept_by), f_peeled, (PySem.W.fnOf "peeled" "peeled" (defArgs s_peeled) (defBody s_peeled) (defScope s_peeled) .none kV_peeled dc_peeled pm_peeled an_peeled cd_peeled ct_peeled), f_check_points, (PySem.W.fnOf "check_points" "check_points" (defArgs s_check_points) (defBody s_check_points) (defScope s_check_points) .none kV_check_points dc_check_points pm_check_points an_check_points cd_check_points ct_check_points), f_is_point, (PySem.W.fnOf "is_point" "is_point" (defArgs s_is_point) (defBody s_is_point) (defScope s_is_point) .none kV_is_point dc_is_point pm_is_point an_is_point cd_is_point ct_is_point), f_around, (PySem.W.fnOf "around" "around" (defArgs s_around) (defBody s_around) (defScope s_around) .none kV_around dc_around pm_around an_around cd_around ct_around), f_is_between, (PySem.W.fnOf "is_between" "is_between" (defArgs s_is_between) (defBody s_is_between) (defScope s_is_between) .none kV_is_between dc_is_between pm_is_between an_is_between cd_is_between ct_is_between), f_is_inside, (PySem.W.fnOf "is_inside" "is_inside" (defArgs s_is_inside) (defBody s_is_inside) (defScope s_is_inside) .none kV_is_inside dc_is_inside pm_is_inside an_is_inside cd_is_inside ct_is_inside), f_turn, (PySem.W.fnOf "turn" "turn" (defArgs s_turn) (defBody s_turn) (defScope s_turn) .none kV_turn dc_turn pm_turn an_turn cd_turn ct_turn), f_opened, (PySem.W.fnOf "opened" "opened" (defArgs s_opened) (defBody s_opened) (defScope s_opened) .none kV_opened dc_opened pm_opened an_opened cd_opened ct_opened), f_lw_graph, (PySem.W.fnOf "_law_graph" "_law_graph" (defArgs s_lw_graph) (defBody s_lw_graph) (defScope s_lw_graph) .none kV_lw_graph dc_lw_graph pm_lw_graph an_lw_graph cd_lw_graph ct_lw_graph), f_lw_forest, (PySem.W.fnOf "_law_forest" "_law_forest" (defArgs s_lw_forest) (defBody s_lw_forest) (defScope s_lw_forest) .none kV_lw_forest dc_lw_forest pm_lw_forest an_lw_forest cd_lw_forest ct_lw_forest), f_lw_points, (PySem.W.fnOf "_law_points" "_law_points" (defArgs s_lw_points) (defBody s_lw_points) (defScope s_lw_points) .none kV_lw_points dc_lw_points pm_lw_points an_lw_points cd_lw_points ct_lw_points), f_lw_refused, (PySem.W.fnOf "_law_refused" "_law_refused" (defArgs s_lw_refused) (defBody s_lw_refused) (defScope s_lw_refused) .none kV_lw_refused dc_lw_refused pm_lw_refused an_lw_refused cd_lw_refused ct_lw_refused), f_lw_closing, (PySem.W.fnOf "_law_closing" "_law_closing" (defArgs s_lw_closing) (defBody s_lw_closing) (defScope s_lw_closing) .none kV_lw_closing dc_lw_closing pm_lw_closing an_lw_closing cd_lw_closing ct_lw_closing), f_lw_odd, (PySem.W.fnOf "_law_odd" "_law_odd" (defArgs s_lw_odd) (defBody s_lw_odd) (defScope s_lw_odd) .none kV_lw_odd dc_lw_odd pm_lw_odd an_lw_odd cd_lw_odd ct_lw_odd), f_lw_deal, (PySem.W.fnOf "_law_deal" "_law_deal" (defArgs s_lw_deal) (defBody s_lw_deal) (defScope s_lw_deal) .none kV_lw_deal dc_lw_deal pm_lw_deal an_lw_deal cd_lw_deal ct_lw_deal), f_lw_draw, (PySem.W.fnOf "_law_draw" "_law_draw" (defArgs s_lw_draw) (defBody s_lw_draw) (defScope s_lw_draw) .none kV_lw_draw dc_lw_draw pm_lw_draw an_lw_draw cd_lw_draw ct_lw_draw), f_lw_pick, (PySem.W.fnOf "_law_pick" "_law_pick" (defArgs s_lw_pick) (defBody s_lw_pick) (defScope s_lw_pick) .none kV_lw_pick dc_lw_pick pm_lw_pick an_lw_pick cd_lw_pick ct_lw_pick), f_lw_mixed, (PySem.W.fnOf "_law_mixed" "_law_mixed" (defArgs s_lw_mixed) (defBody s_lw_mixed) (defScope s_lw_mixed) .none kV_lw_mixed dc_lw_mixed pm_lw_mixed an_lw_mixed cd_lw_mixed ct_lw_mixed), f_lw_names, (PySem.W.fnOf "_law_names" "_law_names" (defArgs s_lw_names) (defBody s_lw_names) (defScope s_lw_names) .none kV_lw_names dc_lw_names pm_lw_names an_lw_names cd_lw_names ct_lw_names), f_lw_main, (PySem.W.fnOf "law" "law" (defArgs s_lw_main) (defBody s_lw_main) (defScope s_lw_main) .none kV_lw_main dc_lw_main pm_lw_main an_lw_main cd_lw_main ct_lw_main)⟩, e2, ?_, fun s v => .of_eq rfl⟩
  constructor
  · exact ⟨pg_Rule, hd_Rule, po_Rule, sa_Rule⟩
  · exact PySem.W.mg_of X G aC_Rule
  · exact ⟨mk_Rule, a_Rule_init, i_Rule_init, kc_Rule⟩
  · exact ⟨⟨pg_Rule, hd_Rule, po_Rule, sa_Rule⟩, ha_Rule, hn_Rule, htk_Rule, hm_Rule, by unfold PySem.W.kitOne; simp⟩
  · exact no_Rule_name
  · exact no_Rule_gone
  · exact ⟨nd_Rule, hm_Rule⟩
  · unfold PySem.W.notFirst
    rw [sx_Rule]
    simp
  · unfold PySem.W.notFirst
    rw [sn_Room_Rule]
    simp
  · exact ⟨pg_Room, hd_Room, po_Room, sa_Room⟩
  · exact PySem.W.mg_of X G aC_Room
  · exact ⟨mk_Room, a_Room_init, i_Room_init, kc_Room⟩
  · exact ⟨⟨pg_Room, hd_Room, po_Room, sa_Room⟩, ha_Room, hn_Room, htk_Room, hm_Room, by unfold PySem.W.kitOne; simp⟩
  · exact no_Room_rules
  · exact no_Room_names
  · exact PySem.W.mg_of X G aC_InvalidDrawing
  · exact ⟨⟨nm_InvalidDrawing, q_InvalidDrawing, N_InvalidDrawing, bs_InvalidDrawing, _, sn_InvalidDrawing, sub_InvalidDrawing, ab_InvalidDrawing, col_InvalidDrawing, dd_InvalidDrawing, m0_InvalidDrawing, m1_InvalidDrawing, m2_InvalidDrawing, m3_InvalidDrawing, m5_InvalidDrawing, xL_InvalidDrawing, rfl⟩, sa_InvalidDrawing, eC_InvalidDrawing, tC_InvalidDrawing, kC_InvalidDrawing⟩
  · exact a_InvalidDrawing_init
  · exact tI_InvalidDrawing
  · exact nb_InvalidDrawing
  · exact ⟨ga_InvalidDrawing, gg_InvalidDrawing, eC_InvalidDrawing, hC_InvalidDrawing⟩
  · exact ⟨ga_InvalidDrawing, gg_InvalidDrawing, eC_InvalidDrawing, hC_InvalidDrawing, hA_InvalidDrawing, hN_InvalidDrawing, hT_InvalidDrawing, hM_InvalidDrawing⟩
  · exact PySem.W.exm_ref eC_InvalidDrawing hC_InvalidDrawing tC_InvalidDrawing sC_InvalidDrawing
  · exact PySem.W.mg_of X G aC_InvalidRule
  · exact ⟨⟨nm_InvalidRule, q_InvalidRule, N_InvalidRule, bs_InvalidRule, _, sn_InvalidRule, sub_InvalidRule, ab_InvalidRule, col_InvalidRule, dd_InvalidRule, m0_InvalidRule, m1_InvalidRule, m2_InvalidRule, m3_InvalidRule, m5_InvalidRule, xL_InvalidRule, rfl⟩, sa_InvalidRule, eC_InvalidRule, tC_InvalidRule, kC_InvalidRule⟩
  · exact a_InvalidRule_init
  · exact tI_InvalidRule
  · exact nb_InvalidRule
  · exact ⟨ga_InvalidRule, gg_InvalidRule, eC_InvalidRule, hC_InvalidRule⟩
  · exact ⟨ga_InvalidRule, gg_InvalidRule, eC_InvalidRule, hC_InvalidRule, hA_InvalidRule, hN_InvalidRule, hT_InvalidRule, hM_InvalidRule⟩
  · exact PySem.W.exm_ref eC_InvalidRule hC_InvalidRule tC_InvalidRule sC_InvalidRule
  · exact PySem.W.mg_of X G aC_InvalidOrder
  · exact PySem.W.mg_of X G aC_LeaveError
  · exact GX.kit_ref iL_InvalidOrder tL_InvalidOrder su_InvalidDrawing_InvalidOrder sC_InvalidDrawing
  · exact GX.kit_ref iL_LeaveError tL_LeaveError su_InvalidDrawing_LeaveError sC_InvalidDrawing
  · intro n hn
    simp only [List.mem_cons, List.not_mem_nil, or_false] at hn
    rcases hn with rfl | rfl | rfl | rfl | rfl | rfl
    · exact GX.kit_tyref iL_Room tL_Room sb_NoneType_Room
    · exact GX.kit_tyref iL_Room tL_Room sb_bool_Room
    · exact GX.kit_tyref iL_Room tL_Room sb_int_Room
    · exact GX.kit_tyref iL_Room tL_Room sb_str_Room
    · exact GX.kit_tyref iL_Room tL_Room sb_list_Room
    · exact GX.kit_tyref iL_Room tL_Room sb_tuple_Room
  · exact GX.kit_ref iL_Room tL_Room so_Rule_Room so_Rule_Rule
  · exact GX.kit_ref iL_Room tL_Room so_Room_Room so_Room_Room
  · intro n hn
    simp only [List.mem_cons, List.not_mem_nil, or_false] at hn
    rcases hn with rfl | rfl | rfl | rfl | rfl | rfl
    · exact GX.kit_tyref iL_Rule tL_Rule sb_NoneType_Rule
    · exact GX.kit_tyref iL_Rule tL_Rule sb_bool_Rule
    · exact GX.kit_tyref iL_Rule tL_Rule sb_int_Rule
    · exact GX.kit_tyref iL_Rule tL_Rule sb_str_Rule
    · exact GX.kit_tyref iL_Rule tL_Rule sb_list_Rule
    · exact GX.kit_tyref iL_Rule tL_Rule sb_tuple_Rule
  · exact GX.kit_ref iL_Rule tL_Rule so_Rule_Rule so_Rule_Rule
  · exact GX.kit_ref iL_Rule tL_Rule so_Room_Rule so_Room_Room
  · exact GX.kit_seqref sl_Rule_list sl_Rule_tuple
  · exact GX.kit_seqref sl_Room_list sl_Room_tuple
  · exact GX.kit_refty (by decide +kernel) sl_Rule_tuple
  · exact GX.kit_refty (by decide +kernel) sl_Room_tuple
  · exact fun_mk (st := s_is_int) l_is_int c_is_int k_is_int
  · exact (fun_mk (st := s_is_int) l_is_int c_is_int k_is_int).binds (ps := ["value"]) fun _ _ _ _ _ _ us hl => match us, hl with | [_], _ => rfl
  · exact PySem.W.mg_of X G a_is_int
  · exact fun_mk (st := s_is_index) l_is_index c_is_index k_is_index
  · exact (fun_mk (st := s_is_index) l_is_index c_is_index k_is_index).binds (ps := ["value", "many"]) fun _ _ _ _ _ _ us hl => match us, hl with | [_, _], _ => rfl
  · exact PySem.W.mg_of X G a_is_index
  · exact fun_mk (st := s_is_name) l_is_name c_is_name k_is_name
  · exact (fun_mk (st := s_is_name) l_is_name c_is_name k_is_name).binds (ps := ["value"]) fun _ _ _ _ _ _ us hl => match us, hl with | [_], _ => rfl
  · exact PySem.W.mg_of X G a_is_name
  · exact fun_mk (st := s_is_sequence) l_is_sequence c_is_sequence k_is_sequence
  · exact (fun_mk (st := s_is_sequence) l_is_sequence c_is_sequence k_is_sequence).binds (ps := ["value"]) fun _ _ _ _ _ _ us hl => match us, hl with | [_], _ => rfl
  · exact PySem.W.mg_of X G a_is_sequence
  · exact fun_mk (st := s_are_names) l_are_names c_are_names k_are_names
  · exact (fun_mk (st := s_are_names) l_are_names c_are_names k_are_names).binds (ps := ["value"]) fun _ _ _ _ _ _ us hl => match us, hl with | [_], _ => rfl
  · exact PySem.W.mg_of X G a_are_names
  · exact fun_mk (st := s_are_unlike) l_are_unlike c_are_unlike k_are_unlike
  · exact (fun_mk (st := s_are_unlike) l_are_unlike c_are_unlike k_are_unlike).binds (ps := ["value"]) fun _ _ _ _ _ _ us hl => match us, hl with | [_], _ => rfl
  · exact PySem.W.mg_of X G a_are_unlike
  · exact fun_mk (st := s_lot_of) l_lot_of c_lot_of k_lot_of
  · exact (fun_mk (st := s_lot_of) l_lot_of c_lot_of k_lot_of).binds (ps := ["names"]) fun _ _ _ _ _ _ us hl => match us, hl with | [_], _ => rfl
  · exact PySem.W.mg_of X G a_lot_of
  · exact fun_mk (st := s_bits_of) l_bits_of c_bits_of k_bits_of
  · exact (fun_mk (st := s_bits_of) l_bits_of c_bits_of k_bits_of).binds (ps := ["names", "some"]) fun _ _ _ _ _ _ us hl => match us, hl with | [_, _], _ => rfl
  · exact PySem.W.mg_of X G a_bits_of
  · exact fun_mk (st := s_names_of) l_names_of c_names_of k_names_of
  · exact (fun_mk (st := s_names_of) l_names_of c_names_of k_names_of).binds (ps := ["names", "bits"]) fun _ _ _ _ _ _ us hl => match us, hl with | [_, _], _ => rfl
  · exact PySem.W.mg_of X G a_names_of
  · exact fun_mk (st := s_InvalidRule_init) l_InvalidRule_init c_InvalidRule_init k_InvalidRule_init
  · exact (fun_mk (st := s_InvalidRule_init) l_InvalidRule_init c_InvalidRule_init k_InvalidRule_init).binds (ps := ["self", "word"]) fun _ _ _ _ _ _ us hl => match us, hl with | [_, _], _ => rfl
  · exact fun_mk (st := s_InvalidDrawing_init) l_InvalidDrawing_init c_InvalidDrawing_init k_InvalidDrawing_init
  · exact (fun_mk (st := s_InvalidDrawing_init) l_InvalidDrawing_init c_InvalidDrawing_init k_InvalidDrawing_init).binds (ps := ["self", "at"]) fun _ _ _ _ _ _ us hl => match us, hl with | [_, _], _ => rfl
  · exact (⟨⟨_, _, _, _, _, _, _, _, _, _, rfl, l_Rule_init, c_Rule_init, .inr ⟨by simp, _, _, [.ref e_Rule_init], _, rfl, lT_Rule_init, rfl, .cons rfl .nil⟩, .inl rfl⟩, k_Rule_init⟩ : FunD K _ _ _ _ _ [V.ref e_Rule_init] [] f_Rule_init _)
  · have F := (⟨⟨_, _, _, _, _, _, _, _, _, _, rfl, l_Rule_init, c_Rule_init, .inr ⟨by simp, _, _, [.ref e_Rule_init], _, rfl, lT_Rule_init, rfl, .cons rfl .nil⟩, .inl rfl⟩, k_Rule_init⟩ : FunD K _ _ _ _ _ [V.ref e_Rule_init] [] f_Rule_init _)
    obtain ⟨ds, v, b⟩ := F.binds1 (ps := ["self", "name", "gone"]) 3 1 (by simp) rfl (fun _ _ _ _ _ _ _ us its h1 h2 => by
      match us, h1, its, h2 with
      | [_, _, _], _, [_], _ => exact ⟨_, rfl, rfl⟩)
    cases v
    exact b
  · have F := (⟨⟨_, _, _, _, _, _, _, _, _, _, rfl, l_Rule_init, c_Rule_init, .inr ⟨by simp, _, _, [.ref e_Rule_init], _, rfl, lT_Rule_init, rfl, .cons rfl .nil⟩, .inl rfl⟩, k_Rule_init⟩ : FunD K _ _ _ _ _ [V.ref e_Rule_init] [] f_Rule_init _)
    exact F.binds1 (ps := ["self", "name", "gone"]) 2 0 (by simp) rfl (fun _ _ _ _ _ _ _ us its h1 h2 => by
      match us, h1, its, h2 with
      | [_, _], _, [_], _ => exact ⟨_, rfl, rfl⟩)
  · exact fun M => .inr ⟨_, #[], _, lE_Rule_init, rfl, rfl, Nat.zero_le _, .nil⟩
  · exact fun_mk (st := s_Rule_eq) l_Rule_eq c_Rule_eq k_Rule_eq
  · exact (fun_mk (st := s_Rule_eq) l_Rule_eq c_Rule_eq k_Rule_eq).binds (ps := ["self", "other"]) fun _ _ _ _ _ _ us hl => match us, hl with | [_, _], _ => rfl
  · exact ⟨a_Rule_eq, i_Rule_eq, k_Rule_eq⟩
  · exact fun_mk (st := s_Rule_str) l_Rule_str c_Rule_str k_Rule_str
  · exact (fun_mk (st := s_Rule_str) l_Rule_str c_Rule_str k_Rule_str).binds (ps := ["self"]) fun _ _ _ _ _ _ us hl => match us, hl with | [_], _ => rfl
  · exact ⟨a_Rule_str, i_Rule_str, k_Rule_str⟩
  · exact fun_mk (st := s_read_rule) l_read_rule c_read_rule k_read_rule
  · exact (fun_mk (st := s_read_rule) l_read_rule c_read_rule k_read_rule).binds (ps := ["line"]) fun _ _ _ _ _ _ us hl => match us, hl with | [_], _ => rfl
  · exact PySem.W.mg_of X G a_read_rule
  · exact (⟨⟨_, _, _, _, _, _, _, _, _, _, rfl, l_Room_init, c_Room_init, .inr ⟨by simp, _, _, [.ref e_Room_init], _, rfl, lT_Room_init, rfl, .cons rfl .nil⟩, .inl rfl⟩, k_Room_init⟩ : FunD K _ _ _ _ _ [V.ref e_Room_init] [] f_Room_init _)
  · have F := (⟨⟨_, _, _, _, _, _, _, _, _, _, rfl, l_Room_init, c_Room_init, .inr ⟨by simp, _, _, [.ref e_Room_init], _, rfl, lT_Room_init, rfl, .cons rfl .nil⟩, .inl rfl⟩, k_Room_init⟩ : FunD K _ _ _ _ _ [V.ref e_Room_init] [] f_Room_init _)
    obtain ⟨ds, v, b⟩ := F.binds1 (ps := ["self", "rules"]) 2 1 (by simp) rfl (fun _ _ _ _ _ _ _ us its h1 h2 => by
      match us, h1, its, h2 with
      | [_, _], _, [_], _ => exact ⟨_, rfl, rfl⟩)
    cases v
    exact b
  · have F := (⟨⟨_, _, _, _, _, _, _, _, _, _, rfl, l_Room_init, c_Room_init, .inr ⟨by simp, _, _, [.ref e_Room_init], _, rfl, lT_Room_init, rfl, .cons rfl .nil⟩, .inl rfl⟩, k_Room_init⟩ : FunD K _ _ _ _ _ [V.ref e_Room_init] [] f_Room_init _)
    exact F.binds1 (ps := ["self", "rules"]) 1 0 (by simp) rfl (fun _ _ _ _ _ _ _ us its h1 h2 => by
      match us, h1, its, h2 with
      | [_], _, [_], _ => exact ⟨_, rfl, rfl⟩)
  · exact fun M => .inr ⟨_, #[], _, lE_Room_init, rfl, rfl, Nat.zero_le _, .nil⟩
  · exact fun_mk (st := s_Room_read) l_Room_read c_Room_read k_Room_read
  · exact (fun_mk (st := s_Room_read) l_Room_read c_Room_read k_Room_read).binds (ps := ["cls", "text"]) fun _ _ _ _ _ _ us hl => match us, hl with | [_, _], _ => rfl
  · exact ⟨cmf_Room_read, ⟨_, cmr_Room_read⟩, cmi_Room_read⟩
  · exact ⟨crd_Room, cga_Room⟩
  · exact fun_mk (st := s_Room_without) l_Room_without c_Room_without k_Room_without
  · exact (fun_mk (st := s_Room_without) l_Room_without c_Room_without k_Room_without).binds (ps := ["self", "at"]) fun _ _ _ _ _ _ us hl => match us, hl with | [_, _], _ => rfl
  · exact ⟨a_Room_without, i_Room_without, k_Room_without⟩
  · exact fun_mk (st := s_Room_len) l_Room_len c_Room_len k_Room_len
  · exact (fun_mk (st := s_Room_len) l_Room_len c_Room_len k_Room_len).binds (ps := ["self"]) fun _ _ _ _ _ _ us hl => match us, hl with | [_], _ => rfl
  · exact ⟨a_Room_len, i_Room_len, k_Room_len⟩
  · exact fun_mk (st := s_Room_getitem) l_Room_getitem c_Room_getitem k_Room_getitem
  · exact (fun_mk (st := s_Room_getitem) l_Room_getitem c_Room_getitem k_Room_getitem).binds (ps := ["self", "at"]) fun _ _ _ _ _ _ us hl => match us, hl with | [_, _], _ => rfl
  · exact ⟨a_Room_getitem, i_Room_getitem, k_Room_getitem⟩
  · exact fun_mk (st := s_Room_add) l_Room_add c_Room_add k_Room_add
  · exact (fun_mk (st := s_Room_add) l_Room_add c_Room_add k_Room_add).binds (ps := ["self", "other"]) fun _ _ _ _ _ _ us hl => match us, hl with | [_, _], _ => rfl
  · exact ⟨a_Room_add, i_Room_add, k_Room_add⟩
  · exact fun_mk (st := s_Room_eq) l_Room_eq c_Room_eq k_Room_eq
  · exact (fun_mk (st := s_Room_eq) l_Room_eq c_Room_eq k_Room_eq).binds (ps := ["self", "other"]) fun _ _ _ _ _ _ us hl => match us, hl with | [_, _], _ => rfl
  · exact ⟨a_Room_eq, i_Room_eq, k_Room_eq⟩
  · exact fun_mk (st := s_Room_str) l_Room_str c_Room_str k_Room_str
  · exact (fun_mk (st := s_Room_str) l_Room_str c_Room_str k_Room_str).binds (ps := ["self"]) fun _ _ _ _ _ _ us hl => match us, hl with | [_], _ => rfl
  · exact ⟨a_Room_str, i_Room_str, k_Room_str⟩
  · exact fun_mk (st := s_least_meeting) l_least_meeting c_least_meeting k_least_meeting
  · exact (fun_mk (st := s_least_meeting) l_least_meeting c_least_meeting k_least_meeting).binds (ps := ["parts"]) fun _ _ _ _ _ _ us hl => match us, hl with | [_], _ => rfl
  · exact PySem.W.mg_of X G a_least_meeting
  · exact fun_mk (st := s_ones_of) l_ones_of c_ones_of k_ones_of
  · exact (fun_mk (st := s_ones_of) l_ones_of c_ones_of k_ones_of).binds (ps := ["bits"]) fun _ _ _ _ _ _ us hl => match us, hl with | [_], _ => rfl
  · exact PySem.W.mg_of X G a_ones_of
  · exact fun_mk (st := s_has_one_of) l_has_one_of c_has_one_of k_has_one_of
  · exact (fun_mk (st := s_has_one_of) l_has_one_of c_has_one_of k_has_one_of).binds (ps := ["bits", "lots"]) fun _ _ _ _ _ _ us hl => match us, hl with | [_, _], _ => rfl
  · exact PySem.W.mg_of X G a_has_one_of
  · exact fun_mk (st := s_tree) l_tree c_tree k_tree
  · exact (fun_mk (st := s_tree) l_tree c_tree k_tree).binds (ps := ["edges"]) fun _ _ _ _ _ _ us hl => match us, hl with | [_], _ => rfl
  · exact PySem.W.mg_of X G a_tree
  · exact fun_mk (st := s_taken_down) l_taken_down c_taken_down k_taken_down
  · exact (fun_mk (st := s_taken_down) l_taken_down c_taken_down k_taken_down).binds (ps := ["edges"]) fun _ _ _ _ _ _ us hl => match us, hl with | [_], _ => rfl
  · exact PySem.W.mg_of X G a_taken_down
  · exact fun_mk (st := s_check_edges) l_check_edges c_check_edges k_check_edges
  · exact (fun_mk (st := s_check_edges) l_check_edges c_check_edges k_check_edges).binds (ps := ["edges"]) fun _ _ _ _ _ _ us hl => match us, hl with | [_], _ => rfl
  · exact PySem.W.mg_of X G a_check_edges
  · exact fun_mk (st := s_is_tuple_of) l_is_tuple_of c_is_tuple_of k_is_tuple_of
  · exact (fun_mk (st := s_is_tuple_of) l_is_tuple_of c_is_tuple_of k_is_tuple_of).binds (ps := ["value", "many"]) fun _ _ _ _ _ _ us hl => match us, hl with | [_, _], _ => rfl
  · exact PySem.W.mg_of X G a_is_tuple_of
  · exact fun_mk (st := s_ring_at) l_ring_at c_ring_at k_ring_at
  · exact (fun_mk (st := s_ring_at) l_ring_at c_ring_at k_ring_at).binds (ps := ["edges"]) fun _ _ _ _ _ _ us hl => match us, hl with | [_], _ => rfl
  · exact PySem.W.mg_of X G a_ring_at
  · exact fun_mk (st := s_are_joined) l_are_joined c_are_joined k_are_joined
  · exact (fun_mk (st := s_are_joined) l_are_joined c_are_joined k_are_joined).binds (ps := ["edges", "one", "other"]) fun _ _ _ _ _ _ us hl => match us, hl with | [_, _, _], _ => rfl
  · exact PySem.W.mg_of X G a_are_joined
  · exact fun_mk (st := s_unjoined_beside) l_unjoined_beside c_unjoined_beside k_unjoined_beside
  · exact (fun_mk (st := s_unjoined_beside) l_unjoined_beside c_unjoined_beside k_unjoined_beside).binds (ps := ["edges", "names", "corner"]) fun _ _ _ _ _ _ us hl => match us, hl with | [_, _, _], _ => rfl
  · exact PySem.W.mg_of X G a_unjoined_beside
  · exact fun_mk (st := s_room_kept_by) l_room_kept_by c_room_kept_by k_room_kept_by
  · exact (fun_mk (st := s_room_kept_by) l_room_kept_by c_room_kept_by k_room_kept_by).binds (ps := ["parts"]) fun _ _ _ _ _ _ us hl => match us, hl with | [_], _ => rfl
  · exact PySem.W.mg_of X G a_room_kept_by
  · exact fun_mk (st := s_peeled) l_peeled c_peeled k_peeled
  · exact (fun_mk (st := s_peeled) l_peeled c_peeled k_peeled).binds (ps := ["points"]) fun _ _ _ _ _ _ us hl => match us, hl with | [_], _ => rfl
  · exact PySem.W.mg_of X G a_peeled
  · exact fun_mk (st := s_check_points) l_check_points c_check_points k_check_points
  · exact (fun_mk (st := s_check_points) l_check_points c_check_points k_check_points).binds (ps := ["points"]) fun _ _ _ _ _ _ us hl => match us, hl with | [_], _ => rfl
  · exact PySem.W.mg_of X G a_check_points
  · exact fun_mk (st := s_is_point) l_is_point c_is_point k_is_point
  · exact (fun_mk (st := s_is_point) l_is_point c_is_point k_is_point).binds (ps := ["value"]) fun _ _ _ _ _ _ us hl => match us, hl with | [_], _ => rfl
  · exact PySem.W.mg_of X G a_is_point
  · exact fun_mk (st := s_around) l_around c_around k_around
  · exact (fun_mk (st := s_around) l_around c_around k_around).binds (ps := ["points", "point"]) fun _ _ _ _ _ _ us hl => match us, hl with | [_, _], _ => rfl
  · exact PySem.W.mg_of X G a_around
  · exact fun_mk (st := s_is_between) l_is_between c_is_between k_is_between
  · exact (fun_mk (st := s_is_between) l_is_between c_is_between k_is_between).binds (ps := ["point", "first", "second"]) fun _ _ _ _ _ _ us hl => match us, hl with | [_, _, _], _ => rfl
  · exact PySem.W.mg_of X G a_is_between
  · exact fun_mk (st := s_is_inside) l_is_inside c_is_inside k_is_inside
  · exact (fun_mk (st := s_is_inside) l_is_inside c_is_inside k_is_inside).binds (ps := ["point", "first", "second", "third"]) fun _ _ _ _ _ _ us hl => match us, hl with | [_, _, _, _], _ => rfl
  · exact PySem.W.mg_of X G a_is_inside
  · exact fun_mk (st := s_turn) l_turn c_turn k_turn
  · exact (fun_mk (st := s_turn) l_turn c_turn k_turn).binds (ps := ["point", "first", "second"]) fun _ _ _ _ _ _ us hl => match us, hl with | [_, _, _], _ => rfl
  · exact PySem.W.mg_of X G a_turn
  · exact fun_mk (st := s_opened) l_opened c_opened k_opened
  · exact (fun_mk (st := s_opened) l_opened c_opened k_opened).binds (ps := ["point", "first", "second"]) fun _ _ _ _ _ _ us hl => match us, hl with | [_, _, _], _ => rfl
  · exact PySem.W.mg_of X G a_opened
  · exact fun_mk (st := s_lw_graph) l_lw_graph c_lw_graph k_lw_graph
  · exact (fun_mk (st := s_lw_graph) l_lw_graph c_lw_graph k_lw_graph).binds (ps := ["_law_deal_here", "_law_names_here", "_law_most"]) fun _ _ _ _ _ _ us hl => match us, hl with | [_, _, _], _ => rfl
  · exact PySem.W.mg_of X G a_lw_graph
  · exact fun_mk (st := s_lw_forest) l_lw_forest c_lw_forest k_lw_forest
  · exact (fun_mk (st := s_lw_forest) l_lw_forest c_lw_forest k_lw_forest).binds (ps := ["_law_deal_here", "_law_names_here"]) fun _ _ _ _ _ _ us hl => match us, hl with | [_, _], _ => rfl
  · exact PySem.W.mg_of X G a_lw_forest
  · exact fun_mk (st := s_lw_points) l_lw_points c_lw_points k_lw_points
  · exact (fun_mk (st := s_lw_points) l_lw_points c_lw_points k_lw_points).binds (ps := ["_law_deal_here", "_law_bound", "_law_wide"]) fun _ _ _ _ _ _ us hl => match us, hl with | [_, _, _], _ => rfl
  · exact PySem.W.mg_of X G a_lw_points
  · exact fun_mk (st := s_lw_refused) l_lw_refused c_lw_refused k_lw_refused
  · exact (fun_mk (st := s_lw_refused) l_lw_refused c_lw_refused k_lw_refused).binds (ps := ["_law_form", "_law_value"]) fun _ _ _ _ _ _ us hl => match us, hl with | [_, _], _ => rfl
  · exact PySem.W.mg_of X G a_lw_refused
  · exact fun_mk (st := s_lw_closing) l_lw_closing c_lw_closing k_lw_closing
  · exact (fun_mk (st := s_lw_closing) l_lw_closing c_lw_closing k_lw_closing).binds (ps := ["_law_edges"]) fun _ _ _ _ _ _ us hl => match us, hl with | [_], _ => rfl
  · exact PySem.W.mg_of X G a_lw_closing
  · exact fun_mk (st := s_lw_odd) l_lw_odd c_lw_odd k_lw_odd
  · exact (fun_mk (st := s_lw_odd) l_lw_odd c_lw_odd k_lw_odd).binds (ps := ["_law_deal_here", "_law_form"]) fun _ _ _ _ _ _ us hl => match us, hl with | [_, _], _ => rfl
  · exact PySem.W.mg_of X G a_lw_odd
  · exact fun_mk (st := s_lw_deal) l_lw_deal c_lw_deal k_lw_deal
  · exact (fun_mk (st := s_lw_deal) l_lw_deal c_lw_deal k_lw_deal).binds (ps := ["_law_script", "_law_base"]) fun _ _ _ _ _ _ us hl => match us, hl with | [_, _], _ => rfl
  · exact PySem.W.mg_of X G a_lw_deal
  · exact fun_mk (st := s_lw_draw) l_lw_draw c_lw_draw k_lw_draw
  · exact (fun_mk (st := s_lw_draw) l_lw_draw c_lw_draw k_lw_draw).binds (ps := ["_law_deal_here", "_law_bound"]) fun _ _ _ _ _ _ us hl => match us, hl with | [_, _], _ => rfl
  · exact PySem.W.mg_of X G a_lw_draw
  · exact fun_mk (st := s_lw_pick) l_lw_pick c_lw_pick k_lw_pick
  · exact (fun_mk (st := s_lw_pick) l_lw_pick c_lw_pick k_lw_pick).binds (ps := ["_law_deal_here", "_law_some"]) fun _ _ _ _ _ _ us hl => match us, hl with | [_, _], _ => rfl
  · exact PySem.W.mg_of X G a_lw_pick
  · exact fun_mk (st := s_lw_mixed) l_lw_mixed c_lw_mixed k_lw_mixed
  · exact (fun_mk (st := s_lw_mixed) l_lw_mixed c_lw_mixed k_lw_mixed).binds (ps := ["_law_deal_here", "_law_some"]) fun _ _ _ _ _ _ us hl => match us, hl with | [_, _], _ => rfl
  · exact PySem.W.mg_of X G a_lw_mixed
  · exact fun_mk (st := s_lw_names) l_lw_names c_lw_names k_lw_names
  · exact (fun_mk (st := s_lw_names) l_lw_names c_lw_names k_lw_names).binds (ps := ["_law_deal_here", "_law_bound"]) fun _ _ _ _ _ _ us hl => match us, hl with | [_, _], _ => rfl
  · exact PySem.W.mg_of X G a_lw_names
  · exact fun_mk (st := s_lw_main) l_lw_main c_lw_main k_lw_main
  · exact (fun_mk (st := s_lw_main) l_lw_main c_lw_main k_lw_main).binds (ps := ["_law_script"]) fun _ _ _ _ _ _ us hl => match us, hl with | [_], _ => rfl
  · exact PySem.W.mg_of X G a_lw_main
  · exact PySem.W.mg_none_of X G n_abs
  · exact PySem.W.mg_none_of X G n_all
  · exact PySem.W.mg_none_of X G n_any
  · exact PySem.W.mg_none_of X G n_bool
  · exact PySem.W.mg_none_of X G n_enumerate
  · exact PySem.W.mg_none_of X G n_int
  · exact PySem.W.mg_none_of X G n_isinstance
  · exact PySem.W.mg_none_of X G n_len
  · exact PySem.W.mg_none_of X G n_list
  · exact PySem.W.mg_none_of X G n_max
  · exact PySem.W.mg_none_of X G n_min
  · exact PySem.W.mg_none_of X G n_range
  · exact PySem.W.mg_none_of X G n_repr
  · exact PySem.W.mg_none_of X G n_set
  · exact PySem.W.mg_none_of X G n_sorted
  · exact PySem.W.mg_none_of X G n_str
  · exact PySem.W.mg_none_of X G n_sum
  · exact PySem.W.mg_none_of X G n_tuple
  · exact ⟨_, PySem.W.mg_of X G m_LETTERS, _, rfl⟩
theorem law_at {l : PySem.W.OpenLaw} {w : World} {K : PySem.W.Frag} {h : Heap} {mg : Str → Option Value} {fa : Addr} (X : K.In h) (G : h.Ns mainGlobals mg) (hfa : mg "law" = some (.ref fa))
    {C_Rule : Addr}
    {C_Room : Addr}
    {C_InvalidDrawing R0_InvalidDrawing : Addr} {nm_InvalidDrawing q_InvalidDrawing : Str} {N_InvalidDrawing : Addr} {bs_InvalidDrawing : List Value} {sn_InvalidDrawing : List Str} {sub_InvalidDrawing : List Value} {ab_InvalidDrawing : Bool} {col_InvalidDrawing : Option Bool} {dd_InvalidDrawing : Option Addr} {m0_InvalidDrawing m1_InvalidDrawing m2_InvalidDrawing m3_InvalidDrawing m5_InvalidDrawing : Option Value}
    {C_InvalidRule R0_InvalidRule : Addr} {nm_InvalidRule q_InvalidRule : Str} {N_InvalidRule : Addr} {bs_InvalidRule : List Value} {sn_InvalidRule : List Str} {sub_InvalidRule : List Value} {ab_InvalidRule : Bool} {col_InvalidRule : Option Bool} {dd_InvalidRule : Option Addr} {m0_InvalidRule m1_InvalidRule m2_InvalidRule m3_InvalidRule m5_InvalidRule : Option Value}
    {C_InvalidOrder : Addr}
    {C_LeaveError : Addr}
    {f_is_int : Addr} {od_is_int an_is_int : Option Addr} {sl_is_int : Array (Option Value)} {oc_is_int kV_is_int dc_is_int pm_is_int cd_is_int ct_is_int : Value}
    {f_is_index : Addr} {od_is_index an_is_index : Option Addr} {sl_is_index : Array (Option Value)} {oc_is_index kV_is_index dc_is_index pm_is_index cd_is_index ct_is_index : Value}
    {f_is_name : Addr} {od_is_name an_is_name : Option Addr} {sl_is_name : Array (Option Value)} {oc_is_name kV_is_name dc_is_name pm_is_name cd_is_name ct_is_name : Value}
    {f_is_sequence : Addr} {od_is_sequence an_is_sequence : Option Addr} {sl_is_sequence : Array (Option Value)} {oc_is_sequence kV_is_sequence dc_is_sequence pm_is_sequence cd_is_sequence ct_is_sequence : Value}
    {f_are_names : Addr} {od_are_names an_are_names : Option Addr} {sl_are_names : Array (Option Value)} {oc_are_names kV_are_names dc_are_names pm_are_names cd_are_names ct_are_names : Value}
    {f_are_unlike : Addr} {od_are_unlike an_are_unlike : Option Addr} {sl_are_unlike : Array (Option Value)} {oc_are_unlike kV_are_unlike dc_are_unlike pm_are_unlike cd_are_unlike ct_are_unlike : Value}
    {f_lot_of : Addr} {od_lot_of an_lot_of : Option Addr} {sl_lot_of : Array (Option Value)} {oc_lot_of kV_lot_of dc_lot_of pm_lot_of cd_lot_of ct_lot_of : Value}
    {f_bits_of : Addr} {od_bits_of an_bits_of : Option Addr} {sl_bits_of : Array (Option Value)} {oc_bits_of kV_bits_of dc_bits_of pm_bits_of cd_bits_of ct_bits_of : Value}
    {f_names_of : Addr} {od_names_of an_names_of : Option Addr} {sl_names_of : Array (Option Value)} {oc_names_of kV_names_of dc_names_of pm_names_of cd_names_of ct_names_of : Value}
    {f_InvalidRule_init : Addr} {od_InvalidRule_init an_InvalidRule_init : Option Addr} {sl_InvalidRule_init : Array (Option Value)} {oc_InvalidRule_init kV_InvalidRule_init dc_InvalidRule_init pm_InvalidRule_init cd_InvalidRule_init ct_InvalidRule_init : Value}
    {f_InvalidDrawing_init : Addr} {od_InvalidDrawing_init an_InvalidDrawing_init : Option Addr} {sl_InvalidDrawing_init : Array (Option Value)} {oc_InvalidDrawing_init kV_InvalidDrawing_init dc_InvalidDrawing_init pm_InvalidDrawing_init cd_InvalidDrawing_init ct_InvalidDrawing_init : Value}
    {f_Rule_init : Addr} {od_Rule_init an_Rule_init : Option Addr} {sl_Rule_init : Array (Option Value)} {oc_Rule_init kV_Rule_init dc_Rule_init pm_Rule_init cd_Rule_init ct_Rule_init : Value}
    {T_Rule_init e_Rule_init : Addr} {oT_Rule_init : Value} {dT_Rule_init dE_Rule_init : Option Addr} {nT_Rule_init nE_Rule_init : Nat} {sT_Rule_init sE_Rule_init : Array (Option Value)}
    {f_Rule_eq : Addr} {od_Rule_eq an_Rule_eq : Option Addr} {sl_Rule_eq : Array (Option Value)} {oc_Rule_eq kV_Rule_eq dc_Rule_eq pm_Rule_eq cd_Rule_eq ct_Rule_eq : Value}
    {f_Rule_str : Addr} {od_Rule_str an_Rule_str : Option Addr} {sl_Rule_str : Array (Option Value)} {oc_Rule_str kV_Rule_str dc_Rule_str pm_Rule_str cd_Rule_str ct_Rule_str : Value}
    {f_read_rule : Addr} {od_read_rule an_read_rule : Option Addr} {sl_read_rule : Array (Option Value)} {oc_read_rule kV_read_rule dc_read_rule pm_read_rule cd_read_rule ct_read_rule : Value}
    {f_Room_init : Addr} {od_Room_init an_Room_init : Option Addr} {sl_Room_init : Array (Option Value)} {oc_Room_init kV_Room_init dc_Room_init pm_Room_init cd_Room_init ct_Room_init : Value}
    {T_Room_init e_Room_init : Addr} {oT_Room_init : Value} {dT_Room_init dE_Room_init : Option Addr} {nT_Room_init nE_Room_init : Nat} {sT_Room_init sE_Room_init : Array (Option Value)}
    {f_Room_read : Addr} {od_Room_read an_Room_read : Option Addr} {sl_Room_read : Array (Option Value)} {oc_Room_read kV_Room_read dc_Room_read pm_Room_read cd_Room_read ct_Room_read : Value}
    {p_Room_read : Addr} {pr_Room_read : List Value}
    {f_Room_without : Addr} {od_Room_without an_Room_without : Option Addr} {sl_Room_without : Array (Option Value)} {oc_Room_without kV_Room_without dc_Room_without pm_Room_without cd_Room_without ct_Room_without : Value}
    {f_Room_len : Addr} {od_Room_len an_Room_len : Option Addr} {sl_Room_len : Array (Option Value)} {oc_Room_len kV_Room_len dc_Room_len pm_Room_len cd_Room_len ct_Room_len : Value}
    {f_Room_getitem : Addr} {od_Room_getitem an_Room_getitem : Option Addr} {sl_Room_getitem : Array (Option Value)} {oc_Room_getitem kV_Room_getitem dc_Room_getitem pm_Room_getitem cd_Room_getitem ct_Room_getitem : Value}
    {f_Room_add : Addr} {od_Room_add an_Room_add : Option Addr} {sl_Room_add : Array (Option Value)} {oc_Room_add kV_Room_add dc_Room_add pm_Room_add cd_Room_add ct_Room_add : Value}
    {f_Room_eq : Addr} {od_Room_eq an_Room_eq : Option Addr} {sl_Room_eq : Array (Option Value)} {oc_Room_eq kV_Room_eq dc_Room_eq pm_Room_eq cd_Room_eq ct_Room_eq : Value}
    {f_Room_str : Addr} {od_Room_str an_Room_str : Option Addr} {sl_Room_str : Array (Option Value)} {oc_Room_str kV_Room_str dc_Room_str pm_Room_str cd_Room_str ct_Room_str : Value}
    {f_least_meeting : Addr} {od_least_meeting an_least_meeting : Option Addr} {sl_least_meeting : Array (Option Value)} {oc_least_meeting kV_least_meeting dc_least_meeting pm_least_meeting cd_least_meeting ct_least_meeting : Value}
    {f_ones_of : Addr} {od_ones_of an_ones_of : Option Addr} {sl_ones_of : Array (Option Value)} {oc_ones_of kV_ones_of dc_ones_of pm_ones_of cd_ones_of ct_ones_of : Value}
    {f_has_one_of : Addr} {od_has_one_of an_has_one_of : Option Addr} {sl_has_one_of : Array (Option Value)} {oc_has_one_of kV_has_one_of dc_has_one_of pm_has_one_of cd_has_one_of ct_has_one_of : Value}
    {f_tree : Addr} {od_tree an_tree : Option Addr} {sl_tree : Array (Option Value)} {oc_tree kV_tree dc_tree pm_tree cd_tree ct_tree : Value}
    {f_taken_down : Addr} {od_taken_down an_taken_down : Option Addr} {sl_taken_down : Array (Option Value)} {oc_taken_down kV_taken_down dc_taken_down pm_taken_down cd_taken_down ct_taken_down : Value}
    {f_check_edges : Addr} {od_check_edges an_check_edges : Option Addr} {sl_check_edges : Array (Option Value)} {oc_check_edges kV_check_edges dc_check_edges pm_check_edges cd_check_edges ct_check_edges : Value}
    {f_is_tuple_of : Addr} {od_is_tuple_of an_is_tuple_of : Option Addr} {sl_is_tuple_of : Array (Option Value)} {oc_is_tuple_of kV_is_tuple_of dc_is_tuple_of pm_is_tuple_of cd_is_tuple_of ct_is_tuple_of : Value}
    {f_ring_at : Addr} {od_ring_at an_ring_at : Option Addr} {sl_ring_at : Array (Option Value)} {oc_ring_at kV_ring_at dc_ring_at pm_ring_at cd_ring_at ct_ring_at : Value}
    {f_are_joined : Addr} {od_are_joined an_are_joined : Option Addr} {sl_are_joined : Array (Option Value)} {oc_are_joined kV_are_joined dc_are_joined pm_are_joined cd_are_joined ct_are_joined : Value}
    {f_unjoined_beside : Addr} {od_unjoined_beside an_unjoined_beside : Option Addr} {sl_unjoined_beside : Array (Option Value)} {oc_unjoined_beside kV_unjoined_beside dc_unjoined_beside pm_unjoined_beside cd_unjoined_beside ct_unjoined_beside : Value}
    {f_room_kept_by : Addr} {od_room_kept_by an_room_kept_by : Option Addr} {sl_room_kept_by : Array (Option Value)} {oc_room_kept_by kV_room_kept_by dc_room_kept_by pm_room_kept_by cd_room_kept_by ct_room_kept_by : Value}
    {f_peeled : Addr} {od_peeled an_peeled : Option Addr} {sl_peeled : Array (Option Value)} {oc_peeled kV_peeled dc_peeled pm_peeled cd_peeled ct_peeled : Value}
    {f_check_points : Addr} {od_check_points an_check_points : Option Addr} {sl_check_points : Array (Option Value)} {oc_check_points kV_check_points dc_check_points pm_check_points cd_check_points ct_check_points : Value}
    {f_is_point : Addr} {od_is_point an_is_point : Option Addr} {sl_is_point : Array (Option Value)} {oc_is_point kV_is_point dc_is_point pm_is_point cd_is_point ct_is_point : Value}
    {f_around : Addr} {od_around an_around : Option Addr} {sl_around : Array (Option Value)} {oc_around kV_around dc_around pm_around cd_around ct_around : Value}
    {f_is_between : Addr} {od_is_between an_is_between : Option Addr} {sl_is_between : Array (Option Value)} {oc_is_between kV_is_between dc_is_between pm_is_between cd_is_between ct_is_between : Value}
    {f_is_inside : Addr} {od_is_inside an_is_inside : Option Addr} {sl_is_inside : Array (Option Value)} {oc_is_inside kV_is_inside dc_is_inside pm_is_inside cd_is_inside ct_is_inside : Value}
    {f_turn : Addr} {od_turn an_turn : Option Addr} {sl_turn : Array (Option Value)} {oc_turn kV_turn dc_turn pm_turn cd_turn ct_turn : Value}
    {f_opened : Addr} {od_opened an_opened : Option Addr} {sl_opened : Array (Option Value)} {oc_opened kV_opened dc_opened pm_opened cd_opened ct_opened : Value}
    {f_lw_graph : Addr} {od_lw_graph an_lw_graph : Option Addr} {sl_lw_graph : Array (Option Value)} {oc_lw_graph kV_lw_graph dc_lw_graph pm_lw_graph cd_lw_graph ct_lw_graph : Value}
    {f_lw_forest : Addr} {od_lw_forest an_lw_forest : Option Addr} {sl_lw_forest : Array (Option Value)} {oc_lw_forest kV_lw_forest dc_lw_forest pm_lw_forest cd_lw_forest ct_lw_forest : Value}
    {f_lw_points : Addr} {od_lw_points an_lw_points : Option Addr} {sl_lw_points : Array (Option Value)} {oc_lw_points kV_lw_points dc_lw_points pm_lw_points cd_lw_points ct_lw_points : Value}
    {f_lw_refused : Addr} {od_lw_refused an_lw_refused : Option Addr} {sl_lw_refused : Array (Option Value)} {oc_lw_refused kV_lw_refused dc_lw_refused pm_lw_refused cd_lw_refused ct_lw_refused : Value}
    {f_lw_closing : Addr} {od_lw_closing an_lw_closing : Option Addr} {sl_lw_closing : Array (Option Value)} {oc_lw_closing kV_lw_closing dc_lw_closing pm_lw_closing cd_lw_closing ct_lw_closing : Value}
    {f_lw_odd : Addr} {od_lw_odd an_lw_odd : Option Addr} {sl_lw_odd : Array (Option Value)} {oc_lw_odd kV_lw_odd dc_lw_odd pm_lw_odd cd_lw_odd ct_lw_odd : Value}
    {f_lw_deal : Addr} {od_lw_deal an_lw_deal : Option Addr} {sl_lw_deal : Array (Option Value)} {oc_lw_deal kV_lw_deal dc_lw_deal pm_lw_deal cd_lw_deal ct_lw_deal : Value}
    {f_lw_draw : Addr} {od_lw_draw an_lw_draw : Option Addr} {sl_lw_draw : Array (Option Value)} {oc_lw_draw kV_lw_draw dc_lw_draw pm_lw_draw cd_lw_draw ct_lw_draw : Value}
    {f_lw_pick : Addr} {od_lw_pick an_lw_pick : Option Addr} {sl_lw_pick : Array (Option Value)} {oc_lw_pick kV_lw_pick dc_lw_pick pm_lw_pick cd_lw_pick ct_lw_pick : Value}
    {f_lw_mixed : Addr} {od_lw_mixed an_lw_mixed : Option Addr} {sl_lw_mixed : Array (Option Value)} {oc_lw_mixed kV_lw_mixed dc_lw_mixed pm_lw_mixed cd_lw_mixed ct_lw_mixed : Value}
    {f_lw_names : Addr} {od_lw_names an_lw_names : Option Addr} {sl_lw_names : Array (Option Value)} {oc_lw_names kV_lw_names dc_lw_names pm_lw_names cd_lw_names ct_lw_names : Value}
    {f_lw_main : Addr} {od_lw_main an_lw_main : Option Addr} {sl_lw_main : Array (Option Value)} {oc_lw_main kV_lw_main dc_lw_main pm_lw_main cd_lw_main ct_lw_main : Value}
    {tk_LETTERS : Tok}
    (aC_Rule : PySem.W.nsIn K mainGlobals "Rule" = some (some (.ref C_Rule)))
    (pg_Rule : PySem.W.plainGet K C_Rule Str.empty = true)
    (hd_Rule : PySem.W.hasDictIn K C_Rule = true)
    (po_Rule : PySem.W.plainOver K C_Rule = true)
    (sa_Rule : PySem.W.findIn K (.ref C_Rule) "__setattr__" = some (some (.builtin "object.__setattr__")))
    (mk_Rule : PySem.W.makesIn K C_Rule = true)
    (kc_Rule : PySem.W.keepIn K (.ref C_Rule) = true)
    (no_Rule_name : PySem.W.findIn K (.ref C_Rule) "name" = some none)
    (no_Rule_gone : PySem.W.findIn K (.ref C_Rule) "gone" = some none)
    (ha_Rule : PySem.W.findIn K (.ref C_Rule) "__class__" = some (some (.builtin "object.__class__")))
    (hn_Rule : PySem.W.specialIn K (.builtin "object.__class__") "__get__" = some (some (.builtin "getset_descriptor.__get__")))
    (htk_Rule : PySem.W.takesIn K (.builtin "object.__class__") = some true)
    (hm_Rule : PySem.W.mroIn K C_Rule (.type "object") = some true)
    (nd_Rule : PySem.W.findIn K (.ref C_Rule) "__ne__" = some (some (.builtin "object.__ne__")))
    (sx_Rule : PySem.W.subIn K (.type "str") (.ref C_Rule) = some false)
    (aC_Room : PySem.W.nsIn K mainGlobals "Room" = some (some (.ref C_Room)))
    (pg_Room : PySem.W.plainGet K C_Room Str.empty = true)
    (hd_Room : PySem.W.hasDictIn K C_Room = true)
    (po_Room : PySem.W.plainOver K C_Room = true)
    (sa_Room : PySem.W.findIn K (.ref C_Room) "__setattr__" = some (some (.builtin "object.__setattr__")))
    (mk_Room : PySem.W.makesIn K C_Room = true)
    (kc_Room : PySem.W.keepIn K (.ref C_Room) = true)
    (no_Room_rules : PySem.W.findIn K (.ref C_Room) "rules" = some none)
    (no_Room_names : PySem.W.findIn K (.ref C_Room) "names" = some none)
    (ha_Room : PySem.W.findIn K (.ref C_Room) "__class__" = some (some (.builtin "object.__class__")))
    (hn_Room : PySem.W.specialIn K (.builtin "object.__class__") "__get__" = some (some (.builtin "getset_descriptor.__get__")))
    (htk_Room : PySem.W.takesIn K (.builtin "object.__class__") = some true)
    (hm_Room : PySem.W.mroIn K C_Room (.type "object") = some true)
    (aC_InvalidDrawing : PySem.W.nsIn K mainGlobals "InvalidDrawing" = some (some (.ref C_InvalidDrawing)))
    (xL_InvalidDrawing : K.lookup C_InvalidDrawing = some (excClassObj nm_InvalidDrawing q_InvalidDrawing C_InvalidDrawing N_InvalidDrawing bs_InvalidDrawing [.ref R0_InvalidDrawing, .type "ValueError", .type "Exception", .type "BaseException", .type "object"] true sn_InvalidDrawing sub_InvalidDrawing ab_InvalidDrawing col_InvalidDrawing dd_InvalidDrawing m0_InvalidDrawing m1_InvalidDrawing m2_InvalidDrawing m3_InvalidDrawing m5_InvalidDrawing "ValueError.__new__"))
    (aC_InvalidRule : PySem.W.nsIn K mainGlobals "InvalidRule" = some (some (.ref C_InvalidRule)))
    (xL_InvalidRule : K.lookup C_InvalidRule = some (excClassObj nm_InvalidRule q_InvalidRule C_InvalidRule N_InvalidRule bs_InvalidRule [.ref R0_InvalidRule, .type "ValueError", .type "Exception", .type "BaseException", .type "object"] true sn_InvalidRule sub_InvalidRule ab_InvalidRule col_InvalidRule dd_InvalidRule m0_InvalidRule m1_InvalidRule m2_InvalidRule m3_InvalidRule m5_InvalidRule "ValueError.__new__"))
    (aC_InvalidOrder : PySem.W.nsIn K mainGlobals "InvalidOrder" = some (some (.ref C_InvalidOrder)))
    (aC_LeaveError : PySem.W.nsIn K mainGlobals "LeaveError" = some (some (.ref C_LeaveError)))
    (su_InvalidDrawing_InvalidOrder : PySem.W.subIn K (.ref C_InvalidDrawing) (.ref C_InvalidOrder) = some false)
    (su_InvalidDrawing_LeaveError : PySem.W.subIn K (.ref C_InvalidDrawing) (.ref C_LeaveError) = some true)
    (sb_NoneType_Room : PySem.W.subIn K (.type "NoneType") (.ref C_Room) = some false)
    (sb_bool_Room : PySem.W.subIn K (.type "bool") (.ref C_Room) = some false)
    (sb_int_Room : PySem.W.subIn K (.type "int") (.ref C_Room) = some false)
    (sb_str_Room : PySem.W.subIn K (.type "str") (.ref C_Room) = some false)
    (sb_list_Room : PySem.W.subIn K (.type "list") (.ref C_Room) = some false)
    (sb_tuple_Room : PySem.W.subIn K (.type "tuple") (.ref C_Room) = some false)
    (so_Rule_Room : PySem.W.subIn K (.ref C_Rule) (.ref C_Room) = some false)
    (so_Room_Room : PySem.W.subIn K (.ref C_Room) (.ref C_Room) = some true)
    (sb_NoneType_Rule : PySem.W.subIn K (.type "NoneType") (.ref C_Rule) = some false)
    (sb_bool_Rule : PySem.W.subIn K (.type "bool") (.ref C_Rule) = some false)
    (sb_int_Rule : PySem.W.subIn K (.type "int") (.ref C_Rule) = some false)
    (sb_str_Rule : PySem.W.subIn K (.type "str") (.ref C_Rule) = some false)
    (sb_list_Rule : PySem.W.subIn K (.type "list") (.ref C_Rule) = some false)
    (sb_tuple_Rule : PySem.W.subIn K (.type "tuple") (.ref C_Rule) = some false)
    (so_Rule_Rule : PySem.W.subIn K (.ref C_Rule) (.ref C_Rule) = some true)
    (so_Room_Rule : PySem.W.subIn K (.ref C_Room) (.ref C_Rule) = some false)
    (sl_Rule_list : PySem.W.subIn K (.ref C_Rule) (.type "list") = some false)
    (sl_Rule_tuple : PySem.W.subIn K (.ref C_Rule) (.type "tuple") = some false)
    (sl_Room_list : PySem.W.subIn K (.ref C_Room) (.type "list") = some false)
    (sl_Room_tuple : PySem.W.subIn K (.ref C_Room) (.type "tuple") = some false)
    (iL_InvalidOrder : PySem.W.isClsIn K C_InvalidOrder = true)
    (tL_InvalidOrder : PySem.W.typeIn K (.ref C_InvalidOrder) = some (.type "type"))
    (iL_LeaveError : PySem.W.isClsIn K C_LeaveError = true)
    (tL_LeaveError : PySem.W.typeIn K (.ref C_LeaveError) = some (.type "type"))
    (iL_Room : PySem.W.isClsIn K C_Room = true)
    (tL_Room : PySem.W.typeIn K (.ref C_Room) = some (.type "type"))
    (iL_Rule : PySem.W.isClsIn K C_Rule = true)
    (tL_Rule : PySem.W.typeIn K (.ref C_Rule) = some (.type "type"))
    (a_is_int : PySem.W.nsIn K mainGlobals "is_int" = some (some (.ref f_is_int)))
    (l_is_int : K.lookup f_is_int = some ⟨oc_is_int, od_is_int, .func (PySem.W.fnOf "is_int" "is_int" (defArgs s_is_int) (defBody s_is_int) (defScope s_is_int) .none kV_is_int dc_is_int pm_is_int an_is_int cd_is_int ct_is_int), sl_is_int⟩)
    (c_is_int : PySem.W.codeIn K cd_is_int "is_int" = true)
    (k_is_int : PySem.W.keepIn K (.ref f_is_int) = true)
    (a_is_index : PySem.W.nsIn K mainGlobals "is_index" = some (some (.ref f_is_index)))
    (l_is_index : K.lookup f_is_index = some ⟨oc_is_index, od_is_index, .func (PySem.W.fnOf "is_index" "is_index" (defArgs s_is_index) (defBody s_is_index) (defScope s_is_index) .none kV_is_index dc_is_index pm_is_index an_is_index cd_is_index ct_is_index), sl_is_index⟩)
    (c_is_index : PySem.W.codeIn K cd_is_index "is_index" = true)
    (k_is_index : PySem.W.keepIn K (.ref f_is_index) = true)
    (a_is_name : PySem.W.nsIn K mainGlobals "is_name" = some (some (.ref f_is_name)))
    (l_is_name : K.lookup f_is_name = some ⟨oc_is_name, od_is_name, .func (PySem.W.fnOf "is_name" "is_name" (defArgs s_is_name) (defBody s_is_name) (defScope s_is_name) .none kV_is_name dc_is_name pm_is_name an_is_name cd_is_name ct_is_name), sl_is_name⟩)
    (c_is_name : PySem.W.codeIn K cd_is_name "is_name" = true)
    (k_is_name : PySem.W.keepIn K (.ref f_is_name) = true)
    (a_is_sequence : PySem.W.nsIn K mainGlobals "is_sequence" = some (some (.ref f_is_sequence)))
    (l_is_sequence : K.lookup f_is_sequence = some ⟨oc_is_sequence, od_is_sequence, .func (PySem.W.fnOf "is_sequence" "is_sequence" (defArgs s_is_sequence) (defBody s_is_sequence) (defScope s_is_sequence) .none kV_is_sequence dc_is_sequence pm_is_sequence an_is_sequence cd_is_sequence ct_is_sequence), sl_is_sequence⟩)
    (c_is_sequence : PySem.W.codeIn K cd_is_sequence "is_sequence" = true)
    (k_is_sequence : PySem.W.keepIn K (.ref f_is_sequence) = true)
    (a_are_names : PySem.W.nsIn K mainGlobals "are_names" = some (some (.ref f_are_names)))
    (l_are_names : K.lookup f_are_names = some ⟨oc_are_names, od_are_names, .func (PySem.W.fnOf "are_names" "are_names" (defArgs s_are_names) (defBody s_are_names) (defScope s_are_names) .none kV_are_names dc_are_names pm_are_names an_are_names cd_are_names ct_are_names), sl_are_names⟩)
    (c_are_names : PySem.W.codeIn K cd_are_names "are_names" = true)
    (k_are_names : PySem.W.keepIn K (.ref f_are_names) = true)
    (a_are_unlike : PySem.W.nsIn K mainGlobals "are_unlike" = some (some (.ref f_are_unlike)))
    (l_are_unlike : K.lookup f_are_unlike = some ⟨oc_are_unlike, od_are_unlike, .func (PySem.W.fnOf "are_unlike" "are_unlike" (defArgs s_are_unlike) (defBody s_are_unlike) (defScope s_are_unlike) .none kV_are_unlike dc_are_unlike pm_are_unlike an_are_unlike cd_are_unlike ct_are_unlike), sl_are_unlike⟩)
    (c_are_unlike : PySem.W.codeIn K cd_are_unlike "are_unlike" = true)
    (k_are_unlike : PySem.W.keepIn K (.ref f_are_unlike) = true)
    (a_lot_of : PySem.W.nsIn K mainGlobals "lot_of" = some (some (.ref f_lot_of)))
    (l_lot_of : K.lookup f_lot_of = some ⟨oc_lot_of, od_lot_of, .func (PySem.W.fnOf "lot_of" "lot_of" (defArgs s_lot_of) (defBody s_lot_of) (defScope s_lot_of) .none kV_lot_of dc_lot_of pm_lot_of an_lot_of cd_lot_of ct_lot_of), sl_lot_of⟩)
    (c_lot_of : PySem.W.codeIn K cd_lot_of "lot_of" = true)
    (k_lot_of : PySem.W.keepIn K (.ref f_lot_of) = true)
    (a_bits_of : PySem.W.nsIn K mainGlobals "bits_of" = some (some (.ref f_bits_of)))
    (l_bits_of : K.lookup f_bits_of = some ⟨oc_bits_of, od_bits_of, .func (PySem.W.fnOf "bits_of" "bits_of" (defArgs s_bits_of) (defBody s_bits_of) (defScope s_bits_of) .none kV_bits_of dc_bits_of pm_bits_of an_bits_of cd_bits_of ct_bits_of), sl_bits_of⟩)
    (c_bits_of : PySem.W.codeIn K cd_bits_of "bits_of" = true)
    (k_bits_of : PySem.W.keepIn K (.ref f_bits_of) = true)
    (a_names_of : PySem.W.nsIn K mainGlobals "names_of" = some (some (.ref f_names_of)))
    (l_names_of : K.lookup f_names_of = some ⟨oc_names_of, od_names_of, .func (PySem.W.fnOf "names_of" "names_of" (defArgs s_names_of) (defBody s_names_of) (defScope s_names_of) .none kV_names_of dc_names_of pm_names_of an_names_of cd_names_of ct_names_of), sl_names_of⟩)
    (c_names_of : PySem.W.codeIn K cd_names_of "names_of" = true)
    (k_names_of : PySem.W.keepIn K (.ref f_names_of) = true)
    (a_InvalidRule_init : PySem.W.findIn K (.ref C_InvalidRule) "__init__" = some (some (.ref f_InvalidRule_init)))
    (l_InvalidRule_init : K.lookup f_InvalidRule_init = some ⟨oc_InvalidRule_init, od_InvalidRule_init, .func (PySem.W.fnOf "__init__" "InvalidRule.__init__" (defArgs s_InvalidRule_init) (defBody s_InvalidRule_init) (defScope s_InvalidRule_init) .none kV_InvalidRule_init dc_InvalidRule_init pm_InvalidRule_init an_InvalidRule_init cd_InvalidRule_init ct_InvalidRule_init), sl_InvalidRule_init⟩)
    (c_InvalidRule_init : PySem.W.codeIn K cd_InvalidRule_init "InvalidRule.__init__" = true)
    (k_InvalidRule_init : PySem.W.keepIn K (.ref f_InvalidRule_init) = true)
    (a_InvalidDrawing_init : PySem.W.findIn K (.ref C_InvalidDrawing) "__init__" = some (some (.ref f_InvalidDrawing_init)))
    (l_InvalidDrawing_init : K.lookup f_InvalidDrawing_init = some ⟨oc_InvalidDrawing_init, od_InvalidDrawing_init, .func (PySem.W.fnOf "__init__" "InvalidDrawing.__init__" (defArgs s_InvalidDrawing_init) (defBody s_InvalidDrawing_init) (defScope s_InvalidDrawing_init) .none kV_InvalidDrawing_init dc_InvalidDrawing_init pm_InvalidDrawing_init an_InvalidDrawing_init cd_InvalidDrawing_init ct_InvalidDrawing_init), sl_InvalidDrawing_init⟩)
    (c_InvalidDrawing_init : PySem.W.codeIn K cd_InvalidDrawing_init "InvalidDrawing.__init__" = true)
    (k_InvalidDrawing_init : PySem.W.keepIn K (.ref f_InvalidDrawing_init) = true)
    (a_Rule_init : PySem.W.findIn K (.ref C_Rule) "__init__" = some (some (.ref f_Rule_init)))
    (i_Rule_init : PySem.W.isFn K (.ref f_Rule_init) = true)
    (l_Rule_init : K.lookup f_Rule_init = some ⟨oc_Rule_init, od_Rule_init, .func (PySem.W.fnOf "__init__" "Rule.__init__" (defArgs s_Rule_init) (defBody s_Rule_init) (defScope s_Rule_init) (.ref T_Rule_init) kV_Rule_init dc_Rule_init pm_Rule_init an_Rule_init cd_Rule_init ct_Rule_init), sl_Rule_init⟩)
    (lT_Rule_init : K.lookup T_Rule_init = some ⟨oT_Rule_init, dT_Rule_init, .seq #[.ref e_Rule_init] nT_Rule_init, sT_Rule_init⟩)
    (lE_Rule_init : K.lookup e_Rule_init = some ⟨.type "tuple", dE_Rule_init, .seq #[] nE_Rule_init, sE_Rule_init⟩)
    (c_Rule_init : PySem.W.codeIn K cd_Rule_init "Rule.__init__" = true)
    (k_Rule_init : PySem.W.keepIn K (.ref f_Rule_init) = true)
    (a_Rule_eq : PySem.W.findIn K (.ref C_Rule) "__eq__" = some (some (.ref f_Rule_eq)))
    (i_Rule_eq : PySem.W.isFn K (.ref f_Rule_eq) = true)
    (l_Rule_eq : K.lookup f_Rule_eq = some ⟨oc_Rule_eq, od_Rule_eq, .func (PySem.W.fnOf "__eq__" "Rule.__eq__" (defArgs s_Rule_eq) (defBody s_Rule_eq) (defScope s_Rule_eq) .none kV_Rule_eq dc_Rule_eq pm_Rule_eq an_Rule_eq cd_Rule_eq ct_Rule_eq), sl_Rule_eq⟩)
    (c_Rule_eq : PySem.W.codeIn K cd_Rule_eq "Rule.__eq__" = true)
    (k_Rule_eq : PySem.W.keepIn K (.ref f_Rule_eq) = true)
    (a_Rule_str : PySem.W.findIn K (.ref C_Rule) "__str__" = some (some (.ref f_Rule_str)))
    (i_Rule_str : PySem.W.isFn K (.ref f_Rule_str) = true)
    (l_Rule_str : K.lookup f_Rule_str = some ⟨oc_Rule_str, od_Rule_str, .func (PySem.W.fnOf "__str__" "Rule.__str__" (defArgs s_Rule_str) (defBody s_Rule_str) (defScope s_Rule_str) .none kV_Rule_str dc_Rule_str pm_Rule_str an_Rule_str cd_Rule_str ct_Rule_str), sl_Rule_str⟩)
    (c_Rule_str : PySem.W.codeIn K cd_Rule_str "Rule.__str__" = true)
    (k_Rule_str : PySem.W.keepIn K (.ref f_Rule_str) = true)
    (a_read_rule : PySem.W.nsIn K mainGlobals "read_rule" = some (some (.ref f_read_rule)))
    (l_read_rule : K.lookup f_read_rule = some ⟨oc_read_rule, od_read_rule, .func (PySem.W.fnOf "read_rule" "read_rule" (defArgs s_read_rule) (defBody s_read_rule) (defScope s_read_rule) .none kV_read_rule dc_read_rule pm_read_rule an_read_rule cd_read_rule ct_read_rule), sl_read_rule⟩)
    (c_read_rule : PySem.W.codeIn K cd_read_rule "read_rule" = true)
    (k_read_rule : PySem.W.keepIn K (.ref f_read_rule) = true)
    (a_Room_init : PySem.W.findIn K (.ref C_Room) "__init__" = some (some (.ref f_Room_init)))
    (i_Room_init : PySem.W.isFn K (.ref f_Room_init) = true)
    (l_Room_init : K.lookup f_Room_init = some ⟨oc_Room_init, od_Room_init, .func (PySem.W.fnOf "__init__" "Room.__init__" (defArgs s_Room_init) (defBody s_Room_init) (defScope s_Room_init) (.ref T_Room_init) kV_Room_init dc_Room_init pm_Room_init an_Room_init cd_Room_init ct_Room_init), sl_Room_init⟩)
    (lT_Room_init : K.lookup T_Room_init = some ⟨oT_Room_init, dT_Room_init, .seq #[.ref e_Room_init] nT_Room_init, sT_Room_init⟩)
    (lE_Room_init : K.lookup e_Room_init = some ⟨.type "tuple", dE_Room_init, .seq #[] nE_Room_init, sE_Room_init⟩)
    (c_Room_init : PySem.W.codeIn K cd_Room_init "Room.__init__" = true)
    (k_Room_init : PySem.W.keepIn K (.ref f_Room_init) = true)
    (cmf_Room_read : PySem.W.findCls K (.ref C_Room) (.type "type") "read" = some (.get (.builtin "classmethod.__get__") (.ref p_Room_read) .none (.ref C_Room)))
    (cmr_Room_read : PySem.W.recIn K p_Room_read "classmethod" = some (.ref f_Room_read :: pr_Room_read))
    (cmi_Room_read : PySem.W.fnIn K f_Room_read = true)
    (crd_Room : PySem.W.readsIn K C_Room (.type "type") = true)
    (cga_Room : PySem.W.specialIn K (.ref C_Room) "__getattribute__" = some (some (.builtin "type.__getattribute__")))
    (l_Room_read : K.lookup f_Room_read = some ⟨oc_Room_read, od_Room_read, .func (PySem.W.fnOf "read" "Room.read" (defArgs s_Room_read) (defBody s_Room_read) (defScope s_Room_read) .none kV_Room_read dc_Room_read pm_Room_read an_Room_read cd_Room_read ct_Room_read), sl_Room_read⟩)
    (c_Room_read : PySem.W.codeIn K cd_Room_read "Room.read" = true)
    (k_Room_read : PySem.W.keepIn K (.ref f_Room_read) = true)
    (a_Room_without : PySem.W.findIn K (.ref C_Room) "without" = some (some (.ref f_Room_without)))
    (i_Room_without : PySem.W.isFn K (.ref f_Room_without) = true)
    (l_Room_without : K.lookup f_Room_without = some ⟨oc_Room_without, od_Room_without, .func (PySem.W.fnOf "without" "Room.without" (defArgs s_Room_without) (defBody s_Room_without) (defScope s_Room_without) .none kV_Room_without dc_Room_without pm_Room_without an_Room_without cd_Room_without ct_Room_without), sl_Room_without⟩)
    (c_Room_without : PySem.W.codeIn K cd_Room_without "Room.without" = true)
    (k_Room_without : PySem.W.keepIn K (.ref f_Room_without) = true)
    (a_Room_len : PySem.W.findIn K (.ref C_Room) "__len__" = some (some (.ref f_Room_len)))
    (i_Room_len : PySem.W.isFn K (.ref f_Room_len) = true)
    (l_Room_len : K.lookup f_Room_len = some ⟨oc_Room_len, od_Room_len, .func (PySem.W.fnOf "__len__" "Room.__len__" (defArgs s_Room_len) (defBody s_Room_len) (defScope s_Room_len) .none kV_Room_len dc_Room_len pm_Room_len an_Room_len cd_Room_len ct_Room_len), sl_Room_len⟩)
    (c_Room_len : PySem.W.codeIn K cd_Room_len "Room.__len__" = true)
    (k_Room_len : PySem.W.keepIn K (.ref f_Room_len) = true)
    (a_Room_getitem : PySem.W.findIn K (.ref C_Room) "__getitem__" = some (some (.ref f_Room_getitem)))
    (i_Room_getitem : PySem.W.isFn K (.ref f_Room_getitem) = true)
    (l_Room_getitem : K.lookup f_Room_getitem = some ⟨oc_Room_getitem, od_Room_getitem, .func (PySem.W.fnOf "__getitem__" "Room.__getitem__" (defArgs s_Room_getitem) (defBody s_Room_getitem) (defScope s_Room_getitem) .none kV_Room_getitem dc_Room_getitem pm_Room_getitem an_Room_getitem cd_Room_getitem ct_Room_getitem), sl_Room_getitem⟩)
    (c_Room_getitem : PySem.W.codeIn K cd_Room_getitem "Room.__getitem__" = true)
    (k_Room_getitem : PySem.W.keepIn K (.ref f_Room_getitem) = true)
    (a_Room_add : PySem.W.findIn K (.ref C_Room) "__add__" = some (some (.ref f_Room_add)))
    (i_Room_add : PySem.W.isFn K (.ref f_Room_add) = true)
    (l_Room_add : K.lookup f_Room_add = some ⟨oc_Room_add, od_Room_add, .func (PySem.W.fnOf "__add__" "Room.__add__" (defArgs s_Room_add) (defBody s_Room_add) (defScope s_Room_add) .none kV_Room_add dc_Room_add pm_Room_add an_Room_add cd_Room_add ct_Room_add), sl_Room_add⟩)
    (c_Room_add : PySem.W.codeIn K cd_Room_add "Room.__add__" = true)
    (k_Room_add : PySem.W.keepIn K (.ref f_Room_add) = true)
    (a_Room_eq : PySem.W.findIn K (.ref C_Room) "__eq__" = some (some (.ref f_Room_eq)))
    (i_Room_eq : PySem.W.isFn K (.ref f_Room_eq) = true)
    (l_Room_eq : K.lookup f_Room_eq = some ⟨oc_Room_eq, od_Room_eq, .func (PySem.W.fnOf "__eq__" "Room.__eq__" (defArgs s_Room_eq) (defBody s_Room_eq) (defScope s_Room_eq) .none kV_Room_eq dc_Room_eq pm_Room_eq an_Room_eq cd_Room_eq ct_Room_eq), sl_Room_eq⟩)
    (c_Room_eq : PySem.W.codeIn K cd_Room_eq "Room.__eq__" = true)
    (k_Room_eq : PySem.W.keepIn K (.ref f_Room_eq) = true)
    (a_Room_str : PySem.W.findIn K (.ref C_Room) "__str__" = some (some (.ref f_Room_str)))
    (i_Room_str : PySem.W.isFn K (.ref f_Room_str) = true)
    (l_Room_str : K.lookup f_Room_str = some ⟨oc_Room_str, od_Room_str, .func (PySem.W.fnOf "__str__" "Room.__str__" (defArgs s_Room_str) (defBody s_Room_str) (defScope s_Room_str) .none kV_Room_str dc_Room_str pm_Room_str an_Room_str cd_Room_str ct_Room_str), sl_Room_str⟩)
    (c_Room_str : PySem.W.codeIn K cd_Room_str "Room.__str__" = true)
    (k_Room_str : PySem.W.keepIn K (.ref f_Room_str) = true)
    (a_least_meeting : PySem.W.nsIn K mainGlobals "least_meeting" = some (some (.ref f_least_meeting)))
    (l_least_meeting : K.lookup f_least_meeting = some ⟨oc_least_meeting, od_least_meeting, .func (PySem.W.fnOf "least_meeting" "least_meeting" (defArgs s_least_meeting) (defBody s_least_meeting) (defScope s_least_meeting) .none kV_least_meeting dc_least_meeting pm_least_meeting an_least_meeting cd_least_meeting ct_least_meeting), sl_least_meeting⟩)
    (c_least_meeting : PySem.W.codeIn K cd_least_meeting "least_meeting" = true)
    (k_least_meeting : PySem.W.keepIn K (.ref f_least_meeting) = true)
    (a_ones_of : PySem.W.nsIn K mainGlobals "ones_of" = some (some (.ref f_ones_of)))
    (l_ones_of : K.lookup f_ones_of = some ⟨oc_ones_of, od_ones_of, .func (PySem.W.fnOf "ones_of" "ones_of" (defArgs s_ones_of) (defBody s_ones_of) (defScope s_ones_of) .none kV_ones_of dc_ones_of pm_ones_of an_ones_of cd_ones_of ct_ones_of), sl_ones_of⟩)
    (c_ones_of : PySem.W.codeIn K cd_ones_of "ones_of" = true)
    (k_ones_of : PySem.W.keepIn K (.ref f_ones_of) = true)
    (a_has_one_of : PySem.W.nsIn K mainGlobals "has_one_of" = some (some (.ref f_has_one_of)))
    (l_has_one_of : K.lookup f_has_one_of = some ⟨oc_has_one_of, od_has_one_of, .func (PySem.W.fnOf "has_one_of" "has_one_of" (defArgs s_has_one_of) (defBody s_has_one_of) (defScope s_has_one_of) .none kV_has_one_of dc_has_one_of pm_has_one_of an_has_one_of cd_has_one_of ct_has_one_of), sl_has_one_of⟩)
    (c_has_one_of : PySem.W.codeIn K cd_has_one_of "has_one_of" = true)
    (k_has_one_of : PySem.W.keepIn K (.ref f_has_one_of) = true)
    (a_tree : PySem.W.nsIn K mainGlobals "tree" = some (some (.ref f_tree)))
    (l_tree : K.lookup f_tree = some ⟨oc_tree, od_tree, .func (PySem.W.fnOf "tree" "tree" (defArgs s_tree) (defBody s_tree) (defScope s_tree) .none kV_tree dc_tree pm_tree an_tree cd_tree ct_tree), sl_tree⟩)
    (c_tree : PySem.W.codeIn K cd_tree "tree" = true)
    (k_tree : PySem.W.keepIn K (.ref f_tree) = true)
    (a_taken_down : PySem.W.nsIn K mainGlobals "taken_down" = some (some (.ref f_taken_down)))
    (l_taken_down : K.lookup f_taken_down = some ⟨oc_taken_down, od_taken_down, .func (PySem.W.fnOf "taken_down" "taken_down" (defArgs s_taken_down) (defBody s_taken_down) (defScope s_taken_down) .none kV_taken_down dc_taken_down pm_taken_down an_taken_down cd_taken_down ct_taken_down), sl_taken_down⟩)
    (c_taken_down : PySem.W.codeIn K cd_taken_down "taken_down" = true)
    (k_taken_down : PySem.W.keepIn K (.ref f_taken_down) = true)
    (a_check_edges : PySem.W.nsIn K mainGlobals "check_edges" = some (some (.ref f_check_edges)))
    (l_check_edges : K.lookup f_check_edges = some ⟨oc_check_edges, od_check_edges, .func (PySem.W.fnOf "check_edges" "check_edges" (defArgs s_check_edges) (defBody s_check_edges) (defScope s_check_edges) .none kV_check_edges dc_check_edges pm_check_edges an_check_edges cd_check_edges ct_check_edges), sl_check_edges⟩)
    (c_check_edges : PySem.W.codeIn K cd_check_edges "check_edges" = true)
    (k_check_edges : PySem.W.keepIn K (.ref f_check_edges) = true)
    (a_is_tuple_of : PySem.W.nsIn K mainGlobals "is_tuple_of" = some (some (.ref f_is_tuple_of)))
    (l_is_tuple_of : K.lookup f_is_tuple_of = some ⟨oc_is_tuple_of, od_is_tuple_of, .func (PySem.W.fnOf "is_tuple_of" "is_tuple_of" (defArgs s_is_tuple_of) (defBody s_is_tuple_of) (defScope s_is_tuple_of) .none kV_is_tuple_of dc_is_tuple_of pm_is_tuple_of an_is_tuple_of cd_is_tuple_of ct_is_tuple_of), sl_is_tuple_of⟩)
    (c_is_tuple_of : PySem.W.codeIn K cd_is_tuple_of "is_tuple_of" = true)
    (k_is_tuple_of : PySem.W.keepIn K (.ref f_is_tuple_of) = true)
    (a_ring_at : PySem.W.nsIn K mainGlobals "ring_at" = some (some (.ref f_ring_at)))
    (l_ring_at : K.lookup f_ring_at = some ⟨oc_ring_at, od_ring_at, .func (PySem.W.fnOf "ring_at" "ring_at" (defArgs s_ring_at) (defBody s_ring_at) (defScope s_ring_at) .none kV_ring_at dc_ring_at pm_ring_at an_ring_at cd_ring_at ct_ring_at), sl_ring_at⟩)
    (c_ring_at : PySem.W.codeIn K cd_ring_at "ring_at" = true)
    (k_ring_at : PySem.W.keepIn K (.ref f_ring_at) = true)
    (a_are_joined : PySem.W.nsIn K mainGlobals "are_joined" = some (some (.ref f_are_joined)))
    (l_are_joined : K.lookup f_are_joined = some ⟨oc_are_joined, od_are_joined, .func (PySem.W.fnOf "are_joined" "are_joined" (defArgs s_are_joined) (defBody s_are_joined) (defScope s_are_joined) .none kV_are_joined dc_are_joined pm_are_joined an_are_joined cd_are_joined ct_are_joined), sl_are_joined⟩)
    (c_are_joined : PySem.W.codeIn K cd_are_joined "are_joined" = true)
    (k_are_joined : PySem.W.keepIn K (.ref f_are_joined) = true)
    (a_unjoined_beside : PySem.W.nsIn K mainGlobals "unjoined_beside" = some (some (.ref f_unjoined_beside)))
    (l_unjoined_beside : K.lookup f_unjoined_beside = some ⟨oc_unjoined_beside, od_unjoined_beside, .func (PySem.W.fnOf "unjoined_beside" "unjoined_beside" (defArgs s_unjoined_beside) (defBody s_unjoined_beside) (defScope s_unjoined_beside) .none kV_unjoined_beside dc_unjoined_beside pm_unjoined_beside an_unjoined_beside cd_unjoined_beside ct_unjoined_beside), sl_unjoined_beside⟩)
    (c_unjoined_beside : PySem.W.codeIn K cd_unjoined_beside "unjoined_beside" = true)
    (k_unjoined_beside : PySem.W.keepIn K (.ref f_unjoined_beside) = true)
    (a_room_kept_by : PySem.W.nsIn K mainGlobals "room_kept_by" = some (some (.ref f_room_kept_by)))
    (l_room_kept_by : K.lookup f_room_kept_by = some ⟨oc_room_kept_by, od_room_kept_by, .func (PySem.W.fnOf "room_kept_by" "room_kept_by" (defArgs s_room_kept_by) (defBody s_room_kept_by) (defScope s_room_kept_by) .none kV_room_kept_by dc_room_kept_by pm_room_kept_by an_room_kept_by cd_room_kept_by ct_room_kept_by), sl_room_kept_by⟩)
    (c_room_kept_by : PySem.W.codeIn K cd_room_kept_by "room_kept_by" = true)
    (k_room_kept_by : PySem.W.keepIn K (.ref f_room_kept_by) = true)
    (a_peeled : PySem.W.nsIn K mainGlobals "peeled" = some (some (.ref f_peeled)))
    (l_peeled : K.lookup f_peeled = some ⟨oc_peeled, od_peeled, .func (PySem.W.fnOf "peeled" "peeled" (defArgs s_peeled) (defBody s_peeled) (defScope s_peeled) .none kV_peeled dc_peeled pm_peeled an_peeled cd_peeled ct_peeled), sl_peeled⟩)
    (c_peeled : PySem.W.codeIn K cd_peeled "peeled" = true)
    (k_peeled : PySem.W.keepIn K (.ref f_peeled) = true)
    (a_check_points : PySem.W.nsIn K mainGlobals "check_points" = some (some (.ref f_check_points)))
    (l_check_points : K.lookup f_check_points = some ⟨oc_check_points, od_check_points, .func (PySem.W.fnOf "check_points" "check_points" (defArgs s_check_points) (defBody s_check_points) (defScope s_check_points) .none kV_check_points dc_check_points pm_check_points an_check_points cd_check_points ct_check_points), sl_check_points⟩)
    (c_check_points : PySem.W.codeIn K cd_check_points "check_points" = true)
    (k_check_points : PySem.W.keepIn K (.ref f_check_points) = true)
    (a_is_point : PySem.W.nsIn K mainGlobals "is_point" = some (some (.ref f_is_point)))
    (l_is_point : K.lookup f_is_point = some ⟨oc_is_point, od_is_point, .func (PySem.W.fnOf "is_point" "is_point" (defArgs s_is_point) (defBody s_is_point) (defScope s_is_point) .none kV_is_point dc_is_point pm_is_point an_is_point cd_is_point ct_is_point), sl_is_point⟩)
    (c_is_point : PySem.W.codeIn K cd_is_point "is_point" = true)
    (k_is_point : PySem.W.keepIn K (.ref f_is_point) = true)
    (a_around : PySem.W.nsIn K mainGlobals "around" = some (some (.ref f_around)))
    (l_around : K.lookup f_around = some ⟨oc_around, od_around, .func (PySem.W.fnOf "around" "around" (defArgs s_around) (defBody s_around) (defScope s_around) .none kV_around dc_around pm_around an_around cd_around ct_around), sl_around⟩)
    (c_around : PySem.W.codeIn K cd_around "around" = true)
    (k_around : PySem.W.keepIn K (.ref f_around) = true)
    (a_is_between : PySem.W.nsIn K mainGlobals "is_between" = some (some (.ref f_is_between)))
    (l_is_between : K.lookup f_is_between = some ⟨oc_is_between, od_is_between, .func (PySem.W.fnOf "is_between" "is_between" (defArgs s_is_between) (defBody s_is_between) (defScope s_is_between) .none kV_is_between dc_is_between pm_is_between an_is_between cd_is_between ct_is_between), sl_is_between⟩)
    (c_is_between : PySem.W.codeIn K cd_is_between "is_between" = true)
    (k_is_between : PySem.W.keepIn K (.ref f_is_between) = true)
    (a_is_inside : PySem.W.nsIn K mainGlobals "is_inside" = some (some (.ref f_is_inside)))
    (l_is_inside : K.lookup f_is_inside = some ⟨oc_is_inside, od_is_inside, .func (PySem.W.fnOf "is_inside" "is_inside" (defArgs s_is_inside) (defBody s_is_inside) (defScope s_is_inside) .none kV_is_inside dc_is_inside pm_is_inside an_is_inside cd_is_inside ct_is_inside), sl_is_inside⟩)
    (c_is_inside : PySem.W.codeIn K cd_is_inside "is_inside" = true)
    (k_is_inside : PySem.W.keepIn K (.ref f_is_inside) = true)
    (a_turn : PySem.W.nsIn K mainGlobals "turn" = some (some (.ref f_turn)))
    (l_turn : K.lookup f_turn = some ⟨oc_turn, od_turn, .func (PySem.W.fnOf "turn" "turn" (defArgs s_turn) (defBody s_turn) (defScope s_turn) .none kV_turn dc_turn pm_turn an_turn cd_turn ct_turn), sl_turn⟩)
    (c_turn : PySem.W.codeIn K cd_turn "turn" = true)
    (k_turn : PySem.W.keepIn K (.ref f_turn) = true)
    (a_opened : PySem.W.nsIn K mainGlobals "opened" = some (some (.ref f_opened)))
    (l_opened : K.lookup f_opened = some ⟨oc_opened, od_opened, .func (PySem.W.fnOf "opened" "opened" (defArgs s_opened) (defBody s_opened) (defScope s_opened) .none kV_opened dc_opened pm_opened an_opened cd_opened ct_opened), sl_opened⟩)
    (c_opened : PySem.W.codeIn K cd_opened "opened" = true)
    (k_opened : PySem.W.keepIn K (.ref f_opened) = true)
    (a_lw_graph : PySem.W.nsIn K mainGlobals "_law_graph" = some (some (.ref f_lw_graph)))
    (l_lw_graph : K.lookup f_lw_graph = some ⟨oc_lw_graph, od_lw_graph, .func (PySem.W.fnOf "_law_graph" "_law_graph" (defArgs s_lw_graph) (defBody s_lw_graph) (defScope s_lw_graph) .none kV_lw_graph dc_lw_graph pm_lw_graph an_lw_graph cd_lw_graph ct_lw_graph), sl_lw_graph⟩)
    (c_lw_graph : PySem.W.codeIn K cd_lw_graph "_law_graph" = true)
    (k_lw_graph : PySem.W.keepIn K (.ref f_lw_graph) = true)
    (a_lw_forest : PySem.W.nsIn K mainGlobals "_law_forest" = some (some (.ref f_lw_forest)))
    (l_lw_forest : K.lookup f_lw_forest = some ⟨oc_lw_forest, od_lw_forest, .func (PySem.W.fnOf "_law_forest" "_law_forest" (defArgs s_lw_forest) (defBody s_lw_forest) (defScope s_lw_forest) .none kV_lw_forest dc_lw_forest pm_lw_forest an_lw_forest cd_lw_forest ct_lw_forest), sl_lw_forest⟩)
    (c_lw_forest : PySem.W.codeIn K cd_lw_forest "_law_forest" = true)
    (k_lw_forest : PySem.W.keepIn K (.ref f_lw_forest) = true)
    (a_lw_points : PySem.W.nsIn K mainGlobals "_law_points" = some (some (.ref f_lw_points)))
    (l_lw_points : K.lookup f_lw_points = some ⟨oc_lw_points, od_lw_points, .func (PySem.W.fnOf "_law_points" "_law_points" (defArgs s_lw_points) (defBody s_lw_points) (defScope s_lw_points) .none kV_lw_points dc_lw_points pm_lw_points an_lw_points cd_lw_points ct_lw_points), sl_lw_points⟩)
    (c_lw_points : PySem.W.codeIn K cd_lw_points "_law_points" = true)
    (k_lw_points : PySem.W.keepIn K (.ref f_lw_points) = true)
    (a_lw_refused : PySem.W.nsIn K mainGlobals "_law_refused" = some (some (.ref f_lw_refused)))
    (l_lw_refused : K.lookup f_lw_refused = some ⟨oc_lw_refused, od_lw_refused, .func (PySem.W.fnOf "_law_refused" "_law_refused" (defArgs s_lw_refused) (defBody s_lw_refused) (defScope s_lw_refused) .none kV_lw_refused dc_lw_refused pm_lw_refused an_lw_refused cd_lw_refused ct_lw_refused), sl_lw_refused⟩)
    (c_lw_refused : PySem.W.codeIn K cd_lw_refused "_law_refused" = true)
    (k_lw_refused : PySem.W.keepIn K (.ref f_lw_refused) = true)
    (a_lw_closing : PySem.W.nsIn K mainGlobals "_law_closing" = some (some (.ref f_lw_closing)))
    (l_lw_closing : K.lookup f_lw_closing = some ⟨oc_lw_closing, od_lw_closing, .func (PySem.W.fnOf "_law_closing" "_law_closing" (defArgs s_lw_closing) (defBody s_lw_closing) (defScope s_lw_closing) .none kV_lw_closing dc_lw_closing pm_lw_closing an_lw_closing cd_lw_closing ct_lw_closing), sl_lw_closing⟩)
    (c_lw_closing : PySem.W.codeIn K cd_lw_closing "_law_closing" = true)
    (k_lw_closing : PySem.W.keepIn K (.ref f_lw_closing) = true)
    (a_lw_odd : PySem.W.nsIn K mainGlobals "_law_odd" = some (some (.ref f_lw_odd)))
    (l_lw_odd : K.lookup f_lw_odd = some ⟨oc_lw_odd, od_lw_odd, .func (PySem.W.fnOf "_law_odd" "_law_odd" (defArgs s_lw_odd) (defBody s_lw_odd) (defScope s_lw_odd) .none kV_lw_odd dc_lw_odd pm_lw_odd an_lw_odd cd_lw_odd ct_lw_odd), sl_lw_odd⟩)
    (c_lw_odd : PySem.W.codeIn K cd_lw_odd "_law_odd" = true)
    (k_lw_odd : PySem.W.keepIn K (.ref f_lw_odd) = true)
    (a_lw_deal : PySem.W.nsIn K mainGlobals "_law_deal" = some (some (.ref f_lw_deal)))
    (l_lw_deal : K.lookup f_lw_deal = some ⟨oc_lw_deal, od_lw_deal, .func (PySem.W.fnOf "_law_deal" "_law_deal" (defArgs s_lw_deal) (defBody s_lw_deal) (defScope s_lw_deal) .none kV_lw_deal dc_lw_deal pm_lw_deal an_lw_deal cd_lw_deal ct_lw_deal), sl_lw_deal⟩)
    (c_lw_deal : PySem.W.codeIn K cd_lw_deal "_law_deal" = true)
    (k_lw_deal : PySem.W.keepIn K (.ref f_lw_deal) = true)
    (a_lw_draw : PySem.W.nsIn K mainGlobals "_law_draw" = some (some (.ref f_lw_draw)))
    (l_lw_draw : K.lookup f_lw_draw = some ⟨oc_lw_draw, od_lw_draw, .func (PySem.W.fnOf "_law_draw" "_law_draw" (defArgs s_lw_draw) (defBody s_lw_draw) (defScope s_lw_draw) .none kV_lw_draw dc_lw_draw pm_lw_draw an_lw_draw cd_lw_draw ct_lw_draw), sl_lw_draw⟩)
    (c_lw_draw : PySem.W.codeIn K cd_lw_draw "_law_draw" = true)
    (k_lw_draw : PySem.W.keepIn K (.ref f_lw_draw) = true)
    (a_lw_pick : PySem.W.nsIn K mainGlobals "_law_pick" = some (some (.ref f_lw_pick)))
    (l_lw_pick : K.lookup f_lw_pick = some ⟨oc_lw_pick, od_lw_pick, .func (PySem.W.fnOf "_law_pick" "_law_pick" (defArgs s_lw_pick) (defBody s_lw_pick) (defScope s_lw_pick) .none kV_lw_pick dc_lw_pick pm_lw_pick an_lw_pick cd_lw_pick ct_lw_pick), sl_lw_pick⟩)
    (c_lw_pick : PySem.W.codeIn K cd_lw_pick "_law_pick" = true)
    (k_lw_pick : PySem.W.keepIn K (.ref f_lw_pick) = true)
    (a_lw_mixed : PySem.W.nsIn K mainGlobals "_law_mixed" = some (some (.ref f_lw_mixed)))
    (l_lw_mixed : K.lookup f_lw_mixed = some ⟨oc_lw_mixed, od_lw_mixed, .func (PySem.W.fnOf "_law_mixed" "_law_mixed" (defArgs s_lw_mixed) (defBody s_lw_mixed) (defScope s_lw_mixed) .none kV_lw_mixed dc_lw_mixed pm_lw_mixed an_lw_mixed cd_lw_mixed ct_lw_mixed), sl_lw_mixed⟩)
    (c_lw_mixed : PySem.W.codeIn K cd_lw_mixed "_law_mixed" = true)
    (k_lw_mixed : PySem.W.keepIn K (.ref f_lw_mixed) = true)
    (a_lw_names : PySem.W.nsIn K mainGlobals "_law_names" = some (some (.ref f_lw_names)))
    (l_lw_names : K.lookup f_lw_names = some ⟨oc_lw_names, od_lw_names, .func (PySem.W.fnOf "_law_names" "_law_names" (defArgs s_lw_names) (defBody s_lw_names) (defScope s_lw_names) .none kV_lw_names dc_lw_names pm_lw_names an_lw_names cd_lw_names ct_lw_names), sl_lw_names⟩)
    (c_lw_names : PySem.W.codeIn K cd_lw_names "_law_names" = true)
    (k_lw_names : PySem.W.keepIn K (.ref f_lw_names) = true)
    (a_lw_main : PySem.W.nsIn K mainGlobals "law" = some (some (.ref f_lw_main)))
    (l_lw_main : K.lookup f_lw_main = some ⟨oc_lw_main, od_lw_main, .func (PySem.W.fnOf "law" "law" (defArgs s_lw_main) (defBody s_lw_main) (defScope s_lw_main) .none kV_lw_main dc_lw_main pm_lw_main an_lw_main cd_lw_main ct_lw_main), sl_lw_main⟩)
    (c_lw_main : PySem.W.codeIn K cd_lw_main "law" = true)
    (k_lw_main : PySem.W.keepIn K (.ref f_lw_main) = true)
    (sn_Room_Rule : PySem.W.subIn K (.ref C_Room) (.ref C_Rule) = some false)
    (sa_InvalidDrawing : PySem.W.findIn K (.ref C_InvalidDrawing) "__setattr__" = some (some (.builtin "object.__setattr__")))
    (ga_InvalidDrawing : PySem.W.findIn K (.ref C_InvalidDrawing) "__getattribute__" = some (some (.builtin "BaseException.__getattribute__")))
    (gg_InvalidDrawing : PySem.W.findIn K (.ref C_InvalidDrawing) "__getattr__" = some none)
    (nb_InvalidDrawing : PySem.W.findIn K (.ref C_InvalidDrawing) "at" = some none)
    (tI_InvalidDrawing : PySem.W.typeIn K (.ref f_InvalidDrawing_init) = some (.type "function"))
    (kC_InvalidDrawing : PySem.W.keepIn K (.ref C_InvalidDrawing) = true)
    (eC_InvalidDrawing : PySem.W.subIn K (.ref C_InvalidDrawing) (.type "BaseException") = some true)
    (tC_InvalidDrawing : PySem.W.typeIn K (.ref C_InvalidDrawing) = some (.type "type"))
    (hC_InvalidDrawing : PySem.W.hasDictIn K C_InvalidDrawing = true)
    (sC_InvalidDrawing : PySem.W.subIn K (.ref C_InvalidDrawing) (.ref C_InvalidDrawing) = some true)
    (hA_InvalidDrawing : PySem.W.findIn K (.ref C_InvalidDrawing) "__class__" = some (some (.builtin "object.__class__")))
    (hN_InvalidDrawing : PySem.W.specialIn K (.builtin "object.__class__") "__get__" = some (some (.builtin "getset_descriptor.__get__")))
    (hT_InvalidDrawing : PySem.W.takesIn K (.builtin "object.__class__") = some true)
    (hM_InvalidDrawing : PySem.W.mroIn K C_InvalidDrawing (.type "object") = some true)
    (sa_InvalidRule : PySem.W.findIn K (.ref C_InvalidRule) "__setattr__" = some (some (.builtin "object.__setattr__")))
    (ga_InvalidRule : PySem.W.findIn K (.ref C_InvalidRule) "__getattribute__" = some (some (.builtin "BaseException.__getattribute__")))
    (gg_InvalidRule : PySem.W.findIn K (.ref C_InvalidRule) "__getattr__" = some none)
    (nb_InvalidRule : PySem.W.findIn K (.ref C_InvalidRule) "word" = some none)
    (tI_InvalidRule : PySem.W.typeIn K (.ref f_InvalidRule_init) = some (.type "function"))
    (kC_InvalidRule : PySem.W.keepIn K (.ref C_InvalidRule) = true)
    (eC_InvalidRule : PySem.W.subIn K (.ref C_InvalidRule) (.type "BaseException") = some true)
    (tC_InvalidRule : PySem.W.typeIn K (.ref C_InvalidRule) = some (.type "type"))
    (hC_InvalidRule : PySem.W.hasDictIn K C_InvalidRule = true)
    (sC_InvalidRule : PySem.W.subIn K (.ref C_InvalidRule) (.ref C_InvalidRule) = some true)
    (hA_InvalidRule : PySem.W.findIn K (.ref C_InvalidRule) "__class__" = some (some (.builtin "object.__class__")))
    (hN_InvalidRule : PySem.W.specialIn K (.builtin "object.__class__") "__get__" = some (some (.builtin "getset_descriptor.__get__")))
    (hT_InvalidRule : PySem.W.takesIn K (.builtin "object.__class__") = some true)
    (hM_InvalidRule : PySem.W.mroIn K C_InvalidRule (.type "object") = some true)
    (n_abs : PySem.W.nsIn K mainGlobals "abs" = some none)
    (n_all : PySem.W.nsIn K mainGlobals "all" = some none)
    (n_any : PySem.W.nsIn K mainGlobals "any" = some none)
    (n_bool : PySem.W.nsIn K mainGlobals "bool" = some none)
    (n_enumerate : PySem.W.nsIn K mainGlobals "enumerate" = some none)
    (n_int : PySem.W.nsIn K mainGlobals "int" = some none)
    (n_isinstance : PySem.W.nsIn K mainGlobals "isinstance" = some none)
    (n_len : PySem.W.nsIn K mainGlobals "len" = some none)
    (n_list : PySem.W.nsIn K mainGlobals "list" = some none)
    (n_max : PySem.W.nsIn K mainGlobals "max" = some none)
    (n_min : PySem.W.nsIn K mainGlobals "min" = some none)
    (n_range : PySem.W.nsIn K mainGlobals "range" = some none)
    (n_repr : PySem.W.nsIn K mainGlobals "repr" = some none)
    (n_set : PySem.W.nsIn K mainGlobals "set" = some none)
    (n_sorted : PySem.W.nsIn K mainGlobals "sorted" = some none)
    (n_str : PySem.W.nsIn K mainGlobals "str" = some none)
    (n_sum : PySem.W.nsIn K mainGlobals "sum" = some none)
    (n_tuple : PySem.W.nsIn K mainGlobals "tuple" = some none)
    (m_LETTERS : PySem.W.nsIn K mainGlobals "LETTERS" = some (some (.str "abcdefghijklmnopqrstuvwxyz" tk_LETTERS)))
    : ∃ fd : FuncData, (∀ (s : Shared) (v : Value), BindsTo s fd ⟨[v], []⟩ [("_law_script", v)]) ∧ ∀ base : Heap, K.In base → base.Ns mainGlobals mg → FnOk l.prog w K mg base CX0 10 fa fd ["_law_script"] (spLaw K) := by
  obtain ⟨a, rfl, T, hb⟩ := all_mk (l := l) (w := w) X G hfa aC_Rule pg_Rule hd_Rule po_Rule sa_Rule mk_Rule kc_Rule no_Rule_name no_Rule_gone ha_Rule hn_Rule htk_Rule hm_Rule nd_Rule sx_Rule aC_Room pg_Room hd_Room po_Room sa_Room mk_Room kc_Room no_Room_rules no_Room_names ha_Room hn_Room htk_Room hm_Room aC_InvalidDrawing xL_InvalidDrawing aC_InvalidRule xL_InvalidRule aC_InvalidOrder aC_LeaveError su_InvalidDrawing_InvalidOrder su_InvalidDrawing_LeaveError sb_NoneType_Room sb_bool_Room sb_int_Room sb_str_Room sb_list_Room sb_tuple_Room so_Rule_Room so_Room_Room sb_NoneType_Rule sb_bool_Rule sb_int_Rule sb_str_Rule sb_list_Rule sb_tuple_Rule so_Rule_Rule so_Room_Rule sl_Rule_list sl_Rule_tuple sl_Room_list sl_Room_tuple iL_InvalidOrder tL_InvalidOrder iL_LeaveError tL_LeaveError iL_Room tL_Room iL_Rule tL_Rule a_is_int l_is_int c_is_int k_is_int a_is_index l_is_index c_is_index k_is_index a_is_name l_is_name c_is_name k_is_name a_is_sequence l_is_sequence c_is_sequence k_is_sequence a_are_names l_are_names c_are_names k_are_names a_are_unlike l_are_unlike c_are_unlike k_are_unlike a_lot_of l_lot_of c_lot_of k_lot_of a_bits_of l_bits_of c_bits_of k_bits_of a_names_of l_names_of c_names_of k_names_of a_InvalidRule_init l_InvalidRule_init c_InvalidRule_init k_InvalidRule_init a_InvalidDrawing_init l_InvalidDrawing_init c_InvalidDrawing_init k_InvalidDrawing_init a_Rule_init i_Rule_init l_Rule_init lT_Rule_init lE_Rule_init c_Rule_init k_Rule_init a_Rule_eq i_Rule_eq l_Rule_eq c_Rule_eq k_Rule_eq a_Rule_str i_Rule_str l_Rule_str c_Rule_str k_Rule_str a_read_rule l_read_rule c_read_rule k_read_rule a_Room_init i_Room_init l_Room_init lT_Room_init lE_Room_init c_Room_init k_Room_init cmf_Room_read cmr_Room_read cmi_Room_read crd_Room cga_Room l_Room_read c_Room_read k_Room_read a_Room_without i_Room_without l_Room_without c_Room_without k_Room_without a_Room_len i_Room_len l_Room_len c_Room_len k_Room_len a_Room_getitem i_Room_getitem l_Room_getitem c_Room_getitem k_Room_getitem a_Room_add i_Room_add l_Room_add c_Room_add k_Room_add a_Room_eq i_Room_eq l_Room_eq c_Room_eq k_Room_eq a_Room_str i_Room_str l_Room_str c_Room_str k_Room_str a_least_meeting l_least_meeting c_least_meeting k_least_meeting a_ones_of l_ones_of c_ones_of k_ones_of a_has_one_of l_has_one_of c_has_one_of k_has_one_of a_tree l_tree c_tree k_tree a_taken_down l_taken_down c_taken_down k_taken_down a_check_edges l_check_edges c_check_edges k_check_edges a_is_tuple_of l_is_tuple_of c_is_tuple_of k_is_tuple_of a_ring_at l_ring_at c_ring_at k_ring_at a_are_joined l_are_joined c_are_joined k_are_joined a_unjoined_beside l_unjoined_beside c_unjoined_beside k_unjoined_beside a_room_kept_by l_room_kept_by c_room_kept_by k_room_kept_by a_peeled l_peeled c_peeled k_peeled a_check_points l_check_points c_check_points k_check_points a_is_point l_is_point c_is_point k_is_point a_around l_around c_around k_around a_is_between l_is_between c_is_between k_is_between a_is_inside l_is_inside c_is_inside k_is_inside a_turn l_turn c_turn k_turn a_opened l_opened c_opened k_opened a_lw_graph l_lw_graph c_lw_graph k_lw_graph a_lw_forest l_lw_forest c_lw_forest k_lw_forest a_lw_points l_lw_points c_lw_points k_lw_points a_lw_refused l_lw_refused c_lw_refused k_lw_refused a_lw_closing l_lw_closing c_lw_closing k_lw_closing a_lw_odd l_lw_odd c_lw_odd k_lw_odd a_lw_deal l_lw_deal c_lw_deal k_lw_deal a_lw_draw l_lw_draw c_lw_draw k_lw_draw a_lw_pick l_lw_pick c_lw_pick k_lw_pick a_lw_mixed l_lw_mixed c_lw_mixed k_lw_mixed a_lw_names l_lw_names c_lw_names k_lw_names a_lw_main l_lw_main c_lw_main k_lw_main sn_Room_Rule sa_InvalidDrawing ga_InvalidDrawing gg_InvalidDrawing nb_InvalidDrawing tI_InvalidDrawing kC_InvalidDrawing eC_InvalidDrawing tC_InvalidDrawing hC_InvalidDrawing sC_InvalidDrawing hA_InvalidDrawing hN_InvalidDrawing hT_InvalidDrawing hM_InvalidDrawing sa_InvalidRule ga_InvalidRule gg_InvalidRule nb_InvalidRule tI_InvalidRule kC_InvalidRule eC_InvalidRule tC_InvalidRule hC_InvalidRule sC_InvalidRule hA_InvalidRule hN_InvalidRule hT_InvalidRule hM_InvalidRule n_abs n_all n_any n_bool n_enumerate n_int n_isinstance n_len n_list n_max n_min n_range n_repr n_set n_sorted n_str n_sum n_tuple m_LETTERS
  exact ⟨_, hb, fun base _ _ => ok_main T⟩
theorem walk {l : PySem.W.OpenLaw} {q : Program} {loose : List Str} {XP : (Str → Option Value) → Heap → Prop} {YP : World → Heap → Prop} {d : DefRec} {K : Params → PySem.W.Frag} (hn : l.most = some 63) (hdf : d.params.defaults = [])
    (hY : ∀ (w : World) (h : Heap), YP w h → (K w.params).In h)
    (F : ∀ (w : World) (mg : Str → Option Value) (fa : Addr) (h : Heap), (K w.params).In h → h.Ns mainGlobals mg → mg d.name = some (.ref fa) →
      ∃ fd : FuncData, (∀ (s : Shared) (u : Value), BindsTo s fd ⟨[u], []⟩ [("_law_script", u)]) ∧ ∀ base : Heap, (K w.params).In base → base.Ns mainGlobals mg → FnOk l.prog w (K w.params) mg base CX0 10 fa fd ["_law_script"] (spLaw (K w.params))) :
    PySem.W.WalkO q loose XP YP l.row.toRowW d [] (fun f vs => PySem.call f vs) :=
  L2.walk_of (n := 63) (k := 10) (x := "_law_script") (CX := fun _ => CX0) (sp := fun w => spLaw (K w.params)) hn (by decide) hdf ⟨rfl, by decide, by decide⟩ hY F (fun _ _ p ns hl _ hS => ⟨p, ns, rfl, hS, hl, fun _ => rfl⟩) fun _ _ _ _ _ z => z
end GK
open PySem PySem.W PyProof.Rows in
set_option maxRecDepth 100000 in
set_option maxHeartbeats 0 in
theorem PySem.Challenge.cw_leavelots_k42_drawings_refused_holds : PySem.Challenge.rw_leavelots_k42_drawings_refused.Holds := by
  w_on; o_law; k_head; (case hw => w_witness2)
  k_fill
  refine GK.walk (l := PySem.Challenge.rw_leavelots_k42_drawings_refused) rfl rfl (fun w h Y => PySem.W.kIn_of Y) ?F
  case F =>
    intro w mg fa h KX G hmg
    refine' GK.law_at (w := w) KX G hmg ?aC_Rule ?pg_Rule ?hd_Rule ?po_Rule ?sa_Rule ?mk_Rule ?kc_Rule ?no_Rule_name ?no_Rule_gone ?ha_Rule ?hn_Rule ?htk_Rule ?hm_Rule ?nd_Rule ?sx_Rule ?aC_Room ?pg_Room ?hd_Room ?po_Room ?sa_Room ?mk_Room ?kc_Room ?no_Room_rules ?no_Room_names ?ha_Room ?hn_Room ?htk_Room ?hm_Room ?aC_InvalidDrawing ?xL_InvalidDrawing ?aC_InvalidRule ?xL_InvalidRule ?aC_InvalidOrder ?aC_LeaveError ?su_InvalidDrawing_InvalidOrder ?su_InvalidDrawing_LeaveError ?sb_NoneType_Room ?sb_bool_Room ?sb_int_Room ?sb_str_Room ?sb_list_Room ?sb_tuple_Room ?so_Rule_Room ?so_Room_Room ?sb_NoneType_Rule ?sb_bool_Rule ?sb_int_Rule ?sb_str_Rule ?sb_list_Rule ?sb_tuple_Rule ?so_Rule_Rule ?so_Room_Rule ?sl_Rule_list ?sl_Rule_tuple ?sl_Room_list ?sl_Room_tuple ?iL_InvalidOrder ?tL_InvalidOrder ?iL_LeaveError ?tL_LeaveError ?iL_Room ?tL_Room ?iL_Rule ?tL_Rule ?a_is_int ?l_is_int ?c_is_int ?k_is_int ?a_is_index ?l_is_index ?c_is_index ?k_is_index ?a_is_name ?l_is_name ?c_is_name ?k_is_name ?a_is_sequence ?l_is_sequence ?c_is_sequence ?k_is_sequence ?a_are_names ?l_are_names ?c_are_names ?k_are_names ?a_are_unlike ?l_are_unlike ?c_are_unlike ?k_are_unlike ?a_lot_of ?l_lot_of ?c_lot_of ?k_lot_of ?a_bits_of ?l_bits_of ?c_bits_of ?k_bits_of ?a_names_of ?l_names_of ?c_names_of ?k_names_of ?a_InvalidRule_init ?l_InvalidRule_init ?c_InvalidRule_init ?k_InvalidRule_init ?a_InvalidDrawing_init ?l_InvalidDrawing_init ?c_InvalidDrawing_init ?k_InvalidDrawing_init ?a_Rule_init ?i_Rule_init ?l_Rule_init ?lT_Rule_init ?lE_Rule_init ?c_Rule_init ?k_Rule_init ?a_Rule_eq ?i_Rule_eq ?l_Rule_eq ?c_Rule_eq ?k_Rule_eq ?a_Rule_str ?i_Rule_str ?l_Rule_str ?c_Rule_str ?k_Rule_str ?a_read_rule ?l_read_rule ?c_read_rule ?k_read_rule ?a_Room_init ?i_Room_init ?l_Room_init ?lT_Room_init ?lE_Room_init ?c_Room_init ?k_Room_init ?cmf_Room_read ?cmr_Room_read ?cmi_Room_read ?crd_Room ?cga_Room ?l_Room_read ?c_Room_read ?k_Room_read ?a_Room_without ?i_Room_without ?l_Room_without ?c_Room_without ?k_Room_without ?a_Room_len ?i_Room_len ?l_Room_len ?c_Room_len ?k_Room_len ?a_Room_getitem ?i_Room_getitem ?l_Room_getitem ?c_Room_getitem ?k_Room_getitem ?a_Room_add ?i_Room_add ?l_Room_add ?c_Room_add ?k_Room_add ?a_Room_eq ?i_Room_eq ?l_Room_eq ?c_Room_eq ?k_Room_eq ?a_Room_str ?i_Room_str ?l_Room_str ?c_Room_str ?k_Room_str ?a_least_meeting ?l_least_meeting ?c_least_meeting ?k_least_meeting ?a_ones_of ?l_ones_of ?c_ones_of ?k_ones_of ?a_has_one_of ?l_has_one_of ?c_has_one_of ?k_has_one_of ?a_tree ?l_tree ?c_tree ?k_tree ?a_taken_down ?l_taken_down ?c_taken_down ?k_taken_down ?a_check_edges ?l_check_edges ?c_check_edges ?k_check_edges ?a_is_tuple_of ?l_is_tuple_of ?c_is_tuple_of ?k_is_tuple_of ?a_ring_at ?l_ring_at ?c_ring_at ?k_ring_at ?a_are_joined ?l_are_joined ?c_are_joined ?k_are_joined ?a_unjoined_beside ?l_unjoined_beside ?c_unjoined_beside ?k_unjoined_beside ?a_room_kept_by ?l_room_kept_by ?c_room_kept_by ?k_room_kept_by ?a_peeled ?l_peeled ?c_peeled ?k_peeled ?a_check_points ?l_check_points ?c_check_points ?k_check_points ?a_is_point ?l_is_point ?c_is_point ?k_is_point ?a_around ?l_around ?c_around ?k_around ?a_is_between ?l_is_between ?c_is_between ?k_is_between ?a_is_inside ?l_is_inside ?c_is_inside ?k_is_inside ?a_turn ?l_turn ?c_turn ?k_turn ?a_opened ?l_opened ?c_opened ?k_opened ?a_lw_graph ?l_lw_graph ?c_lw_graph ?k_lw_graph ?a_lw_forest ?l_lw_forest ?c_lw_forest ?k_lw_forest ?a_lw_points ?l_lw_points ?c_lw_points ?k_lw_points ?a_lw_refused ?l_lw_refused ?c_lw_refused ?k_lw_refused ?a_lw_closing ?l_lw_closing ?c_lw_closing ?k_lw_closing ?a_lw_odd ?l_lw_odd ?c_lw_odd ?k_lw_odd ?a_lw_deal ?l_lw_deal ?c_lw_deal ?k_lw_deal ?a_lw_draw ?l_lw_draw ?c_lw_draw ?k_lw_draw ?a_lw_pick ?l_lw_pick ?c_lw_pick ?k_lw_pick ?a_lw_mixed ?l_lw_mixed ?c_lw_mixed ?k_lw_mixed ?a_lw_names ?l_lw_names ?c_lw_names ?k_lw_names ?a_lw_main ?l_lw_main ?c_lw_main ?k_lw_main ?sn_Room_Rule ?sa_InvalidDrawing ?ga_InvalidDrawing ?gg_InvalidDrawing ?nb_InvalidDrawing ?tI_InvalidDrawing ?kC_InvalidDrawing ?eC_InvalidDrawing ?tC_InvalidDrawing ?hC_InvalidDrawing ?sC_InvalidDrawing ?hA_InvalidDrawing ?hN_InvalidDrawing ?hT_InvalidDrawing ?hM_InvalidDrawing ?sa_InvalidRule ?ga_InvalidRule ?gg_InvalidRule ?nb_InvalidRule ?tI_InvalidRule ?kC_InvalidRule ?eC_InvalidRule ?tC_InvalidRule ?hC_InvalidRule ?sC_InvalidRule ?hA_InvalidRule ?hN_InvalidRule ?hT_InvalidRule ?hM_InvalidRule ?n_abs ?n_all ?n_any ?n_bool ?n_enumerate ?n_int ?n_isinstance ?n_len ?n_list ?n_max ?n_min ?n_range ?n_repr ?n_set ?n_sorted ?n_str ?n_sum ?n_tuple ?m_LETTERS
    (case aC_Rule => k_is)
    (case pg_Rule => k_is)
    (case hd_Rule => k_is)
    (case po_Rule => k_is)
    (case sa_Rule => k_is)
    (case mk_Rule => k_is)
    (case kc_Rule => k_is)
    (case no_Rule_name => k_is)
    (case no_Rule_gone => k_is)
    (case ha_Rule => k_is)
    (case hn_Rule => k_is)
    (case htk_Rule => k_is)
    (case hm_Rule => k_is)
    (case nd_Rule => k_is)
    (case sx_Rule => k_is)
    (case aC_Room => k_is)
    (case pg_Room => k_is)
    (case hd_Room => k_is)
    (case po_Room => k_is)
    (case sa_Room => k_is)
    (case mk_Room => k_is)
    (case kc_Room => k_is)
    (case no_Room_rules => k_is)
    (case no_Room_names => k_is)
    (case ha_Room => k_is)
    (case hn_Room => k_is)
    (case htk_Room => k_is)
    (case hm_Room => k_is)
    (case aC_InvalidDrawing => k_is)
    (case xL_InvalidDrawing => k_is)
    (case aC_InvalidRule => k_is)
    (case xL_InvalidRule => k_is)
    (case aC_InvalidOrder => k_is)
    (case aC_LeaveError => k_is)
    (case su_InvalidDrawing_InvalidOrder => k_is)
    (case su_InvalidDrawing_LeaveError => k_is)
    (case sb_NoneType_Room => k_is)
    (case sb_bool_Room => k_is)
    (case sb_int_Room => k_is)
    (case sb_str_Room => k_is)
    (case sb_list_Room => k_is)
    (case sb_tuple_Room => k_is)
    (case so_Rule_Room => k_is)
    (case so_Room_Room => k_is)
    (case sb_NoneType_Rule => k_is)
    (case sb_bool_Rule => k_is)
    (case sb_int_Rule => k_is)
    (case sb_str_Rule => k_is)
    (case sb_list_Rule => k_is)
    (case sb_tuple_Rule => k_is)
    (case so_Rule_Rule => k_is)
    (case so_Room_Rule => k_is)
    (case sl_Rule_list => k_is)
    (case sl_Rule_tuple => k_is)
    (case sl_Room_list => k_is)
    (case sl_Room_tuple => k_is)
    (case iL_InvalidOrder => k_is)
    (case tL_InvalidOrder => k_is)
    (case iL_LeaveError => k_is)
    (case tL_LeaveError => k_is)
    (case iL_Room => k_is)
    (case tL_Room => k_is)
    (case iL_Rule => k_is)
    (case tL_Rule => k_is)
    (case a_is_int => k_is)
    (case l_is_int => k_is)
    (case c_is_int => k_is)
    (case k_is_int => k_is)
    (case a_is_index => k_is)
    (case l_is_index => k_is)
    (case c_is_index => k_is)
    (case k_is_index => k_is)
    (case a_is_name => k_is)
    (case l_is_name => k_is)
    (case c_is_name => k_is)
    (case k_is_name => k_is)
    (case a_is_sequence => k_is)
    (case l_is_sequence => k_is)
    (case c_is_sequence => k_is)
    (case k_is_sequence => k_is)
    (case a_are_names => k_is)
    (case l_are_names => k_is)
    (case c_are_names => k_is)
    (case k_are_names => k_is)
    (case a_are_unlike => k_is)
    (case l_are_unlike => k_is)
    (case c_are_unlike => k_is)
    (case k_are_unlike => k_is)
    (case a_lot_of => k_is)
    (case l_lot_of => k_is)
    (case c_lot_of => k_is)
    (case k_lot_of => k_is)
    (case a_bits_of => k_is)
    (case l_bits_of => k_is)
    (case c_bits_of => k_is)
    (case k_bits_of => k_is)
    (case a_names_of => k_is)
    (case l_names_of => k_is)
    (case c_names_of => k_is)
    (case k_names_of => k_is)
    (case a_InvalidRule_init => k_is)
    (case l_InvalidRule_init => k_is)
    (case c_InvalidRule_init => k_is)
    (case k_InvalidRule_init => k_is)
    (case a_InvalidDrawing_init => k_is)
    (case l_InvalidDrawing_init => k_is)
    (case c_InvalidDrawing_init => k_is)
    (case k_InvalidDrawing_init => k_is)
    (case a_Rule_init => k_is)
    (case i_Rule_init => k_is)
    (case l_Rule_init => k_is)
    (case lT_Rule_init => k_is)
    (case lE_Rule_init => k_is)
    (case c_Rule_init => k_is)
    (case k_Rule_init => k_is)
    (case a_Rule_eq => k_is)
    (case i_Rule_eq => k_is)
    (case l_Rule_eq => k_is)
    (case c_Rule_eq => k_is)
    (case k_Rule_eq => k_is)
    (case a_Rule_str => k_is)
    (case i_Rule_str => k_is)
    (case l_Rule_str => k_is)
    (case c_Rule_str => k_is)
    (case k_Rule_str => k_is)
    (case a_read_rule => k_is)
    (case l_read_rule => k_is)
    (case c_read_rule => k_is)
    (case k_read_rule => k_is)
    (case a_Room_init => k_is)
    (case i_Room_init => k_is)
    (case l_Room_init => k_is)
    (case lT_Room_init => k_is)
    (case lE_Room_init => k_is)
    (case c_Room_init => k_is)
    (case k_Room_init => k_is)
    (case cmf_Room_read => k_is)
    (case cmr_Room_read => k_is)
    (case cmi_Room_read => k_is)
    (case crd_Room => k_is)
    (case cga_Room => k_is)
    (case l_Room_read => k_is)
    (case c_Room_read => k_is)
    (case k_Room_read => k_is)
    (case a_Room_without => k_is)
    (case i_Room_without => k_is)
    (case l_Room_without => k_is)
    (case c_Room_without => k_is)
    (case k_Room_without => k_is)
    (case a_Room_len => k_is)
    (case i_Room_len => k_is)
    (case l_Room_len => k_is)
    (case c_Room_len => k_is)
    (case k_Room_len => k_is)
    (case a_Room_getitem => k_is)
    (case i_Room_getitem => k_is)
    (case l_Room_getitem => k_is)
    (case c_Room_getitem => k_is)
    (case k_Room_getitem => k_is)
    (case a_Room_add => k_is)
    (case i_Room_add => k_is)
    (case l_Room_add => k_is)
    (case c_Room_add => k_is)
    (case k_Room_add => k_is)
    (case a_Room_eq => k_is)
    (case i_Room_eq => k_is)
    (case l_Room_eq => k_is)
    (case c_Room_eq => k_is)
    (case k_Room_eq => k_is)
    (case a_Room_str => k_is)
    (case i_Room_str => k_is)
    (case l_Room_str => k_is)
    (case c_Room_str => k_is)
    (case k_Room_str => k_is)
    (case a_least_meeting => k_is)
    (case l_least_meeting => k_is)
    (case c_least_meeting => k_is)
    (case k_least_meeting => k_is)
    (case a_ones_of => k_is)
    (case l_ones_of => k_is)
    (case c_ones_of => k_is)
    (case k_ones_of => k_is)
    (case a_has_one_of => k_is)
    (case l_has_one_of => k_is)
    (case c_has_one_of => k_is)
    (case k_has_one_of => k_is)
    (case a_tree => k_is)
    (case l_tree => k_is)
    (case c_tree => k_is)
    (case k_tree => k_is)
    (case a_taken_down => k_is)
    (case l_taken_down => k_is)
    (case c_taken_down => k_is)
    (case k_taken_down => k_is)
    (case a_check_edges => k_is)
    (case l_check_edges => k_is)
    (case c_check_edges => k_is)
    (case k_check_edges => k_is)
    (case a_is_tuple_of => k_is)
    (case l_is_tuple_of => k_is)
    (case c_is_tuple_of => k_is)
    (case k_is_tuple_of => k_is)
    (case a_ring_at => k_is)
    (case l_ring_at => k_is)
    (case c_ring_at => k_is)
    (case k_ring_at => k_is)
    (case a_are_joined => k_is)
    (case l_are_joined => k_is)
    (case c_are_joined => k_is)
    (case k_are_joined => k_is)
    (case a_unjoined_beside => k_is)
    (case l_unjoined_beside => k_is)
    (case c_unjoined_beside => k_is)
    (case k_unjoined_beside => k_is)
    (case a_room_kept_by => k_is)
    (case l_room_kept_by => k_is)
    (case c_room_kept_by => k_is)
    (case k_room_kept_by => k_is)
    (case a_peeled => k_is)
    (case l_peeled => k_is)
    (case c_peeled => k_is)
    (case k_peeled => k_is)
    (case a_check_points => k_is)
    (case l_check_points => k_is)
    (case c_check_points => k_is)
    (case k_check_points => k_is)
    (case a_is_point => k_is)
    (case l_is_point => k_is)
    (case c_is_point => k_is)
    (case k_is_point => k_is)
    (case a_around => k_is)
    (case l_around => k_is)
    (case c_around => k_is)
    (case k_around => k_is)
    (case a_is_between => k_is)
    (case l_is_between => k_is)
    (case c_is_between => k_is)
    (case k_is_between => k_is)
    (case a_is_inside => k_is)
    (case l_is_inside => k_is)
    (case c_is_inside => k_is)
    (case k_is_inside => k_is)
    (case a_turn => k_is)
    (case l_turn => k_is)
    (case c_turn => k_is)
    (case k_turn => k_is)
    (case a_opened => k_is)
    (case l_opened => k_is)
    (case c_opened => k_is)
    (case k_opened => k_is)
    (case a_lw_graph => k_is)
    (case l_lw_graph => k_is)
    (case c_lw_graph => k_is)
    (case k_lw_graph => k_is)
    (case a_lw_forest => k_is)
    (case l_lw_forest => k_is)
    (case c_lw_forest => k_is)
    (case k_lw_forest => k_is)
    (case a_lw_points => k_is)
    (case l_lw_points => k_is)
    (case c_lw_points => k_is)
    (case k_lw_points => k_is)
    (case a_lw_refused => k_is)
    (case l_lw_refused => k_is)
    (case c_lw_refused => k_is)
    (case k_lw_refused => k_is)
    (case a_lw_closing => k_is)
    (case l_lw_closing => k_is)
    (case c_lw_closing => k_is)
    (case k_lw_closing => k_is)
    (case a_lw_odd => k_is)
    (case l_lw_odd => k_is)
    (case c_lw_odd => k_is)
    (case k_lw_odd => k_is)
    (case a_lw_deal => k_is)
    (case l_lw_deal => k_is)
    (case c_lw_deal => k_is)
    (case k_lw_deal => k_is)
    (case a_lw_draw => k_is)
    (case l_lw_draw => k_is)
    (case c_lw_draw => k_is)
    (case k_lw_draw => k_is)
    (case a_lw_pick => k_is)
    (case l_lw_pick => k_is)
    (case c_lw_pick => k_is)
    (case k_lw_pick => k_is)
    (case a_lw_mixed => k_is)
    (case l_lw_mixed => k_is)
    (case c_lw_mixed => k_is)
    (case k_lw_mixed => k_is)
    (case a_lw_names => k_is)
    (case l_lw_names => k_is)
    (case c_lw_names => k_is)
    (case k_lw_names => k_is)
    (case a_lw_main => k_is)
    (case l_lw_main => k_is)
    (case c_lw_main => k_is)
    (case k_lw_main => k_is)
    (case sn_Room_Rule => k_is)
    (case sa_InvalidDrawing => k_is)
    (case ga_InvalidDrawing => k_is)
    (case gg_InvalidDrawing => k_is)
    (case nb_InvalidDrawing => k_is)
    (case tI_InvalidDrawing => k_is)
    (case kC_InvalidDrawing => k_is)
    (case eC_InvalidDrawing => k_is)
    (case tC_InvalidDrawing => k_is)
    (case hC_InvalidDrawing => k_is)
    (case sC_InvalidDrawing => k_is)
    (case hA_InvalidDrawing => k_is)
    (case hN_InvalidDrawing => k_is)
    (case hT_InvalidDrawing => k_is)
    (case hM_InvalidDrawing => k_is)
    (case sa_InvalidRule => k_is)
    (case ga_InvalidRule => k_is)
    (case gg_InvalidRule => k_is)
    (case nb_InvalidRule => k_is)
    (case tI_InvalidRule => k_is)
    (case kC_InvalidRule => k_is)
    (case eC_InvalidRule => k_is)
    (case tC_InvalidRule => k_is)
    (case hC_InvalidRule => k_is)
    (case sC_InvalidRule => k_is)
    (case hA_InvalidRule => k_is)
    (case hN_InvalidRule => k_is)
    (case hT_InvalidRule => k_is)
    (case hM_InvalidRule => k_is)
    (case n_abs => k_is)
    (case n_all => k_is)
    (case n_any => k_is)
    (case n_bool => k_is)
    (case n_enumerate => k_is)
    (case n_int => k_is)
    (case n_isinstance => k_is)
    (case n_len => k_is)
    (case n_list => k_is)
    (case n_max => k_is)
    (case n_min => k_is)
    (case n_range => k_is)
    (case n_repr => k_is)
    (case n_set => k_is)
    (case n_sorted => k_is)
    (case n_str => k_is)
    (case n_sum => k_is)
    (case n_tuple => k_is)
    (case m_LETTERS => k_is)

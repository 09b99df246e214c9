import PyProof.Rows.All
import Wide.All
import OpenK.AllK
import Wide.FinOn
import HandS.ForMost
import HandS.Flow
import HandS.Style
import HandS.StrMore
import HandS.IsInst
import HandS.Zip
import HandS.Conv
import HandS.Walk
import PyProof.Rows.StrRev
import HandS.Star
import HandS.TryOnly
import KE.GoesNew
import KE.GoesMore
import HandS.SetBool
import HandS.Strs
import KE.GoesComp
import HandS.More
import HandS.TupAny
import PyProof.StrBlock2
import PyProof.Rows.StrCountLaw
import PyProof.DictTable
import HandS.Exc
import HandS.TryMany
import HandS.ExcInit
import HandS.ExcField
import HandS.HotCalls
import HandS.Lambda
import HandS.WordsExc
import KE.KDflt
import HandS.SetTxt0
import PyProof.Rows.SetFrom
import PyProof.FactsAll.subtypes_4
import HandS.SetFor
import PyProof.Rows.SortShellAny
import PyProof.InstEq
import HandS.OwnEq
import HandS.FStr
import HandS.EndTab
import KE.KNestM
import PySem.Challenge.RW_threadmark_k77_strings_as_values
set_option Elab.async false
set_option linter.all false
set_option maxRecDepth 100000
/-! The part that every law of this program shares: heaps, the bag, a few rules. -/
namespace Tm
open PySem PySem.Spec PyProof.Rows L2

/-! ### heaps: all but the object at b is as it was -/
def Kp (b : Addr) (H H' : Hp) : Prop := ∀ p o, p ≠ b → H p = some o → H' p = some o
theorem Kp.refl (b : Addr) (H : Hp) : Kp b H H := fun _ _ _ h => h
theorem Kp.trans {b : Addr} {H H1 H2 : Hp} (x : Kp b H H1) (y : Kp b H1 H2) : Kp b H H2 := fun p o n h => y p o n (x p o n h)
theorem Kp.of_same {b : Addr} {H H' : Hp} (s : Same H H') : Kp b H H' := fun p o _ h => s p o h
theorem Kp.set {b : Addr} {H : Hp} {o : HO} : Kp b H (upd H b o) := fun p u n h => by rw [upd_ne n]; exact h
theorem Kp.new {b q : Addr} {H : Hp} {o : HO} (h : H q = none) : Kp b H (upd H q o) := fun p u _ e => by
  rw [upd_ne (ne_of_none e h)]; exact e
/-- a store to an object that was not there at the start -/
theorem Kp.put {b q : Addr} {H H' : Hp} {o : HO} (k : Kp b H H') (h : H q = none) : Kp b H (upd H' q o) := fun p u n e => by
  rw [upd_ne (ne_of_none e h)]; exact k p u n e
theorem same_upd {H : Hp} {p : Addr} {o : HO} (h : H p = none) : Same H (upd H p o) := fun b x e => by
  rw [upd_ne (ne_of_none e h)]; exact e
theorem same_put {q : Addr} {H H' : Hp} {o : HO} (k : Same H H') (h : H q = none) : Same H (upd H' q o) := fun p u e => by
  rw [upd_ne (ne_of_none e h)]; exact k p u e
theorem Kp.free {b : Addr} {H H' : Hp} (e : Kp b H H') {l : Addr} (hb : ∃ o, H' b = some o) (h : H' l = none) : H l = none := by
  obtain ⟨o, hb⟩ := hb
  have n : l ≠ b := fun z => by rw [z, hb] at h; cases h
  cases q : H l with
  | none => rfl
  | some o => rw [e l o n q] at h; cases h
theorem Kp.seq {K : PySem.W.Frag} {b : Addr} {H H' : Hp} {a : Addr} {xs : List V} (e : Kp b H H') (n : a ≠ b) (h : SqL K H a xs) : SqL K H' a xs :=
  h.imp (fun seen => seen.imp (e a _ n) (fun ⟨ob, at_a⟩ => ⟨ob, e a _ n at_a⟩)) id

/-! ### the bag of the draws -/
def Bag (H : Hp) (b l : Addr) : Prop := ∃ (xs : List Int) (i n s : Int), H b = some (.lst [.ref l, .int i, .int n, .int s]) ∧ H l = some (.lst (xs.map V.int)) ∧ 0 ≤ i ∧ 0 ≤ n ∧ 0 ≤ s ∧ s < 2147483549
theorem bag_ne {H : Hp} {b l : Addr} {xs : List Int} {u v w : V} {a : Addr} (h : H b = some (.lst [.ref a, u, v, w])) (hl : H l = some (.lst (xs.map V.int))) : l ≠ b := ne_of hl h (by
  intro e
  have e2 := HO.lst.inj e
  cases xs with
  | nil => cases e2
  | cons x r => cases e2)
theorem Bag.hb {H : Hp} {b l : Addr} (B : Bag H b l) : ∃ o, H b = some o := by
  obtain ⟨xs, i, n, s, h, _⟩ := B
  exact ⟨_, h⟩
theorem Bag.hl {H : Hp} {b l : Addr} (B : Bag H b l) : ∃ o, H l = some o := by
  obtain ⟨xs, i, n, s, _, h, _⟩ := B
  exact ⟨_, h⟩
theorem Bag.nb {H : Hp} {b l q : Addr} (B : Bag H b l) (h : H q = none) : q ≠ b := fun e => by
  obtain ⟨o, hb⟩ := B.hb
  rw [e, hb] at h; cases h
theorem Bag.nl {H : Hp} {b l q : Addr} (B : Bag H b l) (h : H q = none) : q ≠ l := fun e => by
  obtain ⟨o, hb⟩ := B.hl
  rw [e, hb] at h; cases h
/-- a store elsewhere -/
theorem Bag.put {H : Hp} {b l q : Addr} {o : HO} (B : Bag H b l) (n1 : q ≠ b) (n2 : q ≠ l) : Bag (upd H q o) b l := by
  obtain ⟨xs, i, n, s, hb, hl, r⟩ := B
  exact ⟨xs, i, n, s, by rw [upd_ne n1.symm]; exact hb, by rw [upd_ne n2.symm]; exact hl, r⟩
theorem Bag.new {H : Hp} {b l q : Addr} {o : HO} (B : Bag H b l) (h : H q = none) : Bag (upd H q o) b l := B.put (B.nb h) (B.nl h)
theorem Bag.same {H H' : Hp} {b l : Addr} (B : Bag H b l) (k : Same H H') : Bag H' b l := by
  obtain ⟨xs, i, n, s, hb, hl, r⟩ := B
  exact ⟨xs, i, n, s, k _ _ hb, k _ _ hl, r⟩

/-! ### list(text) -/
def sig (c : Nat) : V := .str ⟨#[c]⟩
/-- two lists, place by place -/
theorem placewise {α β : Type} {R : α → β → Prop} : ∀ (as : List α) (bs : List β), as.length = bs.length → (∀ (j : Nat) (a : α) (b : β), as[j]? = some a → bs[j]? = some b → R a b) → Paired R as bs
  | [], [], _, _ => .nil
  | a :: as, b :: bs, hl, h => .cons (h 0 a b rfl rfl) (placewise as bs (Nat.succ.inj hl) fun j x y hx hy => h (j + 1) x y hx hy)
/-- the cells that the machine drew out of a text are its signs -/
theorem signs_drawn (z : Str) (cells : Array Value) (drawn : ItemsOf (SignAt z) cells z.cps.size) : Vals (z.cps.toList.map sig) cells.toList := by
  apply placewise
  · simp [drawn.1]
  · intro j v u hv hu
    rw [Array.getElem?_toList] at hu
    rcases drawn.2 j u hu with ⟨code, tok, there, rfl⟩
    have same : v = sig code := by
      rw [List.getElem?_map, Array.getElem?_toList, there] at hv
      exact (Option.some.inj hv).symm
    rw [same]
    exact ⟨tok, rfl⟩
theorem call_listS {X : Cx} (calm : X.calm = true) : CallR X (.type "list") (fun given H Q => ∃ z : Str, given = [.str z] ∧ z.length ≤ sizeLine ∧ ∀ l, H l = none → Q (.ref l) (upd H l (.lst (z.cps.toList.map sig)))) :=
  fun pins s σ H given held Q inv rel ask => by
    rcases ask with ⟨z, rfl, short, hand⟩
    match held, rel with
    | [_], .cons ⟨tok, rfl⟩ .nil =>
      apply PySem.call_list_str (inv.ok.hd calm) z tok (hn := short)
      intro heap toks cells ver kept made drawn
      have long : (z.cps.toList.map sig).length ≤ sizeLine := by
        rw [List.length_map, Array.length_toList]
        exact short
      have stands : Inv X pins σ (upd H s.heap.objs.size (.lst (z.cps.toList.map sig))) { s with heap := heap, toks := toks } :=
        inv.laid kept (Nat.le_refl _) ⟨long, cells.toList, ver, signs_drawn z cells drawn, made⟩
      exact ⟨V.ref s.heap.objs.size, _, stands, rfl, hand _ (inv.hok.fresh (Nat.le_refl _))⟩

/-! ### small things -/
theorem cut {t1 t2 : TS} {D : Ends} {σ : L2.St} {H : Hp} (Pv : L2.St → Hp → Prop) (h2 : ∀ σ' H', Pv σ' H' → t2 D σ' H') (h1 : ∀ N : L2.St → Hp → Prop, (∀ σ' H', Pv σ' H' → N σ' H') → t1 { D with nx := N } σ H) : tSeq t1 t2 D σ H := h1 _ h2
theorem cut_ints (ns : List Int) (lo hi : Option Int) : ∃ ms : List Int, cutV (ns.map V.int) lo hi = ms.map V.int := by
  unfold cutV
  rw [← List.map_drop, ← List.map_take]
  exact ⟨_, rfl⟩
theorem cut_int {ns : List Int} {lo hi : Option Int} {i : Nat} {y : V} (h : (cutV (ns.map V.int) lo hi)[i]? = some y) : ∃ u, y = V.int u := by
  obtain ⟨ms, e⟩ := cut_ints ns lo hi
  rw [e, List.getElem?_map] at h
  cases e2 : ms[i]? with
  | none => rw [e2] at h; cases h
  | some u => rw [e2] at h; exact ⟨u, (Option.some.inj h).symm⟩

/-! ### what the helpers promise -/
def spBag (K : PySem.W.Frag) : Sp := fun vs H Q _ => ∃ (a : Addr) (ns : List Int), vs = [.ref a] ∧ SqL K H a (ns.map V.int) ∧ ∀ H' b l, Same H H' → H b = none → H l = none → Bag H' b l → Q (.ref b) H'
def spPull : Sp := fun vs H Q _ => ∃ (b l : Addr) (m : Int), vs = [.ref b, .int m] ∧ Bag H b l ∧ 0 < m ∧ m < 1073741824 ∧ ∀ H' (d : Int), Kp b H H' → Bag H' b l → 0 ≤ d → d < m → Q (.int d) H'

/-! ### equal data -/
inductive Eqv (H : Hp) : Nat → V → V → Prop where
  | non (n : Nat) : Eqv H n .non .non
  | bl (n : Nat) (b : Bool) : Eqv H n (.bl b) (.bl b)
  | int (n : Nat) (i : Int) : Eqv H n (.int i) (.int i)
  | str (n : Nat) (z : Str) : Eqv H n (.str z) (.str z)
  | lst {n : Nat} {p q : Addr} {xs ys : List V} (hp : H p = some (.lst xs)) (hq : H q = some (.lst ys)) (hl : xs.length = ys.length) (hz : xs.length ≤ 10000) (h : ∀ (i : Nat) (x y : V), xs[i]? = some x → ys[i]? = some y → Eqv H n x y) : Eqv H (n + 1) (.ref p) (.ref q)
  | tup {n : Nat} {p q : Addr} {xs ys : List V} (hp : H p = some (.tup xs)) (hq : H q = some (.tup ys)) (hl : xs.length = ys.length) (hz : xs.length ≤ 10000) (h : ∀ (i : Nat) (x y : V), xs[i]? = some x → ys[i]? = some y → Eqv H n x y) : Eqv H (n + 1) (.ref p) (.ref q)
theorem Eqv.same {H H' : Hp} (s : Same H H') {n : Nat} {x y : V} (e : Eqv H n x y) : Eqv H' n x y := by
  induction e with
  | non n => exact .non n
  | bl n b => exact .bl n b
  | int n i => exact .int n i
  | str n z => exact .str n z
  | lst hp hq hl hz h ih => exact .lst (s _ _ hp) (s _ _ hq) hl hz ih
  | tup hp hq hl hz h ih => exact .tup (s _ _ hp) (s _ _ hq) hl hz ih
def spSame (n : Nat) : Sp := fun vs H Q _ => ∃ (x y : V), vs = [x, y] ∧ Eqv H n x y ∧ ∀ H', Same H H' → Q (.bl true) H'
/-- the type of a flat value -/
theorem kit_list {K : PySem.W.Frag} {a : String} {r : Bool} (h : kitB a "list" = some r) (h2 : r = false → kitB a "tuple" = some false) : PySem.W.kitAny K (.type a) [.type "list", .type "tuple"] = some r := by
  refine kitAny_cons (kit_ty h) (fun e => ?_) (fun e => e)
  subst e
  exact kitAny_cons (kit_ty (h2 rfl)) (fun _ => kitAny_nil) (fun e => by cases e)
theorem kit_tup {K : PySem.W.Frag} : PySem.W.kitAny K (.type "tuple") [.type "list", .type "tuple"] = some true :=
  kitAny_cons (b := false) (kit_ty (by decide +kernel)) (fun _ => kitAny_cons (b := true) (kit_ty (by decide +kernel)) (fun e => by cases e) (fun _ => rfl)) (fun e => by cases e)
/-- zip of two tuples, walked to the end of the shorter -/
theorem zip_tuples {K : PySem.W.Frag} {a b : Addr} {xs ys : List V} (hl : xs.length = ys.length) : Walk (RZ.ItzT K a b) xs.length (fun H => SqT K H a xs ∧ SqT K H b ys) (YPair (fun i => xs[i]?) (fun i => ys[i]?)) where
  goes := fun i H lt both => ⟨xs, ys, xs[i], ys[i]'(by omega), both.1, both.2, List.getElem?_eq_getElem lt, List.getElem?_eq_getElem (by omega)⟩
  stops := fun H both => ⟨xs, ys, both.1, both.2, .inl (Nat.le_refl _)⟩
  yields := fun i H v H' _ both ⟨T, x, y, e, new, after, at_x, at_y⟩ => ⟨T, x, y, e, new, after, at_x xs both.1, at_y ys both.2⟩
def spOf (K : PySem.W.Frag) : Sp := fun vs H Q _ => ∃ (b l : Addr) (t : V) (xs : List V), vs = [.ref b, t] ∧ Bag H b l ∧
  ((∃ a, t = .ref a ∧ a ≠ b ∧ SqL K H a xs) ∨ (∃ z : Str, t = .str z ∧ z.length ≤ sizeLine ∧ xs = z.cps.toList.map sig)) ∧ 0 < xs.length ∧ xs.length < 1073741824 ∧ ∀ H' x, Kp b H H' → Bag H' b l → x ∈ xs → Q x H'
def spMixed (K : PySem.W.Frag) : Sp := fun vs H Q _ => ∃ (b l a : Addr) (xs : List V), vs = [.ref b, .ref a] ∧ Bag H b l ∧ a ≠ b ∧ SqL K H a xs ∧ xs.length ≤ 1000 ∧
  ∀ H' p ys, Kp b H H' → Bag H' b l → H p = none → H' p = some (.lst ys) → ys.Perm xs → Q (.ref p) H'
theorem erasePm {α : Type} : ∀ (l : List α) (i : Nat) (h : i < l.length), (l[i] :: l.eraseIdx i).Perm l
  | [], i, h => absurd h (Nat.not_lt_zero _)
  | x :: r, 0, h => .refl _
  | x :: r, i + 1, h => by
    have hr : i < r.length := Nat.lt_of_succ_lt_succ h
    show (r[i] :: x :: r.eraseIdx i).Perm (x :: r)
    exact (List.Perm.swap x _ _).trans ((erasePm r i hr).cons x)
theorem ifF {c : Bool} {A B : Prop} (h : c = false) (hb : B) : if c = true then A else B := by rw [h]; exact iteF hb
theorem ifT {c : Bool} {A B : Prop} (h : c = true) (ha : A) : if c = true then A else B := by rw [h]; exact iteT ha




/-! ### texts as lists of signs -/
def txt (cs : List Nat) : Str := ⟨cs.toArray⟩
theorem txt_len (cs : List Nat) : (txt cs).length = cs.length := by show cs.toArray.size = _; simp
theorem txt_cps (cs : List Nat) : (txt cs).cps.toList = cs := by show cs.toArray.toList = _; simp
theorem txt_of (z : Str) : txt z.cps.toList = z := by show (⟨z.cps.toList.toArray⟩ : Str) = z; simp
theorem txt_app (a b : List Nat) : txt a ++ txt b = txt (a ++ b) := by
  show (⟨a.toArray ++ b.toArray⟩ : Str) = ⟨(a ++ b).toArray⟩
  simp
theorem txt_inj {a b : List Nat} (h : txt a = txt b) : a = b := by rw [← txt_cps a, ← txt_cps b, h]
theorem txt_minus : Str.ofString "-" = txt [45] := by decide +kernel
theorem txt_empty : Str.ofString "" = txt [] := by decide +kernel
theorem sig_txt (c : Nat) : sig c = .str (txt [c]) := rfl
def lettersL : List Nat → List Nat
  | [] => []
  | c :: r => if c = 45 then r else c :: r
def signL : List Nat → Nat
  | [] => 0
  | c :: r => if c = 45 then 1 else 0
def signedL (t : Int) (cs : List Nat) : List Nat := if t % 2 = 1 then 45 :: cs else cs
theorem letters_len (ts : List Nat) : (lettersL ts).length + signL ts = ts.length := by
  cases ts with
  | nil => rfl
  | cons c r =>
    show (if c = 45 then r else c :: r).length + (if c = 45 then 1 else 0) = r.length + 1
    by_cases h : c = 45
    · rw [if_pos h, if_pos h]
    · rw [if_neg h, if_neg h, List.length_cons]
theorem remove_minus (ts : List Nat) : Txt.removeprefix (txt ts) (Str.ofString "-") = txt (lettersL ts) := by
  rw [txt_minus]
  unfold Txt.removeprefix
  cases ts with
  | nil => rfl
  | cons c r =>
    have e : Builtin.Str.subAt (txt (c :: r)) (txt [45]) 0 = decide (c = 45) := by
      unfold Builtin.Str.subAt
      show ((c :: r).toArray.extract 0 (0 + 1) == #[45]) = _
      have e2 : (c :: r).toArray.extract 0 (0 + 1) = #[c] := by simp
      rw [e2]
      by_cases h : c = 45
      · subst h; rfl
      · rw [decide_eq_false h]
        simp [h]
    rw [e]
    show _ = txt (if c = 45 then r else c :: r)
    by_cases h : c = 45
    · rw [decide_eq_true h, if_pos rfl, if_pos h]
      unfold Txt.affix
      have e3 : ((txt (c :: r)).length - (txt [45]).length == (txt (c :: r)).length) = false := by
        rw [txt_len, txt_len]
        simp
      show (if ((txt (c :: r)).length - (txt [45]).length == (txt (c :: r)).length) = true then _ else _) = _
      rw [e3, if_neg Bool.false_ne_true]
      show (⟨(c :: r).toArray.extract 1 (c :: r).toArray.size⟩ : Str) = ⟨r.toArray⟩
      simp
    · rw [decide_eq_false h, if_neg Bool.false_ne_true, if_neg h]
      rfl
theorem join_txt : ∀ (xs : List (List Nat)), Txt.join (Str.ofString "") (xs.map txt) = txt xs.flatten := by
  intro xs
  show Builtin.Str.glued _ _ = _
  rw [StrLaws.glued_eq_join, txt_empty]
  induction xs with
  | nil => rfl
  | cons x r ih =>
    cases r with
    | nil => show txt x = txt (x ++ []); rw [List.append_nil]
    | cons y r =>
      show txt x ++ txt [] ++ Str.join (txt []) ((y :: r).map txt) = _
      rw [ih, txt_app, txt_app, List.append_nil]
      rfl
theorem flat_ones (cs : List Nat) : (cs.map fun c => [c]).flatten = cs := by
  induction cs with
  | nil => rfl
  | cons c r ih => show c :: (r.map fun c => [c]).flatten = _; rw [ih]
theorem join_sigs (cs : List Nat) : Txt.join (Str.ofString "") (cs.map fun c => txt [c]) = txt cs := by
  have e : (cs.map fun c => txt [c]) = (cs.map fun c => [c]).map txt := by rw [List.map_map]; rfl
  rw [e, join_txt, flat_ones]
theorem len_ones (cs : List Nat) : ((cs.map fun c => txt [c]).map (·.length)).sum = cs.length := by
  induction cs with
  | nil => rfl
  | cons c r ih =>
    show (txt [c]).length + ((r.map fun c => txt [c]).map (·.length)).sum = _
    rw [ih, txt_len, List.length_cons]
    simp [Nat.add_comm]
/-- a word: its sign, its letters (none is the sign) -/
def wd (s : Bool) (cs : List Nat) : List Nat := if s then 45 :: cs else cs
def Lt (cs : List Nat) : Prop := ∀ c ∈ cs, c ≠ 45
theorem letters_wd {s : Bool} {cs : List Nat} (h : Lt cs) : lettersL (wd s cs) = cs := by
  cases s with
  | true => rfl
  | false =>
    cases cs with
    | nil => rfl
    | cons c r =>
      show (if c = 45 then r else c :: r) = c :: r
      rw [if_neg (h c List.mem_cons_self)]
theorem sign_wd {s : Bool} {cs : List Nat} (h : Lt cs) : signL (wd s cs) = s.toNat := by
  cases s with
  | true => rfl
  | false =>
    cases cs with
    | nil => rfl
    | cons c r =>
      show (if c = 45 then 1 else 0) = 0
      rw [if_neg (h c List.mem_cons_self)]
theorem signed_wd (t : Int) (cs : List Nat) : signedL t cs = wd (decide (t % 2 = 1)) cs := by
  unfold signedL wd
  by_cases h : t % 2 = 1
  · rw [if_pos h, decide_eq_true h]; rfl
  · rw [if_neg h, decide_eq_false h]; rfl
theorem wd_len (s : Bool) (cs : List Nat) : (wd s cs).length = cs.length + s.toNat := by cases s <;> rfl
def spLetters : Sp := fun vs H Q _ => ∃ ts : List Nat, vs = [.str (txt ts)] ∧ ts.length ≤ sizeLine ∧ Q (.str (txt (lettersL ts))) H
def spSignOf : Sp := fun vs H Q _ => ∃ ts : List Nat, vs = [.str (txt ts)] ∧ ts.length ≤ sizeLine ∧ Q (.int (signL ts)) H
def spSigned : Sp := fun vs H Q _ => ∃ (t : Int) (cs : List Nat), vs = [.int t, .str (txt cs)] ∧ cs.length < sizeLine ∧ Q (.str (txt (signedL t cs))) H

/-! ### cancelling -/
def stp (rs : List Nat) (c : Nat) : List Nat := match rs with
  | [] => [c]
  | d :: r => if d = c then r else c :: d :: r
def noAdj : List Nat → Prop
  | a :: b :: r => a ≠ b ∧ noAdj (b :: r)
  | _ => True
theorem noAdj.tail {a : Nat} {r : List Nat} (h : noAdj (a :: r)) : noAdj r := by
  cases r with
  | nil => trivial
  | cons b r => exact h.2
theorem stp_noAdj {rs : List Nat} (c : Nat) (h : noAdj rs) : noAdj (stp rs c) := by
  cases rs with
  | nil => trivial
  | cons d r =>
    unfold stp
    dsimp only
    by_cases e : d = c
    · rw [if_pos e]; exact h.tail
    · rw [if_neg e]; exact ⟨fun z => e z.symm, h⟩
theorem stp_stp {rs : List Nat} (c : Nat) (h : noAdj rs) : stp (stp rs c) c = rs := by
  cases rs with
  | nil => show (if c = c then [] else _) = _; rw [if_pos rfl]
  | cons d r =>
    by_cases e : d = c
    · subst e
      have e1 : stp (d :: r) d = r := if_pos rfl
      rw [e1]
      cases r with
      | nil => rfl
      | cons b r =>
        show (if b = d then r else d :: b :: r) = _
        rw [if_neg (fun z => h.1 z.symm)]
    · have e1 : stp (d :: r) c = c :: d :: r := if_neg e
      rw [e1]
      show (if c = c then d :: r else _) = _
      rw [if_pos rfl]
def redR (cs : List Nat) : List Nat := cs.foldl stp []
def redL (cs : List Nat) : List Nat := (redR cs).reverse
theorem fold_noAdj : ∀ (cs rs : List Nat), noAdj rs → noAdj (cs.foldl stp rs)
  | [], _, h => h
  | c :: r, rs, h => fold_noAdj r (stp rs c) (stp_noAdj c h)
theorem redR_snoc (cs : List Nat) (c : Nat) : redR (cs ++ [c]) = stp (redR cs) c := by
  unfold redR
  rw [List.foldl_append]
  rfl
theorem red_cancel (a b : List Nat) (c : Nat) : redL (a ++ c :: c :: b) = redL (a ++ b) := by
  unfold redL redR
  rw [List.foldl_append, List.foldl_append]
  show (b.foldl stp (stp (stp (a.foldl stp []) c) c)).reverse = _
  rw [stp_stp c (fold_noAdj a [] trivial)]
theorem stp_mem {rs : List Nat} {c x : Nat} (h : x ∈ stp rs c) : x = c ∨ x ∈ rs := by
  cases rs with
  | nil => exact .inl (List.mem_singleton.mp h)
  | cons d r =>
    by_cases e : d = c
    · have e1 : stp (d :: r) c = r := if_pos e
      rw [e1] at h
      exact .inr (List.mem_cons_of_mem _ h)
    · have e1 : stp (d :: r) c = c :: d :: r := if_neg e
      rw [e1] at h
      exact (List.mem_cons.mp h)
theorem stp_len (rs : List Nat) (c : Nat) : (stp rs c).length ≤ rs.length + 1 := by
  cases rs with
  | nil => exact Nat.le_refl _
  | cons d r =>
    by_cases e : d = c
    · have e1 : stp (d :: r) c = r := if_pos e
      rw [e1, List.length_cons]; omega
    · have e1 : stp (d :: r) c = c :: d :: r := if_neg e
      rw [e1]; exact Nat.le_refl _
def still (cs : List Nat) : Prop := ∀ (i : Nat) (a b : Nat), cs[i]? = some a → cs[i + 1]? = some b → a ≠ b
theorem redR_take {cs : List Nat} (h : still cs) : ∀ k, k ≤ cs.length → redR (cs.take k) = (cs.take k).reverse
  | 0, _ => rfl
  | k + 1, hk => by
    have hk1 : k < cs.length := hk
    rw [List.take_succ_eq_append_getElem hk1, redR_snoc, redR_take h k (by omega), List.reverse_append]
    cases k with
    | zero => rfl
    | succ j =>
      have hj : j < cs.length := by omega
      rw [List.take_succ_eq_append_getElem hj, List.reverse_append]
      show (if cs[j] = cs[j + 1] then _ else cs[j + 1] :: cs[j] :: (cs.take j).reverse) = cs[j + 1] :: cs[j] :: (cs.take j).reverse
      rw [if_neg (h j _ _ (List.getElem?_eq_getElem hj) (List.getElem?_eq_getElem hk1))]
theorem red_still {cs : List Nat} (h : still cs) : redL cs = cs := by
  have e := redR_take h cs.length (Nat.le_refl _)
  rw [List.take_length] at e
  unfold redL
  rw [e, List.reverse_reverse]
theorem redR_len (cs : List Nat) : (redR cs).length ≤ cs.length := by
  have : ∀ (cs rs : List Nat), (cs.foldl stp rs).length ≤ rs.length + cs.length := by
    intro cs
    induction cs with
    | nil => intro rs; exact Nat.le_refl _
    | cons c r ih =>
      intro rs
      have h1 := ih (stp rs c)
      have h2 := stp_len rs c
      show (r.foldl stp (stp rs c)).length ≤ rs.length + (r.length + 1)
      omega
  have h := this cs []
  rw [List.length_nil, Nat.zero_add] at h
  exact h
def spReduced : Sp := fun vs H Q _ => ∃ ts : List Nat, vs = [.str (txt ts)] ∧ ts.length ≤ 1000 ∧ ∀ H', Same H H' → Q (.str (txt (signedL (signL ts) (redL (lettersL ts))))) H'

/-! ### slices of texts; lists of ints as data -/
theorem cutS_take (cs : List Nat) (k : Nat) : cutS (txt cs) none (some (k : Int)) = txt (cs.take k) := by
  unfold cutS
  rw [txt_cps, HT.sIx_none, HT.sIx_nat, txt_len]
  show txt _ = txt _
  congr 1
  rw [List.drop_zero, Nat.sub_zero]
  by_cases h : k ≤ cs.length
  · rw [Nat.min_eq_left h]
  · rw [Nat.min_eq_right (by omega), List.take_length, List.take_of_length_le (by omega)]
theorem cutS_drop (cs : List Nat) (k : Nat) : cutS (txt cs) (some (k : Int)) none = txt (cs.drop k) := by
  unfold cutS
  rw [txt_cps, HT.sIx_none, HT.sIx_nat, txt_len]
  show txt _ = txt _
  congr 1
  by_cases h : k ≤ cs.length
  · rw [Nat.min_eq_left h]
    exact List.take_of_length_le (by rw [List.length_drop]; exact Nat.le_refl _)
  · rw [Nat.min_eq_right (by omega), List.drop_of_length_le (Nat.le_refl _), List.drop_of_length_le (l := cs) (by omega)]
    exact List.take_nil
theorem cutV_take (xs : List V) (k : Nat) : cutV xs none (some (k : Int)) = xs.take k := by
  unfold cutV
  rw [HT.sIx_none, HT.sIx_nat, List.drop_zero, Nat.sub_zero]
  by_cases h : k ≤ xs.length
  · rw [Nat.min_eq_left h]
  · rw [Nat.min_eq_right (by omega), List.take_length, List.take_of_length_le (by omega)]
theorem dp_ints {K : PySem.W.Frag} {H : Hp} : ∀ ns : List Int, DpAll K H (ns.map V.int) (ns.map PyData.int)
  | [] => .nil
  | n :: r => .cons (.int n) (dp_ints r)
theorem shaped_ints' (ns : List Int) : SeqAt.shaped (.list (ns.map PyData.int)) = true := PySem.W.ke_shaped_ints ns
theorem signed_wd0 {s : Bool} (cs : List Nat) : signedL ((s.toNat : Nat) : Int) cs = wd s cs := by cases s <;> rfl
def spLSigned : Sp := spSigned
def spLets : Sp := fun vs H Q _ => vs = [] ∧ Q (.str (Str.ofString "abcdefghijklmnopqrstuvwx")) H
def alpha : List Nat := [97, 98, 99, 100, 101, 102, 103, 104, 105, 106, 107, 108, 109, 110, 111, 112, 113, 114, 115, 116, 117, 118, 119, 120]
theorem txt_alpha : Str.ofString "abcdefghijklmnopqrstuvwx" = txt alpha := by decide +kernel
theorem alpha_lt {c : Nat} (h : c ∈ alpha) : c ≠ 45 := by
  intro e
  subst e
  exact absurd h (by decide)
theorem perm_sigs {ys : List V} {cs : List Nat} (h : ys.Perm (cs.map sig)) : ∃ ds : List Nat, ys = ds.map sig ∧ ds.Perm cs := by
  refine ⟨ys.map (fun v => match v with | .str z => z.cps.toList.headD 0 | _ => 0), ?_, ?_⟩
  · rw [List.map_map]
    have : ∀ y ∈ ys, (sig ∘ fun v => match v with | .str z => z.cps.toList.headD 0 | _ => 0) y = y := by
      intro y hy
      obtain ⟨c, _, rfl⟩ := List.mem_map.mp (h.mem_iff.mp hy)
      rfl
    rw [List.map_congr_left this, List.map_id']
  · have h2 := h.map (fun v => match v with | .str z => z.cps.toList.headD 0 | _ => 0)
    rw [List.map_map] at h2
    have e : ((fun v => match v with | V.str z => z.cps.toList.headD 0 | _ => 0) ∘ sig) = id := by funext c; rfl
    rw [e, List.map_id] at h2
    exact h2
def spLaw (K : PySem.W.Frag) : Sp := fun vs H Q _ => ∃ (a : Addr) (ns : List Int), vs = [.ref a] ∧ SqL K H a (ns.map V.int) ∧ ns.length ≤ 63 ∧ ∀ H', Q (.bl true) H'
end Tm

/-! a text backwards -/
namespace Tm
open PySem PySem.Spec PyProof.Rows L2
def tBackS (te : TE) : TE := fun σ H Q => te σ H fun v H1 => ∃ cs : List Nat, v = .str (txt cs) ∧ cs.length ≤ sizeLine ∧ Q (.str (txt cs.reverse)) H1
theorem back_txt (cs : List Nat) (u : Tok) : Txt.sliceBy (txt cs) none none (-1, u) = txt cs.reverse := by
  have same : (Txt.sliceBy (txt cs) none none (-1, u)).cps.toList = cs.reverse := by
    rw [step_rev_list]
    apply List.ext_getElem
    · simp [txt_len]
    · intro j hj hk
      have hj2 : j < cs.length := by simpa using hk
      rw [List.getElem_map, List.getElem_range, List.getElem_reverse, txt_len]
      show cs.toArray.getD (cs.length - 1 - j) 0 = _
      rw [Array.getD_eq_getD_getElem?, List.getElem?_toArray, List.getElem?_eq_getElem (by omega)]
      rfl
  rw [← txt_of (Txt.sliceBy (txt cs) none none (-1, u)), same]
theorem text_stays (e : Expr) (z : Str) (t : Tok) (r : Value) : letTemporaryGo e (.str z t) r = pure () := by cases e <;> rfl
theorem pe_back {X : Cx} {e : Expr} {te : TE} {k : Nat} {p1 p2 p3 pos : Pos} (he : PE X e te) :
    PE X (.Subscript e (.Slice none none (some (.UnaryOp .USub (.Constant (.int 1) k p1) p2)) p3) pos) (tBackS te) where
  run pins s σ H Q inv ask := by
    have minus : PE X (.UnaryOp .USub (.Constant (.int 1) k p1) p2) _ := pe_un un_neg pe_int
    apply PyProof.Rows.Subscript_
    apply wpAny_mono (he.run pins s σ H _ inv ask) _ (fun _ _ raised => raised)
    rintro v s1 ⟨x, H1, inv1, rel, cs, rfl, short, hand⟩
    rcases rel with ⟨tok, rfl⟩
    apply wpAny_Slice
    rw [evalPart_none, evalPart_some]
    apply wpAny_pure
    apply wpAny_pure
    apply wpAny_mono (minus.run pins s1 σ H1 (fun y H2 => y = .int (-1) ∧ H2 = H1) inv1 ?ask) _ (fun _ _ raised => raised)
    case ask => exact ⟨_, rfl, rfl, rfl⟩
    rintro v s2 ⟨y, H2, inv2, rel, rfl, rfl⟩
    rcases rel with ⟨unit, rfl⟩
    apply subscriptTail_builtin (T := "str") (typeIs_str _ _ _) F.slot_str_getitem.lookup (ht := text_stays e _ _)
    apply wpAny_getItem_str_slice (l := none) (u := none) (st := some (-1, unit)) ⟨_, Heap.get?_push_size _ rfl, rfl, rfl⟩ rfl
    apply post_val_or_str
    refine ⟨?_, fun tok2 ct => ⟨.str (txt cs.reverse), H2, ?_, ⟨tok2, ?_⟩, hand⟩⟩
    · exact Nat.le_trans (Txt.sliceBy_le (txt cs) none none (-1, unit) (by show (-1 : Int) ≠ 0; decide)) (by rw [txt_len]; exact short)
    · exact inv2.kept (t' := ct) fun b o there => Heap.get?_push_of_some _ there
    · exact congrArg (fun z => Value.str z tok2) (back_txt cs unit)
end Tm

/-! a call by place of a def that takes a star; products of words -/
namespace Tm
open PySem PySem.Spec PyProof.Rows L2
section
variable {X : Cx} {CX : CXT} {k : Nat} {f : Addr} {sp : Sp} {E : XK} {x : Str} {p pos : Pos}
theorem pe_place {e : Expr} {es : List Expr} {ta : TA} (promise : FnR X.prog X.w X.K X.mg X.base CX k f sp) (room : Room k X.A) (kept : PySem.W.keepIn X.K (.ref f) = true) (glob : Gl X x) (found : X.mg x = some (.ref f)) (pass : Passes CX X E) (args : PA X (e :: es) ta)
    (nodebug : (x == ("__debug__" : Str)) = false := by decide) (first : starEach (e :: es) X.env = (false, eval e X.env) :: starEach es X.env := by rfl) (plain : (backTo pos (starEach es X.env)).any (·.1) = false := by rfl) :
    PE X (.Call (.Name x p) (e :: es) [] pos) (fun σ H Q => ta σ H fun given H1 => sp given H1 Q E) where
  run pins s σ H Q inv ask := by
    apply wpAny_Call_Name_kw
    apply ld_glob inv glob found _ nodebug
    apply PySem.W.callWith_K (h₀ := X.base) inv.ok.mod.kin kept _ first plain
    apply wpAny_mono (args.run pos pins s σ H _ inv ask) _ (fun _ _ raised => raised)
    rintro held s1 ⟨given, H1, inv1, rel, meets⟩
    exact ⟨inv1.kIn, wpAny_call (run_fnR promise room pass inv1 rel meets)⟩
theorem pe_place0 (promise : FnR X.prog X.w X.K X.mg X.base CX k f sp) (room : Room k X.A) (kept : PySem.W.keepIn X.K (.ref f) = true) (glob : Gl X x) (found : X.mg x = some (.ref f)) (pass : Passes CX X E)
    (nodebug : (x == ("__debug__" : Str)) = false := by decide) : PE X (.Call (.Name x p) [] [] pos) (fun _ H Q => sp [] H Q E) where
  run pins s σ H Q inv ask := by
    apply wpAny_Call_Name_kw
    apply ld_glob inv glob found _ nodebug
    apply PySem.W.callWith_K0 inv.kIn kept
    exact wpAny_call (run_fnR (us := []) promise room pass inv .nil ask)
end
def tv (cs : List Nat) : V := .str (txt cs)
/-- the sum of the signs, the letters one behind the other -/
def signsL (xss : List (List Nat)) : Nat := (xss.map signL).sum
def allL (xss : List (List Nat)) : List Nat := (xss.map lettersL).flatten
def joinL (xss : List (List Nat)) : List Nat := signedL (signsL xss : Nat) (allL xss)
def Few (xss : List (List Nat)) : Prop := xss.length ≤ 10 ∧ ∀ x ∈ xss, x.length ≤ 1000
def spProd : Sp := fun vs H Q _ => ∃ xss : List (List Nat), vs = xss.map tv ∧ Few xss ∧ ∀ H', Same H H' → Q (tv (joinL xss)) H'
def spProdT : Sp := fun vs H Q _ => ∃ (p : Addr) (xss : List (List Nat)), vs = [.ref p] ∧ H p = some (.tup (xss.map tv)) ∧ Few xss ∧ ∀ H', Same H H' → Q (tv (joinL xss)) H'
def invL (ts : List Nat) : List Nat := signedL (signL ts) (lettersL ts).reverse
def spInv : Sp := fun vs H Q _ => ∃ ts : List Nat, vs = [.str (txt ts)] ∧ ts.length ≤ 1000 ∧ Q (tv (invL ts)) H
def spLBody : Sp := fun vs H Q _ => ∃ ts : List Nat, vs = [.str (txt ts)] ∧ ts.length ≤ 1000 ∧ Q (.str (txt (lettersL ts))) H
def spJoined (K : PySem.W.Frag) : Sp := fun vs H Q _ => ∃ (p : Addr) (xss : List (List Nat)), vs = [.ref p] ∧ SqL K H p (xss.map tv) ∧ Few xss ∧ ∀ H', Same H H' → Q (tv (joinL xss)) H'
theorem lettersL_le (ts : List Nat) : (lettersL ts).length ≤ ts.length := by have e := letters_len ts; omega
theorem allL_le : ∀ {xss : List (List Nat)} {m : Nat}, (∀ x ∈ xss, x.length ≤ m) → (allL xss).length ≤ xss.length * m
  | [], _, _ => Nat.zero_le _
  | x :: r, m, h => by
    have e1 : (allL (x :: r)).length = (lettersL x).length + (allL r).length := by
      show (lettersL x ++ allL r).length = _
      rw [List.length_append]
    have e2 := allL_le (xss := r) (m := m) fun y hy => h y (List.mem_cons_of_mem _ hy)
    have e3 := h x List.mem_cons_self
    have e4 := lettersL_le x
    rw [e1, List.length_cons, Nat.succ_mul]
    omega
theorem Few.all {xss : List (List Nat)} (h : Few xss) : (allL xss).length ≤ 10000 := by
  have e := allL_le h.2
  have e2 : xss.length * 1000 ≤ 10 * 1000 := Nat.mul_le_mul_right _ h.1
  omega
theorem allL_snoc (xss : List (List Nat)) (x : List Nat) : allL (xss ++ [x]) = allL xss ++ lettersL x := by
  unfold allL
  rw [List.map_append, List.flatten_append]
  simp
theorem signsL_snoc (xss : List (List Nat)) (x : List Nat) : signsL (xss ++ [x]) = signsL xss + signL x := by
  unfold signsL
  rw [List.map_append, List.sum_append]
  simp
theorem sum_int (ns : List Nat) : (ns.map fun n : Nat => (n : Int)).sum = ((ns.sum : Nat) : Int) := by
  induction ns with
  | nil => rfl
  | cons n r ih => rw [List.map_cons, List.sum_cons, List.sum_cons, ih]; omega
theorem lens_txt (xss : List (List Nat)) : ((xss.map txt).map (·.length)).sum = xss.flatten.length := by
  induction xss with
  | nil => rfl
  | cons x r ih => rw [List.map_cons, List.map_cons, List.sum_cons, ih, txt_len, List.flatten_cons, List.length_append]
theorem bit_sign (ts : List Nat) : (if decide (signL ts = 1) = true then (1 : Int) else 0) = ((signL ts : Nat) : Int) := by
  cases ts with
  | nil => rfl
  | cons c r =>
    by_cases h : c = 45
    · rw [show signL (c :: r) = 1 from if_pos h]
      rfl
    · rw [show signL (c :: r) = 0 from if_neg h]
      rfl
theorem lt_rev {cs : List Nat} (h : Lt cs) : Lt cs.reverse := fun c hc => h c (List.mem_reverse.mp hc)
theorem lt_app {as bs : List Nat} (h : Lt as) (h2 : Lt bs) : Lt (as ++ bs) := fun c hc => (List.mem_append.mp hc).elim (h c) (h2 c)
theorem inv_wd {s : Bool} {cs : List Nat} (h : Lt cs) : invL (wd s cs) = wd s cs.reverse := by
  unfold invL
  rw [letters_wd h, sign_wd h, signed_wd0]
theorem inv_inv {s : Bool} {cs : List Nat} (h : Lt cs) : invL (invL (wd s cs)) = wd s cs := by
  rw [inv_wd h, inv_wd (lt_rev h), List.reverse_reverse]
/-- letters and the same backwards cancel, whatever stands around -/
theorem red_back : ∀ (cs as bs : List Nat), redL (as ++ (cs ++ cs.reverse) ++ bs) = redL (as ++ bs)
  | [], as, bs => by simp
  | c :: r, as, bs => by
    have e : as ++ ((c :: r) ++ (c :: r).reverse) ++ bs = (as ++ [c]) ++ (r ++ r.reverse) ++ (c :: bs) := by simp
    have e2 : as ++ [c] ++ (c :: bs) = as ++ c :: c :: bs := by simp
    rw [e, red_back r, e2, red_cancel]
theorem join_back {s : Bool} {cs : List Nat} (h : Lt cs) : joinL [wd s cs, invL (wd s cs)] = cs ++ cs.reverse := by
  have hr := lt_rev h
  have e : signsL [wd s cs, wd s cs.reverse] = s.toNat + s.toNat := by
    show signL (wd s cs) + (signL (wd s cs.reverse) + 0) = _
    rw [sign_wd h, sign_wd hr]
    omega
  have e2 : allL [wd s cs, wd s cs.reverse] = cs ++ cs.reverse := by
    show lettersL (wd s cs) ++ (lettersL (wd s cs.reverse) ++ []) = _
    rw [letters_wd h, letters_wd hr, List.append_nil]
  rw [inv_wd h]
  unfold joinL
  rw [e, e2]
  cases s <;> rfl
theorem red_gone {s : Bool} {cs : List Nat} (h : Lt cs) : signedL (signL (joinL [wd s cs, invL (wd s cs)])) (redL (lettersL (joinL [wd s cs, invL (wd s cs)]))) = [] := by
  have hb : Lt (cs ++ cs.reverse) := lt_app h (lt_rev h)
  have e1 : signL (cs ++ cs.reverse) = 0 := sign_wd (s := false) hb
  have e2 : lettersL (cs ++ cs.reverse) = cs ++ cs.reverse := letters_wd (s := false) hb
  have e3 : redL (cs ++ cs.reverse) = [] := by
    have e := red_back cs [] []
    rw [List.nil_append, List.append_nil] at e
    exact e
  rw [join_back h, e1, e2, e3]
  rfl
end Tm

/-! zip of two texts, walked in pairs -/
namespace Tm
open PySem PySem.Spec PyProof.Rows L2
/-- the pairs of the signs of two texts; each pair is a new tuple -/
def ItzS (cs ds : List Nat) : It :=
  ⟨fun i _ => i < min cs.length ds.length, fun i H x H' => ∃ T c d, x = .ref T ∧ H T = none ∧ H' = upd H T (.tup [sig c, sig d]) ∧ cs[i]? = some c ∧ ds[i]? = some d, fun i _ => i = min cs.length ds.length⟩
def iZipS (ta : TA) : TI := fun σ H R => ta σ H fun vs H1 => ∃ cs ds : List Nat, vs = [.str (txt cs), .str (txt ds)] ∧ R (ItzS cs ds) H1
/-- the cells in which a zip of two texts stands at turn i -/
def zipAt (N : Addr) (x y : Str) (t u : Tok) (i : Nat) (h : Heap) : Prop :=
  IsZip h (N + 4) (N + 2) (N + 3) .none ∧ IsTupOf2 h (N + 2) (.ref N) (.ref (N + 1)) ∧ (∃ a b, IsTupOf2 h (N + 3) a b) ∧ h.IsStrIter N (strIterType x) x t i ∧ h.IsStrIter (N + 1) (strIterType y) y u i
def zipCells (N : Addr) : List Addr := [N + 4, N + 2, N + 3, N, N + 1]
theorem zip_goes {prog : Program} {w : World} {A : Around} (hh : A.handled = none) (elts : List Expr) (k : Nat) (pos : Pos) (N : Addr) (x y : Str) (t u : Tok) :
    GoesN prog w A (.Tuple elts k pos) (N + 4) (zipCells N) [N + 4, N + 3, N, N + 1] (min x.cps.size y.cps.size)
      (fun i h₀ v h => ∃ T a b, v = .ref T ∧ h₀.objs.size ≤ T ∧ SignAt x i a ∧ SignAt y i b ∧ h.IsTuple T #[a, b]) (zipAt N x y t u) :=
  GoesN.zip2 (zip_sep2 (fp1 := []) (fp2 := []) (fun _ h => by cases h) (fun _ h => by cases h)) (Draws.text (A := A.in1) hh N x t) (Draws.text (A := A.in1) hh (N + 1) y u)
theorem at_txt {cs : List Nat} {i c : Nat} (h : (txt cs).cps[i]? = some c) : cs[i]? = some c := by
  have e : (txt cs).cps[i]? = cs[i]? := List.getElem?_toArray ..
  rw [← e]; exact h
theorem size_txt (cs : List Nat) : (txt cs).cps.size = cs.length := List.size_toArray
theorem zip_obj {N : Addr} {x y : Str} {t u : Tok} {i : Nat} {h : Heap} (st : zipAt N x y t u i h) : ∀ q ∈ zipCells N, ∃ o, h.get? q = some o ∧ ∀ v, o.data ≠ .cell v := by
  rcases st with ⟨z, ti, ⟨a, b, to⟩, ⟨o1, g1, c1, d1⟩, ⟨o2, g2, c2, d2⟩⟩
  intro q hq
  simp only [zipCells, List.mem_cons, List.not_mem_nil, or_false] at hq
  rcases hq with rfl | rfl | rfl | rfl | rfl
  · exact ⟨_, z, fun v e => by cases e⟩
  · exact ⟨_, ti, fun v e => by cases e⟩
  · exact ⟨_, to, fun v e => by cases e⟩
  · exact ⟨o1, g1, fun v e => by rw [d1] at e; cases e⟩
  · exact ⟨o2, g2, fun v e => by rw [d2] at e; cases e⟩
theorem zip_turn (P : Program) (w : World) (K : PySem.W.Frag) (elts : List Expr) (k : Nat) (pos : Pos) (N : Addr) (cs ds : List Nat) (t u : Tok) :
    Turn P w K (.Tuple elts k pos) (ItzS cs ds) (zipCells N) (N + 4) (zipAt N (txt cs) (txt ds) t u) where
  mem := List.mem_cons_self ..
  obj := fun i h st => zip_obj st
  keep := by
    rintro i h h' ⟨z, ti, ⟨a, b, to⟩, ⟨o1, g1, r1⟩, ⟨o2, g2, r2⟩⟩ same
    have on : ∀ q ∈ zipCells N, ∀ o, h.get? q = some o → h'.get? q = some o := same
    exact ⟨on _ (by simp [zipCells]) _ z, on _ (by simp [zipCells]) _ ti, ⟨a, b, on _ (by simp [zipCells]) _ to⟩, ⟨o1, on _ (by simp [zipCells]) _ g1, r1⟩, ⟨o2, on _ (by simp [zipCells]) _ g2, r2⟩⟩
  item := by
    intro X ep ew eK calm i pins s σ H E inv own st go
    subst ep ew eK
    have G := zip_goes (prog := X.prog) (w := X.w) (inv.ok.hd calm) elts k pos N (txt cs) (txt ds) t u
    refine G.goes i s (fun v s2 => ∃ x H', Inv X pins σ H' s2 ∧ RelV x v ∧ (ItzS cs ds).yld i H x H' ∧ zipAt N (txt cs) (txt ds) t u (i + 1) s2.heap ∧ ∀ b ∈ zipCells N, H' b = none) E (by rw [size_txt, size_txt]; exact go) st ?_
    rintro v h' tk ⟨T, a, b, rfl, new, ⟨c, ta, hc, rfl⟩, ⟨d, tb, hd, rfl⟩, tup⟩ st' kept _
    have inside : ∀ q ∈ [N + 4, N + 3, N, N + 1], FpOk X pins H q := fun q hq => own q (G.sub q hq)
    have fresh : H T = none := inv.hok.fresh new
    have laid : ObjOk X.prog X.w (upd H T (.tup [sig c, sig d])) h' T (.tup [sig c, sig d]) :=
      ⟨by show 2 ≤ sizeLine; decide, [.str ⟨#[c]⟩ ta, .str ⟨#[d]⟩ tb], .cons ⟨ta, rfl⟩ (.cons ⟨tb, rfl⟩ .nil), tup⟩
    refine ⟨.ref T, _, inv.turnedNew kept inside new laid, rfl, ⟨T, c, d, rfl, fresh, rfl, at_txt hc, at_txt hd⟩, st', fun q hq => ?_⟩
    rw [upd_ne (fun e => ?_)]
    · exact (own q hq).1
    · obtain ⟨ob, there, _⟩ := zip_obj st q hq
      exact absurd (Nat.lt_of_lt_of_le (Heap.lt_size there) (e ▸ new)) (Nat.lt_irrefl _)
  done := by
    intro X ep ew eK calm i pins s σ H E inv own st stop
    subst ep ew eK
    have G := zip_goes (prog := X.prog) (w := X.w) (inv.ok.hd calm) elts k pos N (txt cs) (txt ds) t u
    have e : i = min (txt cs).cps.size (txt ds).cps.size := by rw [size_txt, size_txt]; exact stop
    subst e
    refine G.stops s (Inv X pins σ H) E st fun h' tk kept _ => ?_
    exact inv.turnedL kept fun q hq => own q (G.sub q hq)
  self := fun _ _ _ _ _ st done => wpAny_pyIter_zip st.1 done
theorem pi_zipS {X : Cx} {e e2 : Expr} {ta : TA} {p pos tpos : Pos} {elts : List Expr} {kk : Nat} (glob : Gl X "zip") (free : X.mg "zip" = none) (args : PA X [e, e2] ta)
    (first : starEach [e, e2] X.env = (false, eval e X.env) :: starEach [e2] X.env := by rfl) (plain : (backTo pos (starEach [e2] X.env)).any (·.1) = false := by rfl) :
    PI X (.Tuple elts kk tpos) (.Call (.Name "zip" p) [e, e2] [] pos) (iZipS ta) where
  run pins s σ H R inv ask := by
    apply wpAny_Call_Name_kw
    apply ld_blt inv glob free PyProof.Rows.boot_zip
    apply PyProof.Rows.callWith_type1 _ first plain
    apply wpAny_mono (args.run pos pins s σ H _ inv ask) _ (fun _ _ raised => raised)
    rintro held s1 ⟨given, H1, inv1, rel, cs, ds, rfl, hand⟩
    match held, rel with
    | [_, _], .cons ⟨t1, rfl⟩ (.cons ⟨t2, rfl⟩ .nil) =>
      apply zip_begins2 (begins_text _ _) (begins_text _ _) trivial trivial
      intro heap hz hi ho g1 g2 size kept
      apply wpAny_pyIter_zip hz
      have inv2 : Inv X pins σ H1 { s1 with heap := heap } := inv1.kept (t' := s1.toks) kept
      refine ⟨_, zipCells s1.heap.objs.size, zipAt s1.heap.objs.size (txt cs) (txt ds) t1 t2, ItzS cs ds, H1, rfl, inv2, zip_turn _ _ _ _ _ _ _ _ _ _ _, ⟨hz, hi, ⟨_, _, ho⟩, ⟨_, g1, rfl, rfl⟩, ⟨_, g2, rfl, rfl⟩⟩, fun q hq => ?_, hand⟩
      have above : s1.heap.objs.size ≤ q := by
        simp only [zipCells, List.mem_cons, List.not_mem_nil, or_false] at hq
        have up : ∀ n : Nat, (s1.heap.objs.size : Nat) ≤ s1.heap.objs.size + n := fun n => Nat.le_add_right _ _
        rcases hq with rfl | rfl | rfl | rfl | rfl
        · exact up 4
        · exact up 2
        · exact up 3
        · exact up 0
        · exact up 1
      have low := inv1.fpOk (H' := H1) above (inv1.hok.fresh above)
      exact low
theorem walk_zipS {cs ds : List Nat} : Walk (ItzS cs ds) (min cs.length ds.length) (fun _ => True) (fun i H x H' => ∃ T c d, x = .ref T ∧ H T = none ∧ H' = upd H T (.tup [sig c, sig d]) ∧ cs[i]? = some c ∧ ds[i]? = some d) where
  goes := fun _ _ lt _ => lt
  stops := fun _ _ => rfl
  yields := fun _ _ _ _ _ _ y => y
end Tm

/-! a set comprehension whose elements are ints; its length -/
namespace Tm
open PySem PySem.Spec PyProof.Rows L2
/-- {elt for target in iter}: D is the new set; W holds ahead of each turn, by the turn and a number that falls; Nx is what a turn reaches -/
def tSetI (w : World) (wi : TI) (g : TG) (te : TE) (vs : List Nat) : TE := fun σ H Q => wi σ H fun J H1 => ∀ D, H1 D = none → ∃ W : Nat → Nat → Hp → Prop, (∃ m, W 0 m (upd H1 D (SetO w D (fun _ => false) 0))) ∧
  ∀ i m H, W i m H → (J.stop i H ∧ Q (.ref D) H) ∨ (J.go i H ∧ ∃ Nx : Hp → Prop, (∀ H', Nx H' → ∃ m', m' < m ∧ W (i + 1) m' H') ∧
    ∀ x H', J.yld i H x H' → g x (wipe σ vs) H' fun σ2 H2 => wipe σ2 vs = wipe σ vs ∧ te σ2 H2 fun y H3 => ∃ (k : Int) (S : Int → Bool) (n : Nat), y = .int k ∧ H3 D = some (SetO w D S n) ∧ n + 1 < scanBound ∧
      Nx (upd H3 D (SetO w D (fun j => S j || decide (j = k)) (if S k = true then n else n + 1))))
/-- the slots of the block's own names matter to nobody -/
theorem wipe_weak {X : Cx} {pins : List (Addr × Obj)} {σ : L2.St} {H : Hp} {s : Shared} {vs : List Nat} (I : Inv X pins σ H s) : Inv X pins (wipe σ vs) H s :=
  I.weak (wipe_length σ vs) fun i v h => (wipe_some h).1
theorem set_block {X : Cx} {pins : List (Addr × Obj)} {σ : L2.St} {Hs : Hp} {s3 : Shared} {Q : VK} {elt tg iter : Expr} {scope : Scope} {own : List (PySem.Str × Nat)} {pos : Pos} {g : TG} {te : TE} {J : It} {fp : List Addr} {it D : Addr} {tn : Nat → Heap → Prop} {W : Nat → Nat → Hp → Prop} {m0 : Nat}
    (calm : X.calm = true) (nodup : X.N.Nodup) (ok : BlkOk X.N X.env.scope scope own)
    (goal : ∀ (s : Shared) (H : Hp) (C : Addr) (cl : List (PySem.Str × Addr)) (fp : List Addr), PG (X.blk s H scope (compEnvC scope cl C X.env) fp) tg g)
    (elem : ∀ (s : Shared) (H : Hp) (C : Addr) (cl : List (PySem.Str × Addr)) (fp : List Addr), PE (X.blk s H scope (compEnvC scope cl C X.env) fp) elt te)
    (inv3 : Inv X pins σ Hs s3) (turns : Turn X.prog X.w X.K tg J fp it tn) (start : tn 0 s3.heap) (mine : ∀ b ∈ fp, FpOk X pins Hs b) (w0 : W 0 m0 Hs)
    (step : ∀ i m H, W i m H → (J.stop i H ∧ Q (.ref D) H) ∨ (J.go i H ∧ ∃ Nx : Hp → Prop, (∀ H', Nx H' → ∃ m', m' < m ∧ W (i + 1) m' H') ∧
      ∀ x H', J.yld i H x H' → g x (wipe σ (own.map (·.2))) H' fun σ2 H2 => wipe σ2 (own.map (·.2)) = wipe σ (own.map (·.2)) ∧ te σ2 H2 fun y H3 => ∃ (k : Int) (S : Int → Bool) (n : Nat), y = .int k ∧ H3 D = some (SetO X.w D S n) ∧ n + 1 < scanBound ∧
        Nx (upd H3 D (SetO X.w D (fun j => S j || decide (j = k)) (if S k = true then n else n + 1))))) :
    wpAny (model X.prog X.w) X.A (newFunctionEnv scope X.env.globals (cloFrom X.env.cells scope.names []) [] X.env.qual none .none (some X.env)) (fun cenv s4 =>
      codeAny (model X.prog X.w) X.A (.compStart (.SetComp elt [⟨tg, iter, [], 0⟩] scope pos) 0 (.ref it) (.ref D) { cenv with scope := relabel scope X.env }) (compEnds (model X.prog X.w) X.A X.xe none (EP X pins σ Q) (.ref D) { cenv with scope := relabel scope X.env }) s4) X.xe s3 := by
  have born : ∀ b ∈ fp, b < s3.heap.objs.size := fun b hb => by
    obtain ⟨o, there, _⟩ := turns.obj 0 _ start b hb
    exact Heap.lt_size there
  have inv4 := block_start (fp := fp) inv3 ok nodup fun b hb => ⟨mine b hb, born b hb⟩
  apply newEnv_comp
  have start4 : tn 0 (pushCells (s3.heap.push { cls := .type "dict", data := .dict #[] }) scope.names) := turns.keep 0 _ _ start fun b _ o there => pushCells_keeps _ _ _ _ (Heap.get?_push_of_some _ there)
  have low := inv3.fpOk (H' := Hs) (b := s3.heap.objs.size) (Nat.le_refl _) (inv3.hok.fresh (Nat.le_refl _))
  generalize pushCells (s3.heap.push { cls := .type "dict", data := .dict #[] }) scope.names = h4 at inv4 start4 ⊢
  show codeAny _ _ (.compStart _ 0 _ _ (compEnvC scope (cellsFrom (s3.heap.objs.size + 1) scope.names (cloFrom X.env.cells scope.names [])) s3.heap.objs.size X.env)) (compEnds _ _ _ none _ _ (compEnvC scope (cellsFrom (s3.heap.objs.size + 1) scope.names (cloFrom X.env.cells scope.names [])) s3.heap.objs.size X.env)) _
  generalize cellsFrom (s3.heap.objs.size + 1) scope.names (cloFrom X.env.cells scope.names []) = cl at inv4 ⊢
  have loop : codeAny (model X.prog X.w) X.A (.compLoop (.SetComp elt [⟨tg, iter, [], 0⟩] scope pos) 0 (.ref it) (.ref D) (compEnvC scope cl s3.heap.objs.size X.env)) (compEnds (model X.prog X.w) X.A X.xe none (EP X pins σ Q) (.ref D) (compEnvC scope cl s3.heap.objs.size X.env)) { s3 with heap := h4 } := by
    apply PpSet.compLoopS_any (I := fun n s => ∃ i Hc, Inv (X.blk s3 Hs scope (compEnvC scope cl s3.heap.objs.size X.env) fp) [] (wipe σ (own.map (·.2))) Hc s ∧ tn i s.heap ∧ (∀ b ∈ fp, Hc b = none) ∧ W i n Hc) _ m0 ⟨0, Hs, inv4, start4, fun b hb => (mine b hb).1, w0⟩
    rintro n s5 ⟨i, Hc, inv5, st5, free5, w5⟩
    have own5 : ∀ (H : Hp), (∀ b ∈ fp, H b = none) → ∀ b ∈ fp, FpOk (X.blk s3 Hs scope (compEnvC scope cl s3.heap.objs.size X.env) fp) [] H b := fun H free b hb =>
      ⟨free b hb, (inv5.ok.exf b hb).1, inv5.ok.exfs b hb, .inl hb, (inv5.ok.exf b hb).2, fun p hp => by cases hp⟩
    rcases step i n Hc w5 with ⟨stop, q⟩ | ⟨go, Nx, next, yields⟩
    · apply wpAny_mono (turns.done (X.blk s3 Hs scope (compEnvC scope cl s3.heap.objs.size X.env) fp) rfl rfl rfl calm i [] s5 _ Hc _ inv5 (own5 Hc free5) st5 stop) _ (fun _ _ raised => raised)
      rintro r s6 ⟨rfl, inv6⟩
      obtain ⟨names, ns, _⟩ := inv6.loc
      refine ⟨names, ns, fun h' same => ?_⟩
      have out : Inv X pins σ Hc s6 := inv3.call' inv6.os inv6.base inv6.hok inv6.bare fun b hb => ⟨(mine b hb).2.2.2.1, (mine b hb).2.1, (mine b hb).2.2.2.2.1, (mine b hb).2.2.2.2.2⟩
      exact ⟨.ref D, Hc, out.turned (t' := s6.toks) (fun b o hb there => (same.2 b hb).trans there) inv6.free low.2.1 low.2.2.2.1 low.2.2.2.2.1 low.2.2.2.2.2, rfl, q⟩
    · apply wpAny_mono (turns.item (X.blk s3 Hs scope (compEnvC scope cl s3.heap.objs.size X.env) fp) rfl rfl rfl calm i [] s5 _ Hc _ inv5 (own5 Hc free5) st5 go) _ (fun _ _ raised => raised)
      rintro r s6 ⟨u, rfl, rest⟩
      apply wpAny_mono rest _ (fun _ _ raised => raised)
      rintro _ s7 ⟨x, H7, inv7, rel, yld, st7, free7⟩
      have held := inv7.pinned (own5 H7 free7) (turns.obj _ _ st7)
      apply wpAny_mono ((goal s3 Hs s3.heap.objs.size cl fp).run _ s7 _ H7 x u _ held rel (yields x H7 yld)) _ (fun _ _ raised => raised.elim)
      rintro _ s8 ⟨σ8, H8, inv8, wiped, more⟩
      apply wpAny_tests_nil
      rw [if_pos rfl]
      apply wpAny_mono ((elem s3 Hs s3.heap.objs.size cl fp).run _ s8 σ8 H8 _ inv8 more) _ (fun _ _ raised => raised.elim)
      rintro u9 s9 ⟨y, H9, inv9, rel9, k, S, c, rfl, atD, room, nx⟩
      rcases rel9 with ⟨tok, rfl⟩
      apply setR_add (setO_get inv9 atD) room
      intro h10 same10 set10
      have inv10 := inv9.write (e := D) (h' := h10) (t' := s9.toks + 1) (by rw [atD]; trivial) (.inl rfl) (fun b o hb there => (same10.2 b hb).trans there) (set10.imp fun o r => by obtain ⟨_, _, _, there, _⟩ := r; exact there) (setO_new set10)
      obtain ⟨m1, less, w1⟩ := next _ nx
      refine ⟨m1, less, i + 1, _, ?_, ?_, ?_, w1⟩
      · rw [← wiped]
        exact wipe_weak inv10.unpinned
      · refine turns.keep (i + 1) _ _ st7 fun b hb o there => ?_
        exact (inv10.pin (b, o) (List.mem_append_right _ (List.mem_append_right _ (mem_pinsAt hb there)))).1
      · intro b hb
        obtain ⟨o, there, _⟩ := turns.obj _ _ st7 b hb
        exact (inv10.pin (b, o) (List.mem_append_right _ (List.mem_append_right _ (mem_pinsAt hb there)))).2.1
  exact PpSet.codeAny_compStart_set loop (turns.self _ 0 _ _ _ start4 loop)
theorem pe_setI {X : Cx} {elt tg iter : Expr} {scope : Scope} {own : List (PySem.Str × Nat)} {pos : Pos} {wi : TI} {g : TG} {te : TE} (calm : X.calm = true) (nodup : X.N.Nodup) (walk : PI X tg iter wi) (ok : BlkOk X.N X.env.scope scope own)
    (goal : ∀ (s : Shared) (H : Hp) (C : Addr) (cl : List (PySem.Str × Addr)) (fp : List Addr), PG (X.blk s H scope (compEnvC scope cl C X.env) fp) tg g)
    (elem : ∀ (s : Shared) (H : Hp) (C : Addr) (cl : List (PySem.Str × Addr)) (fp : List Addr), PE (X.blk s H scope (compEnvC scope cl C X.env) fp) elt te)
    (unfolded : ∀ x, foldedSetIterable iter X.env x = pure x := by intro _; rfl) :
    PE X (.SetComp elt [⟨tg, iter, [], 0⟩] scope pos) (tSetI X.w wi g te (own.map (·.2))) where
  run pins s σ H Q inv ask := by
    have caught : ∀ y ∈ scope.names, y.2 = .free → ∃ c, X.env.cells.lookup y.1 = some c := fun y hy free => by
      rcases ok.free y hy free with k | k
      · exact inv.ok.has _ (.inl k)
      · exact inv.ok.has _ (.inr k)
    rw [PySem.arm_eval_SetComp]
    apply comprehension_at (use := none) rfl unfolded (closure_ok caught) ok.kind (fun y hy hl => by rw [ok.uniq y hy, hl])
    apply wpAny_mono (walk.run pins s σ H _ inv ask) _ (fun _ _ raised => raised)
    intro v s1 run1
    apply wpAny_mono run1 _ (fun _ _ raised => raised)
    rintro itv s2 ⟨it, fp, tn, J, H1, rfl, inv2, turns, start, mine, plan⟩
    apply PpSet.newSet_ok
    have freeD : H1 s2.heap.objs.size = none := inv2.hok.fresh (Nat.le_refl _)
    obtain ⟨W, ⟨m0, w0⟩, step⟩ := plan _ freeD
    have inv3 : Inv X pins σ (upd H1 s2.heap.objs.size (SetO X.w s2.heap.objs.size (fun _ => false) 0)) { s2 with heap := s2.heap.push { cls := .type "set", dict := none, data := .set #[] 0 (.fresh 0 0 (!X.w.params.followText "set-order")) } } :=
      inv2.laid (t' := s2.toks) (fun b u e => Heap.get?_push_of_some _ e) (Nat.le_refl _) (setO_new (setR_fresh X.w))
    have stays : ∀ b o, s2.heap.get? b = some o → (s2.heap.push { cls := .type "set", dict := none, data := .set #[] 0 (.fresh 0 0 (!X.w.params.followText "set-order")) }).get? b = some o := fun b o e => Heap.get?_push_of_some _ e
    have born : ∀ b ∈ fp, b < s2.heap.objs.size := fun b hb => by
      obtain ⟨o, there, _⟩ := turns.obj 0 _ start b hb
      exact Heap.lt_size there
    exact set_block calm nodup ok goal elem inv3 turns (turns.keep 0 _ _ start fun b _ o there => stays b o there) (fun b hb => ⟨by rw [upd_ne (Nat.ne_of_lt (born b hb))]; exact (mine b hb).1, (mine b hb).2⟩) w0 step
/-- its walk over a tuple, which stands still meanwhile -/
theorem setI_tup {w : World} {K : PySem.W.Frag} {a : Addr} {xs : List V} {g : TG} {te : TE} {vs : List Nat} {σ : L2.St} {H1 : Hp} {D : Addr} {Qd : Hp → Prop} (Pv : Nat → Hp → Prop) (begin_ : Pv 0 (upd H1 D (SetO w D (fun _ => false) 0)))
    (stands : ∀ i H, i ≤ xs.length → Pv i H → SqT K H a xs)
    (turn : ∀ i x H, xs[i]? = some x → Pv i H → g x (wipe σ vs) H fun σ2 H2 => wipe σ2 vs = wipe σ vs ∧ te σ2 H2 fun y H3 => ∃ (k : Int) (S : Int → Bool) (n : Nat), y = .int k ∧ H3 D = some (SetO w D S n) ∧ n + 1 < scanBound ∧
      Pv (i + 1) (upd H3 D (SetO w D (fun j => S j || decide (j = k)) (if S k = true then n else n + 1))))
    (ends : ∀ H, Pv xs.length H → Qd H) :
    ∃ W : Nat → Nat → Hp → Prop, (∃ m, W 0 m (upd H1 D (SetO w D (fun _ => false) 0))) ∧ ∀ i m H, W i m H → ((Itt K a).stop i H ∧ Qd H) ∨ ((Itt K a).go i H ∧ ∃ Nx : Hp → Prop, (∀ H', Nx H' → ∃ m', m' < m ∧ W (i + 1) m' H') ∧
      ∀ x H', (Itt K a).yld i H x H' → g x (wipe σ vs) H' fun σ2 H2 => wipe σ2 vs = wipe σ vs ∧ te σ2 H2 fun y H3 => ∃ (k : Int) (S : Int → Bool) (n : Nat), y = .int k ∧ H3 D = some (SetO w D S n) ∧ n + 1 < scanBound ∧
        Nx (upd H3 D (SetO w D (fun j => S j || decide (j = k)) (if S k = true then n else n + 1)))) := by
  refine ⟨fun i m H => i + m = xs.length ∧ Pv i H, ⟨xs.length, Nat.zero_add _, begin_⟩, ?_⟩
  rintro i m H ⟨left, here⟩
  have there : SqT K H a xs := stands i H (by omega) here
  cases m with
  | zero =>
    have e : i = xs.length := left
    subst e
    exact .inl ⟨⟨xs, there, Nat.le_refl _⟩, ends H here⟩
  | succ m =>
    have lt : i < xs.length := by omega
    refine .inr ⟨⟨xs, xs[i], there, List.getElem?_eq_getElem lt⟩, Pv (i + 1), fun H' p => ⟨m, Nat.lt_succ_self _, by omega, p⟩, ?_⟩
    rintro x H' ⟨rfl, item⟩
    exact turn i x H' (item xs there) here
/-- len of a set of ints -/
theorem call_lenI {X : Cx} : CallR X (.builtin "len") (fun given H Q => ∃ (a : Addr) (S : Int → Bool) (n : Nat), given = [.ref a] ∧ H a = some (SetO X.w a S n) ∧ n ≤ 1000 ∧ Q (.int (n : Int)) H) :=
  fun pins s σ H given held Q inv rel ask => by
    rcases ask with ⟨a, S, n, rfl, at_a, short, hand⟩
    match held, rel with
    | [_], .cons rfl .nil =>
      obtain ⟨o, es, ep, t, there, exact_, dat, _, _, _, _, fits, rfl, _⟩ := setO_get inv at_a
      apply call_len_set there exact_ dat fits (by omega)
      exact ⟨.int _, H, inv.tok _, ⟨_, rfl⟩, hand⟩
end Tm

/-! strings of the letters 1, X, Z, W: what their products are -/
namespace Tm
open PySem PySem.Spec PyProof.Rows L2
/-! ### the letters -/
def Al : List Nat := [49, 88, 90, 87]
def pP (a b : Nat) : List Nat := ([([49, 49], [49]), ([49, 88], [88]), ([49, 90], [90]), ([49, 87], [87]), ([88, 49], [88]), ([88, 88], [49]), ([88, 90], [87]), ([88, 87], [90]), ([90, 49], [90]), ([90, 88], [45, 87]), ([90, 90], [49]), ([90, 87], [45, 88]),
  ([87, 49], [87]), ([87, 88], [45, 90]), ([87, 90], [88]), ([87, 87], [45, 49])].lookup [a, b]).getD []
def pS (a b : Nat) : Nat := signL (pP a b)
def pL (a b : Nat) : Nat := (lettersL (pP a b)).headD 0
theorem p_form : ∀ a ∈ Al, ∀ b ∈ Al, lettersL (pP a b) = [pL a b] ∧ pL a b ∈ Al ∧ pS a b ≤ 1 ∧ (pP a b).length ≤ 2 := by decide +kernel
theorem p_assoc : ∀ a ∈ Al, ∀ b ∈ Al, ∀ c ∈ Al, pL (pL a b) c = pL a (pL b c) ∧ (pS a b + pS (pL a b) c) % 2 = (pS b c + pS a (pL b c)) % 2 := by decide +kernel
theorem p_comm : ∀ a ∈ Al, ∀ b ∈ Al, pL a b = pL b a := by decide +kernel
theorem p_self : ∀ a ∈ Al, pL a a = 49 ∧ pS a a = if a = 87 then 1 else 0 := by decide +kernel
theorem p_one : ∀ a ∈ Al, pL a 49 = a ∧ pS a 49 = 0 := by decide +kernel
theorem p_lin : ∀ a ∈ Al, ∀ b ∈ Al, ∀ c ∈ Al, (pS a (pL b c) + pS (pL b c) a) % 2 = (pS a b + pS b a + (pS a c + pS c a)) % 2 := by decide +kernel
/-! ### rows of letters -/
def Al4 (cs : List Nat) : Prop := ∀ c ∈ cs, c ∈ Al
theorem Al4.head {c : Nat} {cs : List Nat} (h : Al4 (c :: cs)) : c ∈ Al := h c List.mem_cons_self
theorem Al4.tail {c : Nat} {cs : List Nat} (h : Al4 (c :: cs)) : Al4 cs := fun x hx => h x (List.mem_cons_of_mem _ hx)
theorem Al4.lt {cs : List Nat} (h : Al4 cs) : Lt cs := fun c hc e => by
  subst e
  exact absurd (h _ hc) (by decide)
def zS (as bs : List Nat) : Nat := (List.zipWith pS as bs).sum
def zL (as bs : List Nat) : List Nat := List.zipWith pL as bs
theorem zS_cons (a b : Nat) (as bs : List Nat) : zS (a :: as) (b :: bs) = pS a b + zS as bs := by
  show (pS a b :: List.zipWith pS as bs).sum = _
  rw [List.sum_cons]; rfl
theorem zL_cons (a b : Nat) (as bs : List Nat) : zL (a :: as) (b :: bs) = pL a b :: zL as bs := rfl
theorem zL_len {as bs : List Nat} (h : as.length = bs.length) : (zL as bs).length = as.length := by
  show (List.zipWith pL as bs).length = _
  rw [List.length_zipWith]; omega
theorem zL_al : ∀ {as bs : List Nat}, Al4 as → Al4 bs → Al4 (zL as bs)
  | [], _, _, _ => fun c hc => by cases hc
  | _ :: _, [], _, _ => fun c hc => by cases hc
  | a :: as, b :: bs, ha, hb => by
    intro c hc
    rw [zL_cons] at hc
    rcases List.mem_cons.mp hc with rfl | hc
    · exact (p_form a ha.head b hb.head).2.1
    · exact zL_al ha.tail hb.tail c hc
theorem z_assoc : ∀ (as bs cs : List Nat), as.length = bs.length → bs.length = cs.length → Al4 as → Al4 bs → Al4 cs → zL (zL as bs) cs = zL as (zL bs cs) ∧ (zS as bs + zS (zL as bs) cs) % 2 = (zS bs cs + zS as (zL bs cs)) % 2
  | [], [], [], _, _, _, _, _ => ⟨rfl, rfl⟩
  | a :: as, b :: bs, c :: cs, h1, h2, ha, hb, hc => by
    have i := z_assoc as bs cs (Nat.succ.inj h1) (Nat.succ.inj h2) ha.tail hb.tail hc.tail
    have p := p_assoc a ha.head b hb.head c hc.head
    simp only [zL_cons, zS_cons]
    exact ⟨by rw [p.1, i.1], by have := p.2; have := i.2; omega⟩
theorem z_comm : ∀ (as bs : List Nat), as.length = bs.length → Al4 as → Al4 bs → zL as bs = zL bs as
  | [], [], _, _, _ => rfl
  | a :: as, b :: bs, h, ha, hb => by
    rw [zL_cons, zL_cons, z_comm as bs (Nat.succ.inj h) ha.tail hb.tail, p_comm a ha.head b hb.head]
theorem z_self : ∀ (as : List Nat), Al4 as → zL as as = List.replicate as.length 49 ∧ zS as as = as.count 87
  | [], _ => ⟨rfl, rfl⟩
  | a :: as, ha => by
    have i := z_self as ha.tail
    have p := p_self a ha.head
    rw [zL_cons, zS_cons, i.1, i.2, p.1, p.2, List.count_cons]
    refine ⟨rfl, ?_⟩
    by_cases e : a = 87
    · subst e; simp [Nat.add_comm]
    · rw [if_neg e, if_neg (by simpa using e)]; omega
theorem z_one : ∀ (as : List Nat), Al4 as → zL as (List.replicate as.length 49) = as ∧ zS as (List.replicate as.length 49) = 0
  | [], _ => ⟨rfl, rfl⟩
  | a :: as, ha => by
    have i := z_one as ha.tail
    have p := p_one a ha.head
    rw [List.length_cons, List.replicate_succ, zL_cons, zS_cons, i.1, i.2, p.1, p.2]
    exact ⟨rfl, rfl⟩
theorem z_lin : ∀ (as bs cs : List Nat), as.length = bs.length → bs.length = cs.length → Al4 as → Al4 bs → Al4 cs → (zS as (zL bs cs) + zS (zL bs cs) as) % 2 = (zS as bs + zS bs as + (zS as cs + zS cs as)) % 2
  | [], [], [], _, _, _, _, _ => rfl
  | a :: as, b :: bs, c :: cs, h1, h2, ha, hb, hc => by
    have i := z_lin as bs cs (Nat.succ.inj h1) (Nat.succ.inj h2) ha.tail hb.tail hc.tail
    have p := p_lin a ha.head b hb.head c hc.head
    simp only [zL_cons, zS_cons]
    omega
theorem al_ones (n : Nat) : Al4 (List.replicate n 49) := fun c hc => by rw [List.eq_of_mem_replicate hc]; decide
/-! ### strings: texts of letters with a sign -/
def od (n : Nat) : Bool := decide (n % 2 = 1)
theorem od_nat (n : Nat) : (od n).toNat = n % 2 := by
  unfold od
  rcases Nat.mod_two_eq_zero_or_one n with h | h
  · rw [h]; rfl
  · rw [h]; rfl
theorem od_eq {m n : Nat} (h : m % 2 = n % 2) : od m = od n := by unfold od; rw [h]
theorem od_bit (b : Bool) : od b.toNat = b := by cases b <;> rfl
def two (x y : List Nat) : List Nat := signedL ((signL x + signL y + zS (lettersL x) (lettersL y) : Nat) : Int) (zL (lettersL x) (lettersL y))
theorem signed_od (n : Nat) (cs : List Nat) : signedL ((n : Nat) : Int) cs = wd (od n) cs := by
  rw [signed_wd]
  unfold od
  have e : decide (((n : Nat) : Int) % 2 = 1) = decide (n % 2 = 1) := by
    by_cases h : n % 2 = 1
    · rw [decide_eq_true h, decide_eq_true (by omega)]
    · rw [decide_eq_false h, decide_eq_false (by omega)]
  rw [e]
theorem two_wd {s t : Bool} {as bs : List Nat} (ha : Al4 as) (hb : Al4 bs) : two (wd s as) (wd t bs) = wd (od (s.toNat + t.toNat + zS as bs)) (zL as bs) := by
  unfold two
  rw [sign_wd ha.lt, sign_wd hb.lt, letters_wd ha.lt, letters_wd hb.lt, signed_od]
def multL : List (List Nat) → List Nat
  | [] => []
  | x :: r => r.foldl two x
/-- a string of n letters -/
def Sn (n : Nat) (x : List Nat) : Prop := ∃ s cs, x = wd s cs ∧ cs.length = n ∧ Al4 cs
theorem Sn.two {n : Nat} {x y : List Nat} (hx : Sn n x) (hy : Sn n y) : Sn n (two x y) := by
  obtain ⟨s, as, rfl, la, ha⟩ := hx
  obtain ⟨t, bs, rfl, lb, hb⟩ := hy
  exact ⟨_, _, two_wd ha hb, by rw [zL_len (by omega)]; exact la, zL_al ha hb⟩
theorem Sn.fold {n : Nat} : ∀ {r : List (List Nat)} {x : List Nat}, Sn n x → (∀ y ∈ r, Sn n y) → Sn n (r.foldl Tm.two x)
  | [], _, hx, _ => hx
  | y :: r, x, hx, hr => Sn.fold (r := r) (hx.two (hr y List.mem_cons_self)) fun z hz => hr z (List.mem_cons_of_mem _ hz)
theorem Sn.len {n : Nat} {x : List Nat} (h : Sn n x) : x.length ≤ n + 1 ∧ (lettersL x).length = n ∧ Al4 (lettersL x) := by
  obtain ⟨s, cs, rfl, l, a⟩ := h
  refine ⟨?_, by rw [letters_wd a.lt]; exact l, by rw [letters_wd a.lt]; exact a⟩
  rw [wd_len, l]
  cases s
  · exact Nat.le_succ _
  · exact Nat.le_refl _
theorem Sn.one (n : Nat) : Sn n (List.replicate n 49) := ⟨false, _, rfl, List.length_replicate, al_ones n⟩
theorem two_assoc {n : Nat} {x y z : List Nat} (hx : Sn n x) (hy : Sn n y) (hz : Sn n z) : two (two x y) z = two x (two y z) := by
  obtain ⟨s, as, rfl, la, ha⟩ := hx
  obtain ⟨t, bs, rfl, lb, hb⟩ := hy
  obtain ⟨u, cs, rfl, lc, hc⟩ := hz
  have a := z_assoc as bs cs (by omega) (by omega) ha hb hc
  rw [two_wd ha hb, two_wd hb hc, two_wd (zL_al ha hb) hc, two_wd ha (zL_al hb hc), a.1, od_nat, od_nat]
  congr 1
  apply od_eq
  have := a.2
  omega
theorem two_body {n : Nat} {x y : List Nat} (hx : Sn n x) (hy : Sn n y) : lettersL (two x y) = lettersL (two y x) := by
  obtain ⟨s, as, rfl, la, ha⟩ := hx
  obtain ⟨t, bs, rfl, lb, hb⟩ := hy
  rw [two_wd ha hb, two_wd hb ha, letters_wd (zL_al ha hb).lt, letters_wd (zL_al hb ha).lt, z_comm as bs (by omega) ha hb]
theorem two_self {s : Bool} {cs : List Nat} (h : Al4 cs) : two (wd s cs) (wd s cs) = wd (od (cs.count 87)) (List.replicate cs.length 49) := by
  rw [two_wd h h, (z_self cs h).1, (z_self cs h).2]
  congr 1
  apply od_eq
  cases s <;> simp
theorem two_one {n : Nat} {x : List Nat} (hx : Sn n x) : two x (List.replicate n 49) = x := by
  obtain ⟨s, as, rfl, la, ha⟩ := hx
  have e : List.replicate n 49 = wd false (List.replicate as.length 49) := by rw [la]; rfl
  rw [e, two_wd ha (al_ones _), (z_one as ha).1, (z_one as ha).2]
  congr 1
  exact od_bit s
theorem two_four {n : Nat} {x : List Nat} (hx : Sn n x) : two (two (two x x) x) x = List.replicate n 49 := by
  obtain ⟨s, as, rfl, la, ha⟩ := hx
  have e1 := two_self (s := s) ha
  have e2 : two (two (two (wd s as) (wd s as)) (wd s as)) (wd s as) = two (two (wd s as) (wd s as)) (two (wd s as) (wd s as)) := by
    refine two_assoc (n := n) ?_ ⟨s, as, rfl, la, ha⟩ ⟨s, as, rfl, la, ha⟩
    exact Sn.two ⟨s, as, rfl, la, ha⟩ ⟨s, as, rfl, la, ha⟩
  rw [e2, e1, two_self (al_ones _)]
  have e3 : (List.replicate as.length 49).count 87 = 0 := by rw [List.count_replicate]; rfl
  rw [e3, List.length_replicate, la]
  rfl
/-- whether two strings commute -/
def cmB (x y : List Nat) : Bool := decide (two x y = two y x)
theorem cm_wd {s t : Bool} {as bs : List Nat} (ha : Al4 as) (hb : Al4 bs) (l : as.length = bs.length) : cmB (wd s as) (wd t bs) = decide ((zS as bs + zS bs as) % 2 = 0) := by
  unfold cmB
  rw [two_wd ha hb, two_wd hb ha, z_comm bs as l.symm hb ha]
  have inj : ∀ (a b : Bool) (cs : List Nat), wd a cs = wd b cs → a = b := by
    intro a b cs e
    have e2 := congrArg List.length e
    rw [wd_len, wd_len] at e2
    cases a <;> cases b <;> first | rfl | (simp at e2)
  have key : (od (s.toNat + t.toNat + zS as bs) = od (t.toNat + s.toNat + zS bs as)) ↔ (zS as bs + zS bs as) % 2 = 0 := by
    unfold od
    rw [decide_eq_decide]
    omega
  by_cases h : (zS as bs + zS bs as) % 2 = 0
  · rw [decide_eq_true h, key.mpr h]; exact decide_eq_true rfl
  · rw [decide_eq_false h]
    exact decide_eq_false fun e => h (key.mp (inj _ _ _ e))
theorem cm_lin {n : Nat} {x y z : List Nat} (hx : Sn n x) (hy : Sn n y) (hz : Sn n z) : cmB x (two y z) = (cmB x y == cmB x z) := by
  obtain ⟨s, as, rfl, la, ha⟩ := hx
  obtain ⟨t, bs, rfl, lb, hb⟩ := hy
  obtain ⟨u, cs, rfl, lc, hc⟩ := hz
  have lin := z_lin as bs cs (by omega) (by omega) ha hb hc
  rw [two_wd hb hc, cm_wd ha (zL_al hb hc) (by rw [zL_len (by omega)]; omega), cm_wd ha hb (by omega), cm_wd ha hc (by omega)]
  have q1 := Nat.mod_two_eq_zero_or_one (zS as bs + zS bs as)
  have q2 := Nat.mod_two_eq_zero_or_one (zS as cs + zS cs as)
  rcases q1 with q1 | q1 <;> rcases q2 with q2 | q2 <;> (rw [q1, q2]; first | (rw [show (zS as (zL bs cs) + zS (zL bs cs) as) % 2 = 0 by omega]; rfl) | (rw [show (zS as (zL bs cs) + zS (zL bs cs) as) % 2 = 1 by omega]; rfl))
/-! ### a sign written n times; how often a sign stands in a text -/
theorem mul_ones (c n : Nat) : Txt.mul ⟨#[c]⟩ ((n : Nat) : Int) = txt (List.replicate n c) := by
  unfold Txt.mul
  cases n with
  | zero => rfl
  | succ n =>
    have h1 : ¬ (((n + 1 : Nat)) : Int) < 1 := by omega
    rw [if_neg h1]
    have join : ∀ (k : Nat) (a : Array Nat), (List.replicate k #[c]).foldl (· ++ ·) a = a ++ (List.replicate k c).toArray := by
      intro k
      induction k with
      | zero => intro a; simp
      | succ k ih =>
        intro a
        rw [List.replicate_succ, List.foldl_cons, ih, List.replicate_succ]
        apply Array.toList_inj.mp
        simp
    by_cases h2 : ((((n + 1 : Nat)) : Int) == 1 || (⟨#[c]⟩ : Str).length == 0) = true
    · rw [if_pos h2]
      have e : n = 0 := by
        rcases Bool.or_eq_true_iff.mp h2 with q | q
        · have := (beq_iff_eq.mp q); omega
        · cases q
      subst e
      rfl
    · rw [if_neg h2]
      have e : (((n + 1 : Nat)) : Int).toNat = n + 1 := rfl
      rw [e]
      show (⟨(List.replicate (n + 1) #[c]).foldl (· ++ ·) #[]⟩ : Str) = ⟨(List.replicate (n + 1) c).toArray⟩
      rw [join, Array.empty_append]
theorem op_times {X : Cx} : OpR X (binaryOp .Mult) (fun x y H Q => ∃ c n : Nat, x = sig c ∧ y = .int ((n : Nat) : Int) ∧ n ≤ 1000 ∧ Q (.str (txt (List.replicate n c))) H) := by
  rintro pins s σ H x y v u Q inv rx ry ⟨c, n, rfl, rfl, few, hand⟩
  rcases rx with ⟨t, rfl⟩
  rcases ry with ⟨t2, rfl⟩
  apply SB.mul
  · refine ⟨?_, fun h1 h2 => ?_, fun h1 h2 => ?_⟩
    · simp only [Bool.or_eq_false_iff, decide_eq_false_iff_not]; omega
    · show ¬ ((1 : Int) > _)
      have : (1 : Int) ≤ (2 ^ 63 - 1) / ((n : Nat) : Int) := by
        rw [Int.le_ediv_iff_mul_le (by omega)]; omega
      omega
    · unfold Builtin.Str.tooLong
      have small : (1 : Nat) * ((n : Nat) : Int).toNat ≤ sizeLine := by
        rw [Nat.one_mul]
        exact Nat.le_trans few (by decide)
      exact decide_eq_false (Nat.not_lt.mpr small)
  · intro t' k
    rw [mul_ones]
    exact ⟨.str _, H, inv.tok _, ⟨_, rfl⟩, hand⟩
theorem count_txt (cs : List Nat) (c : Nat) : Txt.count (txt cs) ⟨#[c]⟩ = ((cs.count c : Nat) : Int) := by
  rw [count_is, txt_cps]
  show cnt c cs = _
  induction cs with
  | nil => rfl
  | cons n r ih =>
    rw [cnt_cons, ih, List.count_cons]
    by_cases e : n = c
    · subst e; simp; omega
    · rw [if_neg e, if_neg (by simpa using e)]; omega
/-! ### what the defs promise -/
theorem txt_al : Str.ofString "1XZW" = txt Al := by decide +kernel
theorem all_al {cs : List Nat} (h : Al4 cs) : (cs.all fun c => decide (c ∈ Al)) = true := List.all_eq_true.mpr fun c hc => decide_eq_true (h c hc)
def spIsStr : Sp := fun vs H Q _ => ∃ ts : List Nat, vs = [tv ts] ∧ ts.length ≤ 1000 ∧ ∀ H', Same H H' → Q (.bl ((lettersL ts).all fun c => decide (c ∈ Al))) H'
def spChkS : Sp := fun vs H Q _ => ∃ ts : List Nat, vs = [tv ts] ∧ ts.length ≤ 1000 ∧ Al4 (lettersL ts) ∧ ∀ H', Same H H' → Q .non H'
def spTwo : Sp := fun vs H Q _ => ∃ (n : Nat) (x y : List Nat), vs = [tv x, tv y] ∧ n ≤ 900 ∧ Sn n x ∧ Sn n y ∧ ∀ H', Same H H' → Q (tv (two x y)) H'
def spMult : Sp := fun vs H Q _ => ∃ (n : Nat) (xss : List (List Nat)), vs = xss.map tv ∧ n ≤ 900 ∧ xss.length ≤ 20 ∧ (∀ x ∈ xss, Sn n x) ∧ ∀ H', Same H H' → Q (tv (multL xss)) H'
def spMultT : Sp := fun vs H Q _ => ∃ (p : Addr) (n : Nat) (xss : List (List Nat)), vs = [.ref p] ∧ H p = some (.tup (xss.map tv)) ∧ n ≤ 900 ∧ xss.length ≤ 20 ∧ (∀ x ∈ xss, Sn n x) ∧ ∀ H', Same H H' → Q (tv (multL xss)) H'
def spComm : Sp := fun vs H Q _ => ∃ (n : Nat) (x y : List Nat), vs = [tv x, tv y] ∧ n ≤ 900 ∧ Sn n x ∧ Sn n y ∧ ∀ H', Same H H' → Q (.bl (cmB x y)) H'
def spIden : Sp := fun vs H Q _ => ∃ n : Nat, vs = [.int ((n : Nat) : Int)] ∧ n ≤ 900 ∧ Q (tv (List.replicate n 49)) H
/-- the texts of the products of letters -/
def prodsL (as bs : List Nat) : List (List Nat) := List.zipWith pP as bs
theorem prods_at : ∀ {as bs : List Nat} {i a b : Nat}, as[i]? = some a → bs[i]? = some b → (prodsL as bs)[i]? = some (pP a b) := by
  intro as bs i a b ha hb
  unfold prodsL
  rw [List.getElem?_zipWith, ha, hb]
theorem prods_al : ∀ {as bs : List Nat}, Al4 as → Al4 bs → ∀ x ∈ prodsL as bs, ∃ a ∈ Al, ∃ b ∈ Al, x = pP a b
  | [], _, _, _, x, hx => by cases hx
  | _ :: _, [], _, _, x, hx => by cases hx
  | a :: as, b :: bs, ha, hb, x, hx => by
    rcases List.mem_cons.mp hx with rfl | hx
    · exact ⟨a, ha.head, b, hb.head, rfl⟩
    · exact prods_al ha.tail hb.tail x hx
theorem prods_sign : ∀ (as bs : List Nat), ((prodsL as bs).map signL).sum = zS as bs
  | [], _ => rfl
  | _ :: _, [] => rfl
  | a :: as, b :: bs => by
    rw [zS_cons, ← prods_sign as bs]
    show (signL (pP a b) :: (prodsL as bs).map signL).sum = _
    rw [List.sum_cons]; rfl
theorem prods_letters : ∀ (as bs : List Nat), Al4 as → Al4 bs → ((prodsL as bs).map lettersL).flatten = zL as bs
  | [], _, _, _ => rfl
  | _ :: _, [], _, _ => rfl
  | a :: as, b :: bs, ha, hb => by
    rw [zL_cons, ← prods_letters as bs ha.tail hb.tail]
    show lettersL (pP a b) ++ ((prodsL as bs).map lettersL).flatten = _
    rw [(p_form a ha.head b hb.head).1]
    rfl
theorem cutV_drop (xs : List V) (k : Nat) : cutV xs (some (k : Int)) none = xs.drop k := by
  unfold cutV
  rw [HT.sIx_none, HT.sIx_nat]
  by_cases h : k ≤ xs.length
  · rw [Nat.min_eq_left h]
    exact List.take_of_length_le (by rw [List.length_drop]; exact Nat.le_refl _)
  · rw [Nat.min_eq_right (by omega), List.drop_of_length_le (Nat.le_refl _), List.drop_of_length_le (l := xs) (by omega)]
    exact List.take_nil
theorem fold_snoc (r : List (List Nat)) (x y : List Nat) : (r ++ [y]).foldl two x = two (r.foldl two x) y := by rw [List.foldl_append]; rfl
theorem self_sign {n : Nat} {x : List Nat} (hx : Sn n x) : two x x = signedL ((x.count 87 : Nat) : Int) (List.replicate n 49) := by
  obtain ⟨s, cs, rfl, l, a⟩ := hx
  have e : (wd s cs).count 87 = cs.count 87 := by
    cases s with
    | false => rfl
    | true => exact List.count_cons_of_ne (by decide)
  rw [two_self a, e, signed_od, l]
theorem self_body {n : Nat} {x : List Nat} (hx : Sn n x) : lettersL (two x x) = List.replicate n 49 := by
  obtain ⟨s, cs, rfl, l, a⟩ := hx
  rw [two_self a, letters_wd (al_ones _).lt, l]
def spString : Sp := fun vs H Q _ => ∃ (b l : Addr) (n : Nat), vs = [.ref b, .int ((n : Nat) : Int)] ∧ Bag H b l ∧ n ≤ 900 ∧ ∀ H' x, Kp b H H' → Bag H' b l → Sn n x → Q (tv x) H'
theorem ne_no {a b : V} (h : a = b) : (!decide (a = b)) = false := by rw [decide_eq_true h]; rfl
def five : List Nat := [49, 49, 88, 90, 87]
theorem txt_five : Str.ofString "11XZW" = txt five := by decide +kernel
/-! ### the written table of products -/
def ptab : List (String × String) := [("11", "1"), ("1X", "X"), ("1Z", "Z"), ("1W", "W"), ("X1", "X"), ("XX", "1"), ("XZ", "W"), ("XW", "Z"), ("Z1", "Z"), ("ZX", "-W"), ("ZZ", "1"), ("ZW", "-X"), ("W1", "W"), ("WX", "-Z"), ("WZ", "X"), ("WW", "-1")]
theorem ptab_all : ∀ a ∈ Al, ∀ b ∈ Al, ∃ p ∈ ptab, Str.ofString p.1 = txt [a, b] ∧ Str.ofString p.2 = txt (pP a b) := by decide +kernel
theorem kd_all {K : PySem.W.Frag} {w : World} {pd : Addr} {es : Array DictEntry} {n : Nat} (there : K.lookup pd = some ⟨.type "dict", none, .dict es n, #[]⟩) (lit : PySem.W.KeysLit w.params es.toList)
    (rows : ∀ p ∈ ptab, ∃ t, PySem.W.nsIn K pd (Str.ofString p.1) = some (some (.str (Str.ofString p.2) t))) : ∀ a ∈ Al, ∀ b ∈ Al, KDct K w pd (txt [a, b]) (tv (pP a b)) := by
  intro a ha b hb
  obtain ⟨p, hp, e1, e2⟩ := ptab_all a ha b hb
  obtain ⟨t, row⟩ := rows p hp
  rw [e1, e2] at row
  exact ⟨es, n, _, there, lit, row, ⟨t, rfl⟩⟩
end Tm

/-! a written dict of sixteen texts -/
namespace Tm
open PySem PySem.Spec PyProof.Rows L2
/-- keys and values that are written texts -/
inductive Lits (X : Cx) : List (Option Expr) → List Expr → List (Str × Str) → Prop where
  | nil : Lits X [] [] []
  | cons {k v : Expr} {ks : List (Option Expr)} {vs : List Expr} {ps : List (Str × Str)} {a b : Str} (hk : PE X k (tC (.str a))) (hv : PE X v (tC (.str b))) (rest : Lits X ks vs ps) : Lits X (some k :: ks) (v :: vs) ((a, b) :: ps)
def kvT (p : Str × Str) : Key × V := (Sum.inr p.1, .str p.2)
theorem Lits.all {X : Cx} {ks : List (Option Expr)} {vs : List Expr} {ps : List (Str × Str)} (h : Lits X ks vs ps) : ks.all (·.isSome) = true ∧ ks.length = vs.length ∧ ks.length = ps.length := by
  induction h with
  | nil => exact ⟨rfl, rfl, rfl⟩
  | cons _ _ _ ih => exact ⟨by simpa using ih.1, by simp [ih.2.1], by rw [List.length_cons, List.length_cons, ih.2.2]⟩
theorem fill_lits {X : Cx} {pins : List (Addr × Obj)} {σ : L2.St} {d : Addr} {pos : Pos} {f : Sem Value × Sem Value → PUnit → Sem (ForInStep PUnit)}
    (form : ∀ k v, f (k, v) ⟨⟩ = (do let kv ← k; let vv ← holding [kv] v; holding [kv, vv] (dictSet d kv vv); pure (.yield ⟨⟩))) :
    ∀ {ks : List (Option Expr)} {vs : List Expr} {ps : List (Str × Str)}, Lits X ks vs ps → ∀ (kvs : List (Key × V)) (H : Hp) (s : Shared) (Q : PUnit → Shared → Prop), Inv X pins σ H s → H d = some (.dK kvs) → kvs.length + ps.length ≤ 1000 →
      (∀ s', Inv X pins σ (upd H d (.dK (mergeK kvs (ps.map kvT)))) s' → Q ⟨⟩ s') → wpAny (model X.prog X.w) X.A (forIn (pairTrees ks vs X.env pos) (⟨⟩ : PUnit) f) Q X.xe s := by
  intro ks vs ps lits
  induction lits with
  | nil =>
    intro kvs H s Q inv here _ hand
    apply wpAny_pure
    apply hand
    have e : upd H d (.dK (mergeK kvs (([] : List (Str × Str)).map kvT))) = H := by
      funext b
      by_cases z : b = d
      · subst z; rw [upd_same, here]; rfl
      · rw [upd_ne z]
    rw [e]
    exact inv
  | @cons k v ks vs ps a b hk hv rest ih =>
    intro kvs H s Q inv here few hand
    show wpAny _ _ (forIn ((eval k X.env, (do let x ← eval v X.env; standAt pos; pure x)) :: pairTrees ks vs X.env pos) _ f) _ _ _
    rw [List.forIn_cons, form]
    apply wpAny_bind
    apply wpAny_bind
    apply wpAny_mono (hk.run pins s σ H (fun x H' => x = .str a ∧ H' = H) inv ⟨rfl, rfl⟩) _ (fun _ _ raised => raised)
    rintro kv s1 ⟨x, H1, inv1, rel, rfl, rfl⟩
    rcases rel with ⟨t1, rfl⟩
    apply wpAny_bind
    apply wpAny_holding
    apply wpAny_bind
    apply wpAny_mono (hv.run pins s1 σ H1 (fun x H' => x = .str b ∧ H' = H1) inv1 ⟨rfl, rfl⟩) _ (fun _ _ raised => raised)
    rintro vv s2 ⟨x, H2, inv2, rel, rfl, rfl⟩
    apply wpAny_bind
    apply wpAny_standAt
    apply wpAny_pure
    apply wpAny_bind
    apply wpAny_holding
    obtain ⟨size, low, ws, pairs, dict⟩ := dk_of inv2.hok here
    rw [List.length_cons] at few
    apply wpAny_dictSet_pairs (knd := mixKind X.prog X.w) (k := Sum.inr a) (kV_is (k := Sum.inr a) ⟨t1, rfl⟩) dict _ (by rw [← pairs.length]; exact Nat.le_of_lt (small1000 (by omega)))
    intro h' dict' same
    apply wpAny_pure
    have len := length_putK kvs (Sum.inr a) (.str b)
    have inv3 : Inv X pins σ (upd H2 d (.dK (putK kvs (Sum.inr a) (.str b)))) { s2 with heap := h', toks := s2.toks + 1 } :=
      d_write inv2 (by rw [here]; trivial) same (by obtain ⟨o, _, _, there, _⟩ := dict'; exact ⟨o, there⟩) (dk_new (Nat.le_of_lt (small1000 (by omega))) low (pairs.put (Sum.inr a) rel) dict')
    apply ih _ _ _ _ inv3 upd_same (by omega)
    intro s' inv'
    apply hand
    have e : upd (upd H2 d (.dK (putK kvs (Sum.inr a) (.str b)))) d (.dK (mergeK (putK kvs (Sum.inr a) (.str b)) (ps.map kvT))) = upd H2 d (.dK (mergeK kvs (((a, b) :: ps).map kvT))) := by
      funext c
      by_cases z : c = d
      · subst z; rw [upd_same, upd_same]; rfl
      · rw [upd_ne z, upd_ne z, upd_ne z]
    rw [← e]
    exact inv'
theorem pe_disp16 {X : Cx} {pos : Pos} {ks : List (Option Expr)} {vs : List Expr} {ps : List (Str × Str)} (lits : Lits X ks vs ps) (len : ps.length = 16) :
    PE X (.Dict ks vs pos) (fun _ H Q => ∀ p, H p = none → Q (.ref p) (upd H p (.dK (mergeK [] (ps.map kvT))))) where
  run pins s σ H Q inv ask := by
    obtain ⟨some_, same, long⟩ := lits.all
    have n16 : (pairTrees ks vs X.env pos).length = 16 := by rw [pairTrees_length ks vs X.env pos some_ same, long, len]
    rw [arm_eval_Dict, zip_pairTrees ks vs X.env pos some_ same, dictDisplay_pairs _ (fun e => by rw [e] at n16; cases n16) (by omega)]
    apply wpAny_bind
    apply wpAny_standAt
    apply wpAny_bind
    unfold subDict
    apply wpAny_bind
    apply wpAny_alloc
    apply wpAny_bind
    apply wpAny_holding
    rw [if_neg (by omega)]
    apply wpAny_bind
    apply wpAny_rule
    have new := inv.hok.fresh (Nat.le_refl s.heap.objs.size)
    have inv1 := inv.laid (a := s.heap.objs.size) (o := .dK []) (h' := s.heap.push { cls := .type "dict", data := .dict #[] }) (t' := s.toks) (fun _ _ q => Heap.get?_push_of_some _ q) (Nat.le_refl _) (dk_empty s.heap inv.big)
    apply wpAny_bind
    apply fill_lits (fun _ _ => rfl) lits [] _ _ _ inv1 upd_same (by rw [len]; decide)
    intro s' inv'
    apply wpAny_pure
    apply wpAny_pure
    apply wpAny_pure
    have e : upd (upd H s.heap.objs.size (.dK [])) s.heap.objs.size (.dK (mergeK [] (ps.map kvT))) = upd H s.heap.objs.size (.dK (mergeK [] (ps.map kvT))) := by
      funext c
      by_cases z : c = s.heap.objs.size
      · subst z; rw [upd_same, upd_same]
      · rw [upd_ne z, upd_ne z, upd_ne z]
    rw [e] at inv'
    exact ⟨.ref _, _, inv', rfl, ask _ new⟩
end Tm

/-! the law's own table of products -/
namespace Tm
open PySem PySem.Spec PyProof.Rows L2
def ptabS : List (Str × Str) := ptab.map fun p => (Str.ofString p.1, Str.ofString p.2)
def tabKV : List (Key × V) := [49, 88, 90, 87].flatMap fun a => [49, 88, 90, 87].map fun b => (Sum.inr (txt [a, b]), tv (pP a b))
theorem tab_is : mergeK [] (ptabS.map kvT) = tabKV := by decide +kernel
theorem tab_at : ∀ a ∈ Al, ∀ b ∈ Al, valV tabKV (Sum.inr (txt [a, b])) = some (tv (pP a b)) := by decide +kernel
theorem p_last : ∀ a ∈ Al, ∀ b ∈ Al, atI (pP a b) (-1) = some (pL a b) := by decide +kernel
theorem p_pair : ∀ a ∈ Al, ∀ b ∈ Al, two [a] [b] = pP a b := by decide +kernel
theorem p_first : ∀ a ∈ Al, pL 49 a = a ∧ pS 49 a = 0 := by decide +kernel
theorem z_first : ∀ (as : List Nat), Al4 as → zL (List.replicate as.length 49) as = as ∧ zS (List.replicate as.length 49) as = 0
  | [], _ => ⟨rfl, rfl⟩
  | a :: as, ha => by
    have i := z_first as ha.tail
    have p := p_first a ha.head
    rw [List.length_cons, List.replicate_succ, zL_cons, zS_cons, i.1, i.2, p.1, p.2]
    exact ⟨rfl, rfl⟩
theorem one_two {n : Nat} {x : List Nat} (hx : Sn n x) : two (List.replicate n 49) x = x := by
  obtain ⟨s, as, rfl, la, ha⟩ := hx
  have e : List.replicate n 49 = wd false (List.replicate as.length 49) := by rw [la]; rfl
  rw [e, two_wd (al_ones _) ha, (z_first as ha).1, (z_first as ha).2]
  congr 1
  have e2 := od_bit s
  rw [← e2]
  apply od_eq
  cases s <;> rfl
theorem all_mult {n : Nat} {x : List Nat} (r : List (List Nat)) (hx : Sn n x) : (x :: r).foldl two (List.replicate n 49) = multL (x :: r) := by
  show r.foldl two (two (List.replicate n 49) x) = r.foldl two x
  rw [one_two hx]
def spTab : Sp := fun vs H Q _ => vs = [] ∧ ∀ H' p, Same H H' → H p = none → H' p = some (.dK tabKV) → Q (.ref p) H'
def spTAll (K : PySem.W.Frag) : Sp := fun vs H Q _ => ∃ (n : Nat) (a : Addr) (xss : List (List Nat)), vs = [.ref a, .int ((n : Nat) : Int)] ∧ SqL K H a (xss.map tv) ∧ n ≤ 900 ∧ xss.length ≤ 20 ∧ (∀ x ∈ xss, Sn n x) ∧ ∀ H', Same H H' → Q (tv (xss.foldl two (List.replicate n 49))) H'
theorem zL_take (as bs : List Nat) {i a b : Nat} (ha : as[i]? = some a) (hb : bs[i]? = some b) : (zL as bs).take (i + 1) = (zL as bs).take i ++ [pL a b] := by
  have e : (zL as bs)[i]? = some (pL a b) := by unfold zL; rw [List.getElem?_zipWith, ha, hb]
  rw [List.take_succ, e]; rfl
theorem zS_take (as bs : List Nat) {i a b : Nat} (ha : as[i]? = some a) (hb : bs[i]? = some b) : ((List.zipWith pS as bs).take (i + 1)).sum = ((List.zipWith pS as bs).take i).sum + pS a b := by
  have e : (List.zipWith pS as bs)[i]? = some (pS a b) := by rw [List.getElem?_zipWith, ha, hb]
  rw [List.take_succ, e, List.sum_append]; simp
/-! ### all pairs of letters -/
def prs (as : List Nat) : List (Nat × Nat) := as.flatMap fun a => Al.map fun b => (a, b)
theorem prs_snoc (as : List Nat) (a : Nat) : prs (as ++ [a]) = prs as ++ Al.map fun b => (a, b) := by
  unfold prs
  rw [List.flatMap_append]
  simp
theorem prs_mem {p : Nat × Nat} (h : p ∈ prs Al) : p.1 ∈ Al ∧ p.2 ∈ Al := (show ∀ p ∈ prs Al, p.1 ∈ Al ∧ p.2 ∈ Al by decide) p h
theorem prs_few : ∀ i, i ≤ 4 → (prs (Al.take i)).length = 4 * i := by decide
theorem dp_strs {K : PySem.W.Frag} {H : Hp} : ∀ zs : List Str, DpAll K H (zs.map V.str) (zs.map PyData.str)
  | [] => .nil
  | z :: r => .cons (.str z) (dp_strs r)
theorem cm_dec (x y : List Nat) : cmB x y = decide (tv (two x y) = tv (two y x)) := by
  unfold cmB
  apply decide_eq_decide.mpr
  exact ⟨fun e => congrArg tv e, fun e => txt_inj (V.str.inj e)⟩
theorem cm_swap (x y : List Nat) : cmB y x = decide (tv (two x y) = tv (two y x)) := by
  unfold cmB
  apply decide_eq_decide.mpr
  exact ⟨fun e => congrArg tv e.symm, fun e => (txt_inj (V.str.inj e)).symm⟩
theorem cm_self (x : List Nat) : cmB x x = true := decide_eq_true rfl
end Tm

namespace T77
open PySem PySem.Spec PyProof.Rows L2 Tm
def topS (i : Nat) : Stmt := PySem.Challenge.pw_threadmark_k77_strings_as_values.main.body.getD i (.Pass ⟨0, 0, 0, 0⟩)
abbrev sBag : Stmt := topS 18
abbrev sPull : Stmt := topS 19
abbrev sOf : Stmt := topS 20
theorem scBag : FnScope ["_law_script", "_law_salt", "_law_cell"] ["_law_script"] (defScope sBag) := ⟨rfl, rfl, rfl, by decide +kernel, rfl, by decide +kernel, by decide +kernel⟩
theorem scPull : FnScope ["_law_bag_here", "_law_many", "_law_cell", "_law_digit", "_law_square"] ["_law_bag_here", "_law_many"] (defScope sPull) := ⟨rfl, rfl, rfl, by decide +kernel, rfl, by decide +kernel, by decide +kernel⟩
theorem scOf : FnScope ["_law_bag_here", "_law_things"] ["_law_bag_here", "_law_things"] (defScope sOf) := ⟨rfl, rfl, rfl, by decide +kernel, rfl, by decide +kernel, by decide +kernel⟩
section
variable {P : Program} {w : World} {K : PySem.W.Frag} {mg : Str → Option Value} {base : Heap}
theorem ok_bag {f : Addr} {fd : FuncData} (F : Fun K "_law_bag" "_law_bag" sBag f fd) (ml : mg "list" = none) : FnOk P w K mg base CX0 1 f fd ["_law_script"] (spBag K) := by
  refine F.ok scBag (fun vs H Q E h => ?_) (fun cdv A outer s H vs Q E hr h => ?_)
  · obtain ⟨a, ns, rfl, _⟩ := h
    rfl
  · obtain ⟨a, ns, rfl, hS, q⟩ := h
    refine ⟨_, pss_cons (ps_set (i := 1) scBag.nd rfl (.inl rfl) pe_int)
      (pss_cons (ps_for PassesOwn.never rfl (pi_list (pe_slice sl_list (pv 0) po_none (po_some pe_int))) (pg_name (i := 2) scBag.nd rfl (.inl rfl))
        (pss_one (ps_set (i := 1) scBag.nd rfl (.inl rfl) (pe_op op_mod (pe_op op_add (pe_op op_add (pe_op op_mul (pv 1) pe_int) (pe_op op_mod (pv 2) pe_int)) pe_int) pe_int))))
      (pss_one (ps_ret (pe_lst (pa_cons (pe_callTy call_list_of (by rfl) ml boot_list (pa_cons (pe_slice sl_list (pv 0) po_none (po_some pe_int)) pa_nil)) (pa_cons pe_int (pa_cons pe_int (pa_cons (pv 1) pa_nil)))))))), ?_⟩
    refine ⟨.ref a, rfl, 63, rfl, a, ns.map V.int, rfl, hS, fun p np => ?_⟩
    have s1 : Same H (upd H p (.lst (cutV (ns.map V.int) none (some 63)))) := same_upd np
    refine ⟨p, rfl, ⟨_, .inl (.inl upd_same)⟩, for_list (K := K) (a := p) (xs := cutV (ns.map V.int) none (some 63))
      (fun i σ H' => ∃ (z : Int) (y : Option V), σ = [some (.ref a), some (.int z), y] ∧ 0 ≤ z ∧ z < 2147483549 ∧ H' = upd H p (.lst (cutV (ns.map V.int) none (some 63)))) ⟨3808, none, rfl, by decide, by decide, rfl⟩
      (fun i σ H' _ ⟨_, _, _, _, _, e⟩ => by rw [e]; exact .inl (.inl upd_same)) ?_ ?_⟩
    · rintro i y σ H' hi ⟨z, y0, rfl, h0, h1, rfl⟩
      obtain ⟨u, rfl⟩ := cut_int hi
      refine ⟨_, rfl, _, _, rfl, rfl, .inl ⟨by omega, by omega⟩, _, rfl, _, _, rfl, rfl, (by dsimp only; decide), _, _, rfl, rfl, _, _, rfl, rfl, _, _, rfl, rfl, (by dsimp only; decide), ?_⟩
      refine ⟨_, _, rfl, Int.emod_nonneg _ (by decide), Int.emod_lt_of_pos _ (by decide), rfl⟩
    · rintro σ H' ⟨z, y0, rfl, h0, h1, rfl⟩
      refine ⟨.ref a, rfl, 63, rfl, a, ns.map V.int, rfl, s1.seq hS, fun p2 np2 => ?_⟩
      refine ⟨p2, _, rfl, .inl (.inl (.inl upd_same)), fun l nl => ?_⟩
      refine ⟨.int z, rfl, (by show 4 ≤ sizeLine; decide), fun b nb => ?_⟩
      have e2 := (same_upd (o := .lst (cutV (ns.map V.int) none (some 63))) np2)
      have e3 := (same_upd (o := .lst (cutV (ns.map V.int) none (some 63))) nl)
      have e4 := (same_upd (o := .lst [.ref l, .int 0, .int 0, .int z]) nb)
      have f4 := ((s1.trans e2).trans e3).free nb
      have f3 := (s1.trans e2).free nl
      obtain ⟨ms, em⟩ := cut_ints ns none (some 63)
      refine q _ b l (((s1.trans e2).trans e3).trans e4) f4 f3 ⟨ms, 0, 0, z, upd_same, ?_, by decide, by decide, h0, h1⟩
      rw [← em]
      exact e4 _ _ upd_same

theorem ok_pull {f : Addr} {fd : FuncData} (F : Fun K "_law_pull" "_law_pull" sPull f fd) (ml : mg "len" = none) : FnOk P w K mg base CX0 1 f fd ["_law_bag_here", "_law_many"] spPull := by
  refine F.ok scPull (fun vs H Q E h => ?_) (fun cdv A outer s H vs Q E hr h => ?_)
  · obtain ⟨b, l, m, rfl, _⟩ := h
    rfl
  · obtain ⟨b, l, m, rfl, B, hm0, hm1, q⟩ := h
    refine ⟨_, pss_cons (ps_if (PW.pt (pw_and (pt_cmpR op_lt (pe_ix ix_list (pv 0) pe_int (fun _ _ => rfl)) (pv 1) (nomark _)) (pw_and1 (pt_cmpR op_lt (pe_ix ix_list (pv 0) pe_int (fun _ _ => rfl)) (pe_callB call_len_seq (by rfl) ml PySem.boot_len (pa_cons (pe_ix ix_list (pv 0) pe_int (fun _ _ => rfl)) pa_nil)) (nomark _)))))
        (pss_cons (ps_set (i := 2) scPull.nd rfl (.inl rfl) (pe_ix ix_list (pe_ix ix_list (pv 0) pe_int (fun _ _ => rfl)) (pe_ix ix_list (pv 0) pe_int (fun _ _ => rfl)) (fun _ _ => rfl)))
        (pss_cons (ps_asg (pe_op op_add (pe_ix ix_list (pv 0) pe_int (fun _ _ => rfl)) pe_int) (pg_sub (pv 0) pe_int set_list))
        (pss_cons (ps_asg pe_int (pg_sub (pv 0) pe_int set_list))
        (pss_one (ps_if (pt_cmpR op_ge (pv 2) (pe_op op_pow pe_int pe_int) (nomark _)) (pss_one (ps_asg (pv 2) (pg_sub (pv 0) pe_int set_list)))
          (pss_one (ps_asg (pe_op op_mod (pe_op op_add (pe_op op_add (pe_op op_mul (pe_ix ix_list (pv 0) pe_int (fun _ _ => rfl)) pe_int) (pe_op op_mul (pe_op op_mod (pv 2) pe_int) pe_int)) pe_int) pe_int) (pg_sub (pv 0) pe_int set_list))))))))
        pss_nil)
      (pss_cons (ps_if (pt_cmpR op_ge (pe_ix ix_list (pv 0) pe_int (fun _ _ => rfl)) (pv 1) (nomark _))
        (pss_cons (ps_set (i := 3) scPull.nd rfl (.inl rfl) (pe_op op_mod (pe_ix ix_list (pv 0) pe_int (fun _ _ => rfl)) (pv 1)))
        (pss_cons (ps_asg (pe_op op_fdiv (pe_ix ix_list (pv 0) pe_int (fun _ _ => rfl)) (pv 1)) (pg_sub (pv 0) pe_int set_list))
        (pss_one (ps_ret (pv 3))))) pss_nil)
      (pss_cons (ps_set (i := 4) scPull.nd rfl (.inl rfl) (pe_op op_mod (pe_op op_mul (pe_ix ix_list (pv 0) pe_int (fun _ _ => rfl)) (pe_ix ix_list (pv 0) pe_int (fun _ _ => rfl))) pe_int))
      (pss_cons (ps_asg (pe_op op_mod (pe_op op_add (pe_op op_add (pe_op op_mul (pv 4) pe_int) (pe_op op_mul (pe_ix ix_list (pv 0) pe_int (fun _ _ => rfl)) pe_int)) pe_int) pe_int) (pg_sub (pv 0) pe_int set_list))
      (pss_one (ps_ret (pe_op op_mod (pe_op op_add (pe_op op_fdiv (pe_ix ix_list (pv 0) pe_int (fun _ _ => rfl)) pe_int) (pe_op op_mul (pe_op op_mod (pe_ix ix_list (pv 0) pe_int (fun _ _ => rfl)) pe_int) pe_int)) (pv 1))))))), ?_⟩
    refine cut (fun σ' H' => ∃ y, σ' = [some (.ref b), some (.int m), y, none, none] ∧ Bag H' b l ∧ Kp b H H') (fun σ1 H1 hp => ?tail) (fun N hN => ?head)
    case head =>
      obtain ⟨xs, i, n, z, hb, hl, i0, n0, z0, z1⟩ := id B
      have nlb := bag_ne hb hl
      refine ⟨_, rfl, b, _, 2, .int n, rfl, rfl, SqL.of hb, rfl, _, rfl, _, _, rfl, rfl, _, rfl, ite2 (fun hlt => ?_) (fun _ => ?_)⟩
      · refine ⟨_, rfl, b, _, 1, .int i, rfl, rfl, SqL.of hb, rfl, _, rfl, b, _, 0, .ref l, rfl, rfl, SqL.of hb, rfl, l, _, rfl, .inl (SqL.of hl), _, _, rfl, rfl, _, rfl, ite2 (fun hlt2 => ?_) (fun _ => ?_)⟩
        · have hi : i < ((xs.map V.int).length : Int) := of_decide_eq_true hlt2
          rw [List.length_map] at hi
          obtain ⟨j, rfl⟩ : ∃ j : Nat, i = j := ⟨i.toNat, by omega⟩
          have hj : j < xs.length := by omega
          have gj : (xs.map V.int)[j]? = some (.int xs[j]) := by
            rw [List.getElem?_map, List.getElem?_eq_getElem hj]; rfl
          generalize xs[j] = c at gj
          refine ⟨_, rfl, b, _, 0, .ref l, rfl, rfl, SqL.of hb, rfl, _, rfl, b, _, 1, .int j, rfl, rfl, SqL.of hb, rfl, l, _, j, .int c, rfl, rfl, SqL.of hl, atI_nat gj, ?_⟩
          refine ⟨_, rfl, b, _, 1, .int j, rfl, rfl, SqL.of hb, rfl, _, _, rfl, rfl, _, rfl, b, _, 1, 1, rfl, rfl, hb, rfl, ?_⟩
          refine ⟨_, rfl, b, _, 2, 2, rfl, rfl, upd_same, rfl, ?_⟩
          rw [upd_upd]
          refine ⟨_, rfl, _, _, rfl, rfl, ⟨by decide, by decide, by decide⟩, _, _, rfl, rfl, _, rfl, ite2 (fun hge => ?_) (fun _ => ?_)⟩
          · refine ⟨_, rfl, _, rfl, b, _, 2, 2, rfl, rfl, upd_same, rfl, ?_⟩
            rw [upd_upd]
            refine hN _ _ ⟨_, rfl, ⟨xs, _, _, _, upd_same, by rw [upd_ne nlb]; exact hl, by omega, ?_, z0, z1⟩, Kp.set⟩
            have e := of_decide_eq_true hge
            have e2 : (0 : Int) ≤ 10 ^ (18 : Int).toNat := by decide
            omega
          · refine ⟨_, rfl, b, _, 3, .int z, rfl, rfl, SqL.of upd_same, rfl, _, _, rfl, rfl, .inl ⟨by omega, by omega⟩, _, rfl, _, _, rfl, rfl, (by dsimp only; decide), _, _, rfl, rfl, .inr ⟨by decide, by decide⟩, _, _, rfl, rfl, _, _, rfl, rfl, _, _, rfl, rfl, (by dsimp only; decide), _, rfl, b, _, 3, 3, rfl, rfl, upd_same, rfl, ?_⟩
            rw [upd_upd]
            exact hN _ _ ⟨_, rfl, ⟨xs, _, _, _, upd_same, by rw [upd_ne nlb]; exact hl, by omega, by decide, Int.emod_nonneg _ (by decide), Int.emod_lt_of_pos _ (by decide)⟩, Kp.set⟩
        · exact hN _ _ ⟨_, rfl, B, Kp.refl _ _⟩
      · exact hN _ _ ⟨_, rfl, B, Kp.refl _ _⟩
    case tail =>
      obtain ⟨y, rfl, ⟨xs, i, n, z, hb, hl, i0, n0, z0, z1⟩, kp⟩ := hp
      have nlb := bag_ne hb hl
      refine ⟨_, rfl, b, _, 2, .int n, rfl, rfl, SqL.of hb, rfl, _, rfl, _, _, rfl, rfl, _, rfl, ite2 (fun hge => ?_) (fun _ => ?_)⟩
      · refine ⟨_, rfl, b, _, 2, .int n, rfl, rfl, SqL.of hb, rfl, _, rfl, _, _, rfl, rfl, hm0, ?_⟩
        refine ⟨_, rfl, b, _, 2, .int n, rfl, rfl, SqL.of hb, rfl, _, rfl, _, _, rfl, rfl, ⟨hm0, hm1⟩, _, rfl, b, _, 2, 2, rfl, rfl, hb, rfl, ?_⟩
        refine ⟨_, rfl, ?_⟩
        exact q _ _ (kp.trans Kp.set) ⟨xs, _, _, _, upd_same, by rw [upd_ne nlb]; exact hl, i0, Int.ediv_nonneg n0 (by omega), z0, z1⟩ (Int.emod_nonneg _ (by omega)) (Int.emod_lt_of_pos _ hm0)
      · refine ⟨_, rfl, b, _, 3, .int z, rfl, rfl, SqL.of hb, rfl, _, rfl, b, _, 3, .int z, rfl, rfl, SqL.of hb, rfl, _, _, rfl, rfl, .inl ⟨by omega, by omega⟩, _, _, rfl, rfl, (by dsimp only; decide), ?_⟩
        have w0 : 0 ≤ z * z % 2147483549 := Int.emod_nonneg _ (by decide)
        have w1 : z * z % 2147483549 < 2147483549 := Int.emod_lt_of_pos _ (by decide)
        refine ⟨_, rfl, _, _, rfl, rfl, .inl ⟨by omega, by omega⟩, _, rfl, b, _, 3, .int z, rfl, rfl, SqL.of hb, rfl, _, _, rfl, rfl, .inl ⟨by omega, by omega⟩, _, _, rfl, rfl, _, _, rfl, rfl, _, _, rfl, rfl, (by dsimp only; decide), _, rfl, b, _, 3, 3, rfl, rfl, hb, rfl, ?_⟩
        refine ⟨_, rfl, b, _, 3, _, rfl, rfl, SqL.of upd_same, rfl, _, _, rfl, rfl, ⟨by decide, by decide⟩, _, rfl, b, _, 3, _, rfl, rfl, SqL.of upd_same, rfl, _, _, rfl, rfl, (by dsimp only; decide), _, _, rfl, rfl, .inr ⟨by decide, by decide⟩, _, _, rfl, rfl, _, rfl, _, _, rfl, rfl, hm0, ?_⟩
        exact q _ _ (kp.trans Kp.set) ⟨xs, _, _, _, upd_same, by rw [upd_ne nlb]; exact hl, i0, n0, Int.emod_nonneg _ (by decide), Int.emod_lt_of_pos _ (by decide)⟩ (Int.emod_nonneg _ (by omega)) (Int.emod_lt_of_pos _ hm0)
end

section
variable {P : Program} {w : World} {K : PySem.W.Frag} {mg : Str → Option Value} {base : Heap}
theorem ok_of {f fP : Addr} {fd fdP : FuncData} (F : Fun K "_law_of" "_law_of" sOf f fd) (FP : Fun K "_law_pull" "_law_pull" sPull fP fdP) (bP : Binds K fdP ["_law_bag_here", "_law_many"] []) (gP : mg "_law_pull" = some (.ref fP)) (ml : mg "len" = none) : FnOk P w K mg base CX0 2 f fd ["_law_bag_here", "_law_things"] (spOf K) := by
  have GP : FnOk P w K mg base CX0 1 fP fdP ["_law_bag_here", "_law_many"] spPull := ok_pull FP ml
  refine F.ok scOf (fun vs H Q E h => ?_) (fun cdv A outer s H vs Q E hr h => ?_)
  · obtain ⟨b, l, t, xs, rfl, _⟩ := h
    rfl
  · obtain ⟨b, l, t, xs, rfl, B, hT, h0, h1, q⟩ := h
    refine ⟨_, pss_one (ps_ret (pe_ix ix_seq (pv 1) (pe_call GP hr (by rfl) gP FP.kp bP .nil pass0 (pa_cons (pv 0) (pa_cons (pe_callB call_len (by rfl) ml PySem.boot_len (pa_cons (pv 1) pa_nil)) pa_nil))) (fun _ _ => rfl))), ?_⟩
    rcases hT with ⟨a, rfl, nab, hS⟩ | ⟨z, rfl, hz, rfl⟩
    · refine ⟨_, rfl, _, rfl, _, rfl, _, _, rfl, .inl ⟨_, hS, rfl⟩, b, l, _, rfl, B, by omega, by omega, fun H' d kp B' d0 d1 => ?_⟩
      obtain ⟨j, rfl⟩ : ∃ j : Nat, d = j := ⟨d.toNat, by omega⟩
      have hj : j < xs.length := by omega
      exact .inl ⟨a, xs, _, xs[j], rfl, rfl, kp.seq nab hS, atI_nat (List.getElem?_eq_getElem hj), q _ _ kp B' (List.getElem_mem hj)⟩
    · rw [List.length_map, Array.length_toList] at h0 h1
      refine ⟨_, rfl, _, rfl, _, rfl, _, _, rfl, ⟨hz, rfl⟩, b, l, _, rfl, B, ?_, ?_, fun H' d kp B' d0 d1 => ?_⟩
      · show (0 : Int) < ((z.cps.size : Nat) : Int)
        omega
      · show ((z.cps.size : Nat) : Int) < 1073741824
        omega
      · have d2 : d < ((z.cps.size : Nat) : Int) := d1
        obtain ⟨j, rfl⟩ : ∃ j : Nat, d = j := ⟨d.toNat, by omega⟩
        have hj : j < z.cps.toList.length := by rw [Array.length_toList]; omega
        refine .inr (.inr ⟨z, _, z.cps.toList[j], rfl, rfl, hz, atI_nat (List.getElem?_eq_getElem hj), q _ _ kp B' ?_⟩)
        exact List.mem_map.mpr ⟨_, List.getElem_mem hj, rfl⟩
end

abbrev sSame : Stmt := topS 21
theorem scSame : FnScope ["_law_found", "_law_due", "_law_one", "_law_other"] ["_law_found", "_law_due"] (defScope sSame) := ⟨rfl, rfl, rfl, by decide +kernel, rfl, by decide +kernel, by decide +kernel⟩
structure SameT (mg : Str → Option Value) : Prop where
  isi : mg "isinstance" = none
  dict : mg "dict" = none
  list : mg "list" = none
  tuple : mg "tuple" = none
  bool : mg "bool" = none
  int : mg "int" = none
  str : mg "str" = none
  len : mg "len" = none
  all : mg "all" = none
  zip : mg "zip" = none
section
variable {P : Program} {w : World} {K : PySem.W.Frag} {mg : Str → Option Value} {base : Heap}
theorem ok_same0 {f : Addr} {fd : FuncData} (F : Fun K "_law_same" "_law_same" sSame f fd) (T : SameT mg) : FnOk P w K mg base CX0 (0 + 1) f fd ["_law_found", "_law_due"] (spSame (0)) := by
  refine F.ok scSame (fun vs H Q E h => ?_) (fun cdv A outer s H vs Q E hr h => ?_)
  · obtain ⟨x, y, rfl, _⟩ := h
    rfl
  · obtain ⟨x, y, rfl, he, q⟩ := h
    refine ⟨_, pss_cons (ps_if (PW.pt (pw_or (pt_cmpR op_isN (pv 1) pe_non (nomark _)) (pw_or1 (pt_cmpR op_isN (pv 0) pe_non (nomark _))))) (pss_one (ps_ret (pe_and (pe_cmpR op_isN (pv 0) pe_non (nomark _)) (pe_one (pe_cmpR op_isN (pv 1) pe_non (nomark _)))))) pss_nil)
      (pss_cons (ps_if (pt_val (pe_callB call_isi (by rfl) T.isi boot_isinstance (pa_cons (pv 1) (pa_cons (pe_bltn (v := .ty "dict") (by rfl) T.dict (by decide +kernel) rfl) pa_nil)))) pss_never pss_nil)
      (pss_cons (ps_if (pt_val (pe_callB call_isiT (by rfl) T.isi boot_isinstance (pa_cons (pv 1) (pa_cons (pe_tup (pa_cons (pe_bltn (v := .ty "list") (by rfl) T.list (by decide +kernel) rfl) (pa_cons (pe_bltn (v := .ty "tuple") (by rfl) T.tuple (by decide +kernel) rfl) pa_nil))) pa_nil)))) pss_never pss_nil)
      (pss_cons (ps_if (PW.pt (pw_or (pt_cmpR op_ne (pe_callB call_isi (by rfl) T.isi boot_isinstance (pa_cons (pv 0) (pa_cons (pe_bltn (v := .ty "bool") (by rfl) T.bool (by decide +kernel) rfl) pa_nil))) (pe_callB call_isi (by rfl) T.isi boot_isinstance (pa_cons (pv 1) (pa_cons (pe_bltn (v := .ty "bool") (by rfl) T.bool (by decide +kernel) rfl) pa_nil))) (nomark _))
          (pw_or1 (pt_cmpR op_ne (pe_callB call_isi (by rfl) T.isi boot_isinstance (pa_cons (pv 0) (pa_cons (pe_bltn (v := .ty "int") (by rfl) T.int (by decide +kernel) rfl) pa_nil))) (pe_callB call_isi (by rfl) T.isi boot_isinstance (pa_cons (pv 1) (pa_cons (pe_bltn (v := .ty "int") (by rfl) T.int (by decide +kernel) rfl) pa_nil))) (nomark _))))) pss_never pss_nil)
      (pss_one (ps_ret (pe_and (pe_cmpR op_eq (pe_callB call_isi (by rfl) T.isi boot_isinstance (pa_cons (pv 0) (pa_cons (pe_bltn (v := .ty "str") (by rfl) T.str (by decide +kernel) rfl) pa_nil))) (pe_callB call_isi (by rfl) T.isi boot_isinstance (pa_cons (pv 1) (pa_cons (pe_bltn (v := .ty "str") (by rfl) T.str (by decide +kernel) rfl) pa_nil))) (nomark _)) (pe_one (pe_cmpR op_eq (pv 0) (pv 1) (nomark _))))))))), ?_⟩
    rcases he with _ | ⟨_, bb⟩ | ⟨_, i⟩ | ⟨_, z⟩
    · refine ⟨_, rfl, rfl, _, rfl, iteT ⟨_, rfl, rfl, _, rfl, ifT rfl ⟨_, rfl, rfl, ?_⟩⟩⟩
      exact q _ (Same.refl _)
    · refine ⟨_, rfl, rfl, _, rfl, ifF (decide_eq_false (by intro e; cases e)) ⟨_, rfl, rfl, _, rfl, ifF (decide_eq_false (by intro e; cases e)) ?_⟩⟩
      refine ⟨_, rfl, _, _, _, _, false, rfl, .ty "dict", .base (.bl bb), kit_ty (by decide +kernel), _, rfl, iteF ?_⟩
      refine ⟨_, rfl, (by show 2 ≤ sizeLine; decide), fun t ht => ⟨_, t, _, _, [.type "list", .type "tuple"], false, rfl, upd_same, .cons (.ty _) (.cons (.ty _) .nil), .base (.bl bb), kit_list (by decide +kernel) (fun _ => by decide +kernel), _, rfl, iteF ?_⟩⟩
      refine ⟨_, rfl, _, _, _, _, true, rfl, .ty "bool", .base (.bl bb), kit_ty (by decide +kernel), _, rfl, _, _, _, _, true, rfl, .ty "bool", .base (.bl bb), kit_ty (by decide +kernel), rfl, _, rfl, ifF (by decide) ⟨_, rfl, _, _, _, _, true, rfl, .ty "int", .base (.bl bb), kit_ty (by decide +kernel), _, rfl, _, _, _, _, true, rfl, .ty "int", .base (.bl bb), kit_ty (by decide +kernel), rfl, _, rfl, ifF (by decide) ?_⟩⟩
      refine ⟨_, rfl, _, _, _, _, false, rfl, .ty "str", .base (.bl bb), kit_ty (by decide +kernel), _, rfl, _, _, _, _, false, rfl, .ty "str", .base (.bl bb), kit_ty (by decide +kernel), rfl, _, rfl, ifT (by decide) ⟨_, rfl, _, rfl, rfl, ?_⟩⟩
      rw [decide_eq_true rfl]
      exact q _ (same_upd ht)
    · refine ⟨_, rfl, rfl, _, rfl, ifF (decide_eq_false (by intro e; cases e)) ⟨_, rfl, rfl, _, rfl, ifF (decide_eq_false (by intro e; cases e)) ?_⟩⟩
      refine ⟨_, rfl, _, _, _, _, false, rfl, .ty "dict", .base (.int i), kit_ty (by decide +kernel), _, rfl, iteF ?_⟩
      refine ⟨_, rfl, (by show 2 ≤ sizeLine; decide), fun t ht => ⟨_, t, _, _, [.type "list", .type "tuple"], false, rfl, upd_same, .cons (.ty _) (.cons (.ty _) .nil), .base (.int i), kit_list (by decide +kernel) (fun _ => by decide +kernel), _, rfl, iteF ?_⟩⟩
      refine ⟨_, rfl, _, _, _, _, false, rfl, .ty "bool", .base (.int i), kit_ty (by decide +kernel), _, rfl, _, _, _, _, false, rfl, .ty "bool", .base (.int i), kit_ty (by decide +kernel), rfl, _, rfl, ifF (by decide) ⟨_, rfl, _, _, _, _, true, rfl, .ty "int", .base (.int i), kit_ty (by decide +kernel), _, rfl, _, _, _, _, true, rfl, .ty "int", .base (.int i), kit_ty (by decide +kernel), rfl, _, rfl, ifF (by decide) ?_⟩⟩
      refine ⟨_, rfl, _, _, _, _, false, rfl, .ty "str", .base (.int i), kit_ty (by decide +kernel), _, rfl, _, _, _, _, false, rfl, .ty "str", .base (.int i), kit_ty (by decide +kernel), rfl, _, rfl, ifT (by decide) ⟨_, rfl, _, rfl, rfl, ?_⟩⟩
      rw [decide_eq_true rfl]
      exact q _ (same_upd ht)
    · refine ⟨_, rfl, rfl, _, rfl, ifF (decide_eq_false (by intro e; cases e)) ⟨_, rfl, rfl, _, rfl, ifF (decide_eq_false (by intro e; cases e)) ?_⟩⟩
      refine ⟨_, rfl, _, _, _, _, false, rfl, .ty "dict", .base (.str z), kit_ty (by decide +kernel), _, rfl, iteF ?_⟩
      refine ⟨_, rfl, (by show 2 ≤ sizeLine; decide), fun t ht => ⟨_, t, _, _, [.type "list", .type "tuple"], false, rfl, upd_same, .cons (.ty _) (.cons (.ty _) .nil), .base (.str z), kit_list (by decide +kernel) (fun _ => by decide +kernel), _, rfl, iteF ?_⟩⟩
      refine ⟨_, rfl, _, _, _, _, false, rfl, .ty "bool", .base (.str z), kit_ty (by decide +kernel), _, rfl, _, _, _, _, false, rfl, .ty "bool", .base (.str z), kit_ty (by decide +kernel), rfl, _, rfl, ifF (by decide) ⟨_, rfl, _, _, _, _, false, rfl, .ty "int", .base (.str z), kit_ty (by decide +kernel), _, rfl, _, _, _, _, false, rfl, .ty "int", .base (.str z), kit_ty (by decide +kernel), rfl, _, rfl, ifF (by decide) ?_⟩⟩
      refine ⟨_, rfl, _, _, _, _, true, rfl, .ty "str", .base (.str z), kit_ty (by decide +kernel), _, rfl, _, _, _, _, true, rfl, .ty "str", .base (.str z), kit_ty (by decide +kernel), rfl, _, rfl, ifT (by decide) ⟨_, rfl, _, rfl, rfl, ?_⟩⟩
      rw [decide_eq_true rfl]
      exact q _ (same_upd ht)
theorem ok_sameS {f : Addr} {fd : FuncData} {n : Nat} (G : FnOk P w K mg base CX0 (n + 1) f fd ["_law_found", "_law_due"] (spSame n)) (gS : mg "_law_same" = some (.ref f)) (bS : Binds K fd ["_law_found", "_law_due"] []) (F : Fun K "_law_same" "_law_same" sSame f fd) (T : SameT mg) : FnOk P w K mg base CX0 (n + 1 + 1) f fd ["_law_found", "_law_due"] (spSame (n + 1)) := by
  refine F.ok scSame (fun vs H Q E h => ?_) (fun cdv A outer s H vs Q E hr h => ?_)
  · obtain ⟨x, y, rfl, _⟩ := h
    rfl
  · obtain ⟨x, y, rfl, he, q⟩ := h
    refine ⟨_, pss_cons (ps_if (PW.pt (pw_or (pt_cmpR op_isN (pv 1) pe_non (nomark _)) (pw_or1 (pt_cmpR op_isN (pv 0) pe_non (nomark _))))) (pss_one (ps_ret (pe_and (pe_cmpR op_isN (pv 0) pe_non (nomark _)) (pe_one (pe_cmpR op_isN (pv 1) pe_non (nomark _)))))) pss_nil)
      (pss_cons (ps_if (pt_val (pe_callB call_isi (by rfl) T.isi boot_isinstance (pa_cons (pv 1) (pa_cons (pe_bltn (v := .ty "dict") (by rfl) T.dict (by decide +kernel) rfl) pa_nil)))) pss_never pss_nil)
      (pss_cons (ps_if (pt_val (pe_callB call_isiT (by rfl) T.isi boot_isinstance (pa_cons (pv 1) (pa_cons (pe_tup (pa_cons (pe_bltn (v := .ty "list") (by rfl) T.list (by decide +kernel) rfl) (pa_cons (pe_bltn (v := .ty "tuple") (by rfl) T.tuple (by decide +kernel) rfl) pa_nil))) pa_nil)))) (pss_cons (ps_if (PW.pt (pw_or (pt_cmpR op_ne (pe_callB call_isi (by rfl) T.isi boot_isinstance (pa_cons (pv 0) (pa_cons (pe_bltn (v := .ty "list") (by rfl) T.list (by decide +kernel) rfl) pa_nil))) (pe_callB call_isi (by rfl) T.isi boot_isinstance (pa_cons (pv 1) (pa_cons (pe_bltn (v := .ty "list") (by rfl) T.list (by decide +kernel) rfl) pa_nil))) (nomark _)) (pw_or1 (pt_cmpR op_ne (pe_callB call_isi (by rfl) T.isi boot_isinstance (pa_cons (pv 0) (pa_cons (pe_bltn (v := .ty "tuple") (by rfl) T.tuple (by decide +kernel) rfl) pa_nil))) (pe_callB call_isi (by rfl) T.isi boot_isinstance (pa_cons (pv 1) (pa_cons (pe_bltn (v := .ty "tuple") (by rfl) T.tuple (by decide +kernel) rfl) pa_nil))) (nomark _))))) pss_never pss_nil)
        (pss_one (ps_ret (pe_and (pe_cmpR op_eq (pe_callB call_len_seq (by rfl) T.len PySem.boot_len (pa_cons (pv 0) pa_nil)) (pe_callB call_len_seq (by rfl) T.len PySem.boot_len (pa_cons (pv 1) pa_nil)) (nomark _))
          (pe_one (pe_callB (cr_all rfl) (by rfl) T.all boot_all (pa_cons (pe_lc (own := [("_law_one", 2), ("_law_other", 3)]) (g := gTup K 2 (gCons (gName 2) (gCons (gName 3) gNil))) (tt := tYes) rfl scSame.nd (RZ.pi_zipA (by rfl) T.zip (pa_cons (pv 0) (pa_cons (pv 1) pa_nil)))
            (blkOk_by (own := [("_law_one", 2), ("_law_other", 3)]) (N := ["_law_found", "_law_due", "_law_one", "_law_other"]) (sc := defScope sSame) (by decide +kernel))
            (fun _ _ _ _ _ => pg_tup rfl (pgs_cons (pg_name (i := 2) scSame.nd rfl (Or.inl rfl)) (pgs_cons (pg_name (i := 3) scSame.nd rfl (Or.inl rfl)) pgs_nil))) (fun _ _ _ _ _ => pts_nil)
            (fun _ _ _ _ _ => pe_call G hr (by rfl) gS F.kp bS .nil pass0 (pa_cons (pv 2) (pa_cons (pv 3) pa_nil)))) pa_nil))))))) pss_nil)
      (pss_cons (ps_if (PW.pt (pw_or (pt_cmpR op_ne (pe_callB call_isi (by rfl) T.isi boot_isinstance (pa_cons (pv 0) (pa_cons (pe_bltn (v := .ty "bool") (by rfl) T.bool (by decide +kernel) rfl) pa_nil))) (pe_callB call_isi (by rfl) T.isi boot_isinstance (pa_cons (pv 1) (pa_cons (pe_bltn (v := .ty "bool") (by rfl) T.bool (by decide +kernel) rfl) pa_nil))) (nomark _))
          (pw_or1 (pt_cmpR op_ne (pe_callB call_isi (by rfl) T.isi boot_isinstance (pa_cons (pv 0) (pa_cons (pe_bltn (v := .ty "int") (by rfl) T.int (by decide +kernel) rfl) pa_nil))) (pe_callB call_isi (by rfl) T.isi boot_isinstance (pa_cons (pv 1) (pa_cons (pe_bltn (v := .ty "int") (by rfl) T.int (by decide +kernel) rfl) pa_nil))) (nomark _))))) pss_never pss_nil)
      (pss_one (ps_ret (pe_and (pe_cmpR op_eq (pe_callB call_isi (by rfl) T.isi boot_isinstance (pa_cons (pv 0) (pa_cons (pe_bltn (v := .ty "str") (by rfl) T.str (by decide +kernel) rfl) pa_nil))) (pe_callB call_isi (by rfl) T.isi boot_isinstance (pa_cons (pv 1) (pa_cons (pe_bltn (v := .ty "str") (by rfl) T.str (by decide +kernel) rfl) pa_nil))) (nomark _)) (pe_one (pe_cmpR op_eq (pv 0) (pv 1) (nomark _))))))))), ?_⟩
    rcases he with _ | ⟨_, bb⟩ | ⟨_, i⟩ | ⟨_, z⟩ | ⟨hp, hq, hl, hz, hh⟩ | ⟨hp, hq, hl, hz, hh⟩
    · refine ⟨_, rfl, rfl, _, rfl, iteT ⟨_, rfl, rfl, _, rfl, ifT rfl ⟨_, rfl, rfl, ?_⟩⟩⟩
      exact q _ (Same.refl _)
    · refine ⟨_, rfl, rfl, _, rfl, ifF (decide_eq_false (by intro e; cases e)) ⟨_, rfl, rfl, _, rfl, ifF (decide_eq_false (by intro e; cases e)) ?_⟩⟩
      refine ⟨_, rfl, _, _, _, _, false, rfl, .ty "dict", .base (.bl bb), kit_ty (by decide +kernel), _, rfl, iteF ?_⟩
      refine ⟨_, rfl, (by show 2 ≤ sizeLine; decide), fun t ht => ⟨_, t, _, _, [.type "list", .type "tuple"], false, rfl, upd_same, .cons (.ty _) (.cons (.ty _) .nil), .base (.bl bb), kit_list (by decide +kernel) (fun _ => by decide +kernel), _, rfl, iteF ?_⟩⟩
      refine ⟨_, rfl, _, _, _, _, true, rfl, .ty "bool", .base (.bl bb), kit_ty (by decide +kernel), _, rfl, _, _, _, _, true, rfl, .ty "bool", .base (.bl bb), kit_ty (by decide +kernel), rfl, _, rfl, ifF (by decide) ⟨_, rfl, _, _, _, _, true, rfl, .ty "int", .base (.bl bb), kit_ty (by decide +kernel), _, rfl, _, _, _, _, true, rfl, .ty "int", .base (.bl bb), kit_ty (by decide +kernel), rfl, _, rfl, ifF (by decide) ?_⟩⟩
      refine ⟨_, rfl, _, _, _, _, false, rfl, .ty "str", .base (.bl bb), kit_ty (by decide +kernel), _, rfl, _, _, _, _, false, rfl, .ty "str", .base (.bl bb), kit_ty (by decide +kernel), rfl, _, rfl, ifT (by decide) ⟨_, rfl, _, rfl, rfl, ?_⟩⟩
      rw [decide_eq_true rfl]
      exact q _ (same_upd ht)
    · refine ⟨_, rfl, rfl, _, rfl, ifF (decide_eq_false (by intro e; cases e)) ⟨_, rfl, rfl, _, rfl, ifF (decide_eq_false (by intro e; cases e)) ?_⟩⟩
      refine ⟨_, rfl, _, _, _, _, false, rfl, .ty "dict", .base (.int i), kit_ty (by decide +kernel), _, rfl, iteF ?_⟩
      refine ⟨_, rfl, (by show 2 ≤ sizeLine; decide), fun t ht => ⟨_, t, _, _, [.type "list", .type "tuple"], false, rfl, upd_same, .cons (.ty _) (.cons (.ty _) .nil), .base (.int i), kit_list (by decide +kernel) (fun _ => by decide +kernel), _, rfl, iteF ?_⟩⟩
      refine ⟨_, rfl, _, _, _, _, false, rfl, .ty "bool", .base (.int i), kit_ty (by decide +kernel), _, rfl, _, _, _, _, false, rfl, .ty "bool", .base (.int i), kit_ty (by decide +kernel), rfl, _, rfl, ifF (by decide) ⟨_, rfl, _, _, _, _, true, rfl, .ty "int", .base (.int i), kit_ty (by decide +kernel), _, rfl, _, _, _, _, true, rfl, .ty "int", .base (.int i), kit_ty (by decide +kernel), rfl, _, rfl, ifF (by decide) ?_⟩⟩
      refine ⟨_, rfl, _, _, _, _, false, rfl, .ty "str", .base (.int i), kit_ty (by decide +kernel), _, rfl, _, _, _, _, false, rfl, .ty "str", .base (.int i), kit_ty (by decide +kernel), rfl, _, rfl, ifT (by decide) ⟨_, rfl, _, rfl, rfl, ?_⟩⟩
      rw [decide_eq_true rfl]
      exact q _ (same_upd ht)
    · refine ⟨_, rfl, rfl, _, rfl, ifF (decide_eq_false (by intro e; cases e)) ⟨_, rfl, rfl, _, rfl, ifF (decide_eq_false (by intro e; cases e)) ?_⟩⟩
      refine ⟨_, rfl, _, _, _, _, false, rfl, .ty "dict", .base (.str z), kit_ty (by decide +kernel), _, rfl, iteF ?_⟩
      refine ⟨_, rfl, (by show 2 ≤ sizeLine; decide), fun t ht => ⟨_, t, _, _, [.type "list", .type "tuple"], false, rfl, upd_same, .cons (.ty _) (.cons (.ty _) .nil), .base (.str z), kit_list (by decide +kernel) (fun _ => by decide +kernel), _, rfl, iteF ?_⟩⟩
      refine ⟨_, rfl, _, _, _, _, false, rfl, .ty "bool", .base (.str z), kit_ty (by decide +kernel), _, rfl, _, _, _, _, false, rfl, .ty "bool", .base (.str z), kit_ty (by decide +kernel), rfl, _, rfl, ifF (by decide) ⟨_, rfl, _, _, _, _, false, rfl, .ty "int", .base (.str z), kit_ty (by decide +kernel), _, rfl, _, _, _, _, false, rfl, .ty "int", .base (.str z), kit_ty (by decide +kernel), rfl, _, rfl, ifF (by decide) ?_⟩⟩
      refine ⟨_, rfl, _, _, _, _, true, rfl, .ty "str", .base (.str z), kit_ty (by decide +kernel), _, rfl, _, _, _, _, true, rfl, .ty "str", .base (.str z), kit_ty (by decide +kernel), rfl, _, rfl, ifT (by decide) ⟨_, rfl, _, rfl, rfl, ?_⟩⟩
      rw [decide_eq_true rfl]
      exact q _ (same_upd ht)
    · rename_i p' q' xs ys
      refine ⟨_, rfl, rfl, _, rfl, ifF (decide_eq_false (by intro e; cases e)) ⟨_, rfl, rfl, _, rfl, ifF (decide_eq_false (by intro e; cases e)) ?_⟩⟩
      refine ⟨_, rfl, _, _, _, _, false, rfl, .ty "dict", .base (.lst hq), kit_ty (by decide +kernel), _, rfl, iteF ?_⟩
      refine ⟨_, rfl, (by show 2 ≤ sizeLine; decide), fun t ht => ⟨_, t, _, _, [.type "list", .type "tuple"], true, rfl, upd_same, .cons (.ty _) (.cons (.ty _) .nil), .base (.lst (same_upd ht _ _ hq)), kit_list (by decide +kernel) (fun e => by cases e), _, rfl, iteT ?_⟩⟩
      have s1 : Same H (upd H t (.tup [.ty "list", .ty "tuple"])) := same_upd ht
      have hp1 := s1 _ _ hp
      have hq1 := s1 _ _ hq
      refine ⟨_, rfl, _, _, _, _, true, rfl, .ty "list", .base (.lst hp1), kit_ty (by decide +kernel), _, rfl, _, _, _, _, true, rfl, .ty "list", .base (.lst hq1), kit_ty (by decide +kernel), rfl, _, rfl, ifF (by decide) ⟨_, rfl, _, _, _, _, false, rfl, .ty "tuple", .base (.lst hp1), kit_ty (by decide +kernel), _, rfl, _, _, _, _, false, rfl, .ty "tuple", .base (.lst hq1), kit_ty (by decide +kernel), rfl, _, rfl, ifF (by decide) ?_⟩⟩
      refine ⟨_, rfl, p', xs, rfl, .inl (SqL.of hp1), _, rfl, q', ys, rfl, .inl (SqL.of hq1), rfl, _, rfl, ifT (decide_eq_true (by rw [hl])) ?_⟩
      refine ⟨_, rfl, _, rfl, p', q', xs, ys, rfl, .inl ⟨SqL.of hp1, SqL.of hq1, fun D hD => ?_⟩⟩
      have fD := s1.free hD
      refine lc_it (walk_zip (K := K) (a := p') (b := q') (xs := xs) (ys := ys) (n := xs.length) (by omega)) (fun i H' => Same H H' ∧ H' D = some (.lst ((List.replicate i true).map V.bl))) ⟨same_put s1 fD, upd_same⟩
        (fun i H' _ hv => ⟨SqL.of (hv.1 _ _ hp), SqL.of (hv.1 _ _ hq)⟩) ?_ ?_
      · rintro i v H' H2 hi ⟨sm, hDl⟩ ⟨t2, a1, a2, rfl, ht2, rfl, e1, e2⟩
        have s2 : Same H' (upd H' t2 (.tup [a1, a2])) := same_upd ht2
        refine ⟨t2, _, rfl, .inl (.inl upd_same), rfl, a1, [a2], rfl, a2, [], rfl, rfl, rfl, ?_⟩
        refine ⟨_, rfl, _, rfl, a1, a2, rfl, (hh i a1 a2 e1 e2).same (sm.trans s2), fun H3 s3 => ?_⟩
        refine ⟨_, s3 _ _ (s2 _ _ hDl), ?_, same_put (sm.trans (s2.trans s3)) fD, ?_⟩
        · rw [List.length_map, List.length_replicate]
          exact Nat.lt_of_lt_of_le hi (Nat.le_trans hz (by decide))
        · rw [upd_same, List.replicate_succ', List.map_append]
          rfl
      · rintro H' ⟨sm, hDl⟩
        refine ⟨D, List.replicate xs.length true, rfl, SqL.of hDl, ?_⟩
        have e : (List.replicate xs.length true).all id = true := by
          rw [List.all_eq_true]
          intro b hb
          exact (List.mem_replicate.mp hb).2
        rw [e]
        exact q _ sm
    · rename_i p' q' xs ys
      refine ⟨_, rfl, rfl, _, rfl, ifF (decide_eq_false (by intro e; cases e)) ⟨_, rfl, rfl, _, rfl, ifF (decide_eq_false (by intro e; cases e)) ?_⟩⟩
      refine ⟨_, rfl, _, _, _, _, false, rfl, .ty "dict", .base (.tup hq), kit_ty (by decide +kernel), _, rfl, iteF ?_⟩
      refine ⟨_, rfl, (by show 2 ≤ sizeLine; decide), fun t ht => ⟨_, t, _, _, [.type "list", .type "tuple"], true, rfl, upd_same, .cons (.ty _) (.cons (.ty _) .nil), .base (.tup (same_upd ht _ _ hq)), kit_tup, _, rfl, iteT ?_⟩⟩
      have s1 : Same H (upd H t (.tup [.ty "list", .ty "tuple"])) := same_upd ht
      have hp1 := s1 _ _ hp
      have hq1 := s1 _ _ hq
      refine ⟨_, rfl, _, _, _, _, false, rfl, .ty "list", .base (.tup hp1), kit_ty (by decide +kernel), _, rfl, _, _, _, _, false, rfl, .ty "list", .base (.tup hq1), kit_ty (by decide +kernel), rfl, _, rfl, ifF (by decide) ⟨_, rfl, _, _, _, _, true, rfl, .ty "tuple", .base (.tup hp1), kit_ty (by decide +kernel), _, rfl, _, _, _, _, true, rfl, .ty "tuple", .base (.tup hq1), kit_ty (by decide +kernel), rfl, _, rfl, ifF (by decide) ?_⟩⟩
      refine ⟨_, rfl, p', xs, rfl, .inr (.inl (.inl hp1)), _, rfl, q', ys, rfl, .inr (.inl (.inl hq1)), rfl, _, rfl, ifT (decide_eq_true (by rw [hl])) ?_⟩
      refine ⟨_, rfl, _, rfl, p', q', xs, ys, rfl, .inr ⟨.inl (.inl hp1), .inl (.inl hq1), fun D hD => ?_⟩⟩
      have fD := s1.free hD
      refine lc_it (zip_tuples (K := K) (a := p') (b := q') (xs := xs) (ys := ys) hl) (fun i H' => Same H H' ∧ H' D = some (.lst ((List.replicate i true).map V.bl))) ⟨same_put s1 fD, upd_same⟩
        (fun i H' _ hv => ⟨.inl (.inl (hv.1 _ _ hp)), .inl (.inl (hv.1 _ _ hq))⟩) ?_ ?_
      · rintro i v H' H2 hi ⟨sm, hDl⟩ ⟨t2, a1, a2, rfl, ht2, rfl, e1, e2⟩
        have s2 : Same H' (upd H' t2 (.tup [a1, a2])) := same_upd ht2
        refine ⟨t2, _, rfl, .inl (.inl upd_same), rfl, a1, [a2], rfl, a2, [], rfl, rfl, rfl, ?_⟩
        refine ⟨_, rfl, _, rfl, a1, a2, rfl, (hh i a1 a2 e1 e2).same (sm.trans s2), fun H3 s3 => ?_⟩
        refine ⟨_, s3 _ _ (s2 _ _ hDl), ?_, same_put (sm.trans (s2.trans s3)) fD, ?_⟩
        · rw [List.length_map, List.length_replicate]
          exact Nat.lt_of_lt_of_le hi (Nat.le_trans hz (by decide))
        · rw [upd_same, List.replicate_succ', List.map_append]
          rfl
      · rintro H' ⟨sm, hDl⟩
        refine ⟨D, List.replicate xs.length true, rfl, SqL.of hDl, ?_⟩
        have e : (List.replicate xs.length true).all id = true := by
          rw [List.all_eq_true]
          intro b hb
          exact (List.mem_replicate.mp hb).2
        rw [e]
        exact q _ sm
theorem ok_same {f : Addr} {fd : FuncData} (F : Fun K "_law_same" "_law_same" sSame f fd) (T : SameT mg) (gS : mg "_law_same" = some (.ref f)) (bS : Binds K fd ["_law_found", "_law_due"] []) : ∀ n : Nat, FnOk P w K mg base CX0 (n + 1) f fd ["_law_found", "_law_due"] (spSame n)
  | 0 => ok_same0 F T
  | n + 1 => ok_sameS (ok_same F T gS bS n) gS bS F T
end

abbrev sLettersOf : Stmt := topS 6
abbrev sSignOf : Stmt := topS 7
abbrev sSigned : Stmt := topS 8
theorem scLettersOf : FnScope ["text"] ["text"] (defScope sLettersOf) := ⟨rfl, rfl, rfl, by decide +kernel, rfl, by decide +kernel, by decide +kernel⟩
theorem scSignOf : FnScope ["text"] ["text"] (defScope sSignOf) := ⟨rfl, rfl, rfl, by decide +kernel, rfl, by decide +kernel, by decide +kernel⟩
theorem scSigned : FnScope ["turns", "letters"] ["turns", "letters"] (defScope sSigned) := ⟨rfl, rfl, rfl, by decide +kernel, rfl, by decide +kernel, by decide +kernel⟩
section
variable {P : Program} {w : World} {K : PySem.W.Frag} {mg : Str → Option Value} {base : Heap}
theorem ok_letters {f : Addr} {fd : FuncData} (F : Fun K "letters_of" "letters_of" sLettersOf f fd) : FnOk P w K mg base CX0 1 f fd ["text"] spLetters := by
  refine F.ok scLettersOf (fun vs H Q E h => ?_) (fun cdv A outer s H vs Q E hr h => ?_)
  · obtain ⟨ts, rfl, _⟩ := h
    rfl
  · obtain ⟨ts, rfl, hz, q⟩ := h
    refine ⟨_, pss_one (ps_ret (pe_m1 PySem.F.slot_str_removeprefix PySem.F.type_str_removeprefix mt_removeprefix (pv 0) pe_str)), ?_⟩
    refine ⟨_, rfl, ⟨_, rfl⟩, txt ts, Str.ofString "-", rfl, rfl, by rw [txt_len]; exact hz, ?_⟩
    rw [remove_minus]
    exact q
theorem ok_signof {f fL : Addr} {fd fdL : FuncData} (F : Fun K "sign_of" "sign_of" sSignOf f fd) (FL : Fun K "letters_of" "letters_of" sLettersOf fL fdL) (bL : Binds K fdL ["text"] []) (gL : mg "letters_of" = some (.ref fL)) (ml : mg "len" = none) : FnOk P w K mg base CX0 2 f fd ["text"] spSignOf := by
  have GL : FnOk P w K mg base CX0 1 fL fdL ["text"] spLetters := ok_letters FL
  refine F.ok scSignOf (fun vs H Q E h => ?_) (fun cdv A outer s H vs Q E hr h => ?_)
  · obtain ⟨ts, rfl, _⟩ := h
    rfl
  · obtain ⟨ts, rfl, hz, q⟩ := h
    refine ⟨_, pss_one (ps_ret (pe_op op_sub (pe_callB call_len_str (by rfl) ml PySem.boot_len (pa_cons (pv 0) pa_nil)) (pe_callB call_len_str (by rfl) ml PySem.boot_len (pa_cons (pe_call GL hr (by rfl) gL FL.kp bL .nil pass0 (pa_cons (pv 0) pa_nil)) pa_nil)))), ?_⟩
    have e := letters_len ts
    refine ⟨_, rfl, _, rfl, by rw [txt_len]; exact hz, _, rfl, ts, rfl, hz, _, rfl, by rw [txt_len]; omega, _, _, rfl, rfl, ?_⟩
    have e2 : ((txt ts).length : Int) - ((txt (lettersL ts)).length : Int) = (signL ts : Int) := by
      rw [txt_len, txt_len]; omega
    show Q (.int (((txt ts).length : Int) - ((txt (lettersL ts)).length : Int))) H
    rw [e2]
    exact q
theorem ok_signed {f : Addr} {fd : FuncData} (F : Fun K "signed" "signed" sSigned f fd) : FnOk P w K mg base CX0 1 f fd ["turns", "letters"] spSigned := by
  refine F.ok scSigned (fun vs H Q E h => ?_) (fun cdv A outer s H vs Q E hr h => ?_)
  · obtain ⟨t, cs, rfl, _⟩ := h
    rfl
  · obtain ⟨t, cs, rfl, hz, q⟩ := h
    refine ⟨_, pss_one (ps_ret (pe_ifExp (pt_cmpR op_eq (pe_op op_mod (pv 0) pe_int) pe_int (nomark _)) (pe_op op_add_str pe_str (pv 1)) (pv 1))), ?_⟩
    refine ⟨_, rfl, _, _, rfl, rfl, (by dsimp only; decide), rfl, _, rfl, ite2 (fun h => ?_) (fun h => ?_)⟩
    · have e := V.int.inj (of_decide_eq_true h)
      refine ⟨_, rfl, _, _, rfl, rfl, by rw [txt_minus, txt_len, txt_len]; simp; omega, ?_⟩
      rw [txt_minus, txt_app]
      unfold signedL at q
      rw [if_pos e] at q
      exact q
    · have e : ¬ t % 2 = 1 := fun z => h (decide_eq_true (congrArg V.int z))
      unfold signedL at q
      rw [if_neg e] at q
      exact ⟨_, rfl, q⟩
end

abbrev sLSigned : Stmt := topS 25
theorem scLSigned : FnScope ["_law_mturned", "_law_body_here"] ["_law_mturned", "_law_body_here"] (defScope sLSigned) := ⟨rfl, rfl, rfl, by decide +kernel, rfl, by decide +kernel, by decide +kernel⟩
section
variable {P : Program} {w : World} {K : PySem.W.Frag} {mg : Str → Option Value} {base : Heap}
theorem ok_lsigned {f : Addr} {fd : FuncData} (F : Fun K "_law_signed" "_law_signed" sLSigned f fd) : FnOk P w K mg base CX0 1 f fd ["_law_mturned", "_law_body_here"] spLSigned := by
  refine F.ok scLSigned (fun vs H Q E h => ?_) (fun cdv A outer s H vs Q E hr h => ?_)
  · obtain ⟨t, cs, rfl, _⟩ := h
    rfl
  · obtain ⟨t, cs, rfl, hz, q⟩ := h
    refine ⟨_, pss_one (ps_ret (pe_op op_add_str (pe_ifExp (pt_cmpR op_eq (pe_op op_mod (pv 0) pe_int) pe_int (nomark _)) pe_str pe_str) (pv 1))), ?_⟩
    refine ⟨_, rfl, _, _, rfl, rfl, (by dsimp only; decide), rfl, _, rfl, ite2 (fun h => ?_) (fun h => ?_)⟩
    · have e := V.int.inj (of_decide_eq_true h)
      refine ⟨_, rfl, _, _, rfl, rfl, by rw [txt_minus, txt_len, txt_len]; simp; omega, ?_⟩
      rw [txt_minus, txt_app]
      unfold signedL at q
      rw [if_pos e] at q
      exact q
    · have e : ¬ t % 2 = 1 := fun z => h (decide_eq_true (congrArg V.int z))
      refine ⟨_, rfl, _, _, rfl, rfl, by rw [txt_empty, txt_len, txt_len]; simp; omega, ?_⟩
      rw [txt_empty, txt_app]
      unfold signedL at q
      rw [if_neg e] at q
      exact q
end

abbrev sLBody : Stmt := topS 24
theorem scLBody : FnScope ["_law_text"] ["_law_text"] (defScope sLBody) := ⟨rfl, rfl, rfl, by decide +kernel, rfl, by decide +kernel, by decide +kernel⟩
section
variable {P : Program} {w : World} {K : PySem.W.Frag} {mg : Str → Option Value} {base : Heap}
theorem first_is (ts : List Nat) : decide (V.str (cutS (txt ts) none (some 1)) = V.str (Str.ofString "-")) = decide (signL ts = 1) := by
  have e : cutS (txt ts) none (some ((1 : Nat) : Int)) = txt (ts.take 1) := cutS_take _ 1
  have e' : cutS (txt ts) none (some 1) = txt (ts.take 1) := e
  rw [e', txt_minus]
  cases ts with
  | nil => exact decide_eq_false (fun z => by cases txt_inj (V.str.inj z))
  | cons c r =>
    show decide (V.str (txt [c]) = V.str (txt [45])) = decide (signL (c :: r) = 1)
    by_cases h : c = 45
    · subst h
      rfl
    · have e0 : signL (c :: r) = 0 := if_neg h
      rw [decide_eq_false (fun z => h (List.head_eq_of_cons_eq (txt_inj (V.str.inj z)))), e0]
      rfl
theorem ok_lbody {f : Addr} {fd : FuncData} (F : Fun K "_law_body" "_law_body" sLBody f fd) : FnOk P w K mg base CX0 1 f fd ["_law_text"] spLBody := by
  refine F.ok scLBody (fun vs H Q E h => ?_) (fun cdv A outer s H vs Q E hr h => ?_)
  · obtain ⟨ts, rfl, _⟩ := h
    rfl
  · obtain ⟨ts, rfl, hz, q⟩ := h
    refine ⟨_, pss_one (ps_ret (pe_ifExp (pt_cmpR op_eq (pe_slice sl_str (pv 0) po_none (po_some pe_int)) pe_str (nomark _)) (pe_slice sl_str (pv 0) (po_some pe_int) po_none) (pv 0))), ?_⟩
    have tz : (txt ts).length ≤ sizeLine := by rw [txt_len]; exact Nat.le_of_lt (small1000 hz)
    refine ⟨_, rfl, 1, rfl, _, rfl, tz, rfl, _, rfl, ?_⟩
    rw [first_is]
    cases ts with
    | nil => exact iteF ⟨_, rfl, q⟩
    | cons c r =>
      by_cases h : c = 45
      · subst h
        have e : cutS (txt (45 :: r)) (some ((1 : Nat) : Int)) none = txt r := cutS_drop (45 :: r) 1
        have e' : cutS (txt (45 :: r)) (some 1) none = txt r := e
        refine iteT ⟨_, rfl, 1, rfl, _, rfl, tz, ?_⟩
        rw [e']
        exact q
      · have e1 : signL (c :: r) = 0 := if_neg h
        have e2 : lettersL (c :: r) = c :: r := if_neg h
        rw [e1]
        rw [e2] at q
        exact iteF ⟨_, rfl, q⟩
end


end T77

namespace T77
open PySem PySem.Spec PyProof.Rows L2 Tm
abbrev sIsStr : Stmt := topS 12
abbrev sChkS : Stmt := topS 13
abbrev sTwo : Stmt := topS 14
abbrev sMult : Stmt := topS 15
theorem scIsStr : FnScope ["text", "letter"] ["text"] (defScope sIsStr) := ⟨rfl, rfl, rfl, by decide +kernel, rfl, by decide +kernel, by decide +kernel⟩
theorem scChkS : FnScope ["text"] ["text"] (defScope sChkS) := ⟨rfl, rfl, rfl, by decide +kernel, rfl, by decide +kernel, by decide +kernel⟩
theorem scTwo : FnScope ["one", "other", "products", "turns", "left", "right", "text"] ["one", "other"] (defScope sTwo) := ⟨rfl, rfl, rfl, by decide +kernel, rfl, by decide +kernel, by decide +kernel⟩
theorem scMult : FnScope ["strings", "text", "total"] ["strings"] (defScope sMult) := ⟨rfl, rfl, rfl, by decide +kernel, rfl, by decide +kernel, by decide +kernel⟩
section
variable {P : Program} {w : World} {K : PySem.W.Frag} {mg : Str → Option Value} {base : Heap}
theorem ok_isstr {f fL : Addr} {fd fdL : FuncData} {t : Tok} (F : Fun K "is_string" "is_string" sIsStr f fd) (FL : Fun K "letters_of" "letters_of" sLettersOf fL fdL) (bL : Binds K fdL ["text"] []) (gL : mg "letters_of" = some (.ref fL)) (gA : mg "STRING_LETTERS" = some (.str (Str.ofString "1XZW") t)) (ma : mg "all" = none) :
    FnOk P w K mg base CX0 2 f fd ["text"] spIsStr := by
  have GL : FnOk P w K mg base CX0 1 fL fdL ["text"] spLetters := ok_letters FL
  refine F.ok scIsStr (fun vs H Q E h => ?_) (fun cdv A outer s H vs Q E hr h => ?_)
  · obtain ⟨ts, rfl, _⟩ := h
    rfl
  · obtain ⟨ts, rfl, hz, q⟩ := h
    refine ⟨_, pss_one (ps_ret (pe_callB (cr_all rfl) (by rfl) ma (by decide +kernel) (pa_cons (pe_lc (own := [("letter", 1)]) (g := gName 1) (tt := tYes) rfl scIsStr.nd (pi_str (pe_call GL hr (by rfl) gL FL.kp bL .nil pass0 (pa_cons (pv 0) pa_nil))) (blkOk_by (own := [("letter", 1)]) (N := ["text", "letter"]) (sc := defScope sIsStr) (by decide +kernel))
        (fun _ _ _ _ _ => pg_name (i := 1) scIsStr.nd rfl (Or.inl rfl)) (fun _ _ _ _ _ => pts_nil) (fun _ _ _ _ _ => pe_cmpR op_in_sign (pv 1) (pe_glob (v := .str (Str.ofString "1XZW")) rfl gA ⟨_, rfl⟩) (by rfl))) pa_nil))), ?_⟩
    have le := lettersL_le ts
    refine ⟨_, rfl, ts, rfl, Nat.le_of_lt (small1000 hz), _, rfl, fun D nD => ?_⟩
    have hsz : (txt (lettersL ts)).cps.size = (lettersL ts).length := txt_len _
    refine lc_it (walk_str (z := txt (lettersL ts))) (fun i H' => Same H H' ∧ H' D = some (.lst ((((lettersL ts).take i).map fun c => decide (c ∈ Al)).map V.bl))) ⟨same_upd nD, upd_same⟩ (fun _ _ _ _ => trivial) ?_ ?_
    · rintro i v H1 H2 hi ⟨s1, hD⟩ ⟨rfl, c, hc, rfl⟩
      rw [hsz] at hi
      have ec := at_txt hc
      refine ⟨rfl, ?_⟩
      refine ⟨_, rfl, c, _, rfl, rfl, _, hD, ?_, same_put s1 nD, ?_⟩
      · rw [List.length_map, List.length_map, List.length_take]
        exact small1000 (by omega)
      · rw [upd_same, List.take_succ, ec, List.map_append, List.map_append, txt_al, txt_cps]
        rfl
    · rintro H1 ⟨s1, hD⟩
      rw [hsz, List.take_length] at hD
      refine ⟨D, _, rfl, SqL.of hD, ?_⟩
      rw [List.all_map]
      exact q H1 s1
theorem ok_chks {f fI fL : Addr} {fd fdI fdL : FuncData} {t : Tok} (F : Fun K "check_string" "check_string" sChkS f fd) (FI : Fun K "is_string" "is_string" sIsStr fI fdI) (bI : Binds K fdI ["text"] []) (gI : mg "is_string" = some (.ref fI))
    (FL : Fun K "letters_of" "letters_of" sLettersOf fL fdL) (bL : Binds K fdL ["text"] []) (gL : mg "letters_of" = some (.ref fL)) (gA : mg "STRING_LETTERS" = some (.str (Str.ofString "1XZW") t)) (ma : mg "all" = none) : FnOk P w K mg base CX0 3 f fd ["text"] spChkS := by
  have GI : FnOk P w K mg base CX0 2 fI fdI ["text"] spIsStr := ok_isstr FI FL bL gL gA ma
  refine F.ok scChkS (fun vs H Q E h => ?_) (fun cdv A outer s H vs Q E hr h => ?_)
  · obtain ⟨ts, rfl, _⟩ := h
    rfl
  · obtain ⟨ts, rfl, hz, al, q⟩ := h
    refine ⟨_, pss_one (ps_if (pt_not (pt_val (pe_call GI hr (by rfl) gI FI.kp bI .nil pass0 (pa_cons (pv 0) pa_nil)))) pss_never pss_nil), ?_⟩
    refine ⟨_, rfl, ts, rfl, hz, fun H1 s1 => ⟨_, rfl, ?_⟩⟩
    rw [all_al al]
    exact iteF (q H1 s1)
theorem ok_two {f fL fO fS pd : Addr} {fd fdL fdO fdS : FuncData} (F : Fun K "product_of_two" "product_of_two" sTwo f fd) (FL : Fun K "letters_of" "letters_of" sLettersOf fL fdL) (bL : Binds K fdL ["text"] []) (gL : mg "letters_of" = some (.ref fL))
    (FO : Fun K "sign_of" "sign_of" sSignOf fO fdO) (bO : Binds K fdO ["text"] []) (gO : mg "sign_of" = some (.ref fO)) (FS : Fun K "signed" "signed" sSigned fS fdS) (bS : Binds K fdS ["turns", "letters"] []) (gS : mg "signed" = some (.ref fS))
    (gD : mg "PRODUCTS" = some (.ref pd)) (KD : ∀ a ∈ Al, ∀ b ∈ Al, KDct K w pd (txt [a, b]) (tv (pP a b))) (ml : mg "len" = none) (ms : mg "sum" = none) (mz : mg "zip" = none) : FnOk P w K mg base CX0 3 f fd ["one", "other"] spTwo := by
  have GL : FnOk P w K mg base CX0 1 fL fdL ["text"] spLetters := ok_letters FL
  have GO : FnOk P w K mg base CX0 2 fO fdO ["text"] spSignOf := ok_signof FO FL bL gL ml
  have GS : FnOk P w K mg base CX0 1 fS fdS ["turns", "letters"] spSigned := ok_signed FS
  refine F.ok scTwo (fun vs H Q E h => ?_) (fun cdv A outer s H vs Q E hr h => ?_)
  · obtain ⟨n, x, y, rfl, _⟩ := h
    rfl
  · obtain ⟨n, x, y, rfl, hn, hx, hy, q⟩ := h
    have hr1 : Room 1 _ := hr.mono (by decide)
    refine ⟨_, pss_cons (ps_setLc (i := 2) (own := [("left", 4), ("right", 5)]) (g := gTup K 2 (gCons (gName 4) (gCons (gName 5) gNil))) (tt := tYes) rfl scTwo.nd rfl rfl (sw_true rfl rfl rfl (by decide +kernel))
        (pi_zipS (by rfl) mz (pa_cons (pe_call GL hr1 (by rfl) gL FL.kp bL .nil pass0 (pa_cons (pv 0) pa_nil)) (pa_cons (pe_call GL hr1 (by rfl) gL FL.kp bL .nil pass0 (pa_cons (pv 1) pa_nil)) pa_nil)))
        (blkOk_by (own := [("left", 4), ("right", 5)]) (N := ["one", "other", "products", "turns", "left", "right", "text"]) (sc := defScope sTwo) (by decide +kernel))
        (fun _ _ _ _ _ => pg_tup rfl (pgs_cons (pg_name (i := 4) scTwo.nd rfl (Or.inl rfl)) (pgs_cons (pg_name (i := 5) scTwo.nd rfl (Or.inl rfl)) pgs_nil))) (fun _ _ _ _ _ => pts_nil)
        (fun _ _ _ _ _ => pe_ix (r := rIxD K w) ix_kdict (pe_glob (v := .ref pd) rfl gD rfl) (pe_op op_add_str (pv 4) (pv 5)) (fun _ _ => rfl)))
      (pss_cons (ps_set (i := 3) scTwo.nd rfl (.inl rfl) (pe_op op_add (pe_op op_add (pe_call GO hr (by rfl) gO FO.kp bO .nil pass0 (pa_cons (pv 0) pa_nil)) (pe_call GO hr (by rfl) gO FO.kp bO .nil pass0 (pa_cons (pv 1) pa_nil)))
        (pe_callB (cr_sum rfl) (by rfl) ms boot_sum (pa_cons (pe_lc (own := [("text", 6)]) (g := gName 6) (tt := tYes) rfl scTwo.nd (pi_list (pv 2)) (blkOk_by (own := [("text", 6)]) (N := ["one", "other", "products", "turns", "left", "right", "text"]) (sc := defScope sTwo) (by decide +kernel))
          (fun _ _ _ _ _ => pg_name (i := 6) scTwo.nd rfl (Or.inl rfl)) (fun _ _ _ _ _ => pts_nil) (fun _ _ _ _ _ => pe_call GO hr (by rfl) gO FO.kp bO .nil pass0 (pa_cons (pv 6) pa_nil))) pa_nil))))
      (pss_one (ps_ret (pe_call GS hr1 (by rfl) gS FS.kp bS .nil pass0 (pa_cons (pv 3) (pa_cons (pe_join pe_str (pe_lc (own := [("text", 6)]) (g := gName 6) (tt := tYes) rfl scTwo.nd (pi_list (pv 2)) (blkOk_by (own := [("text", 6)]) (N := ["one", "other", "products", "turns", "left", "right", "text"]) (sc := defScope sTwo) (by decide +kernel))
          (fun _ _ _ _ _ => pg_name (i := 6) scTwo.nd rfl (Or.inl rfl)) (fun _ _ _ _ _ => pts_nil) (fun _ _ _ _ _ => pe_call GL hr1 (by rfl) gL FL.kp bL .nil pass0 (pa_cons (pv 6) pa_nil)))) pa_nil)))))), ?_⟩
    obtain ⟨sx, lx, ax⟩ := hx.len
    obtain ⟨sy, ly, ay⟩ := hy.len
    have plen : (prodsL (lettersL x) (lettersL y)).length = n := by
      unfold prodsL
      rw [List.length_zipWith]; omega
    have pal := prods_al ax ay
    have short : ∀ z ∈ prodsL (lettersL x) (lettersL y), z.length ≤ 2 := fun z hz => by
      obtain ⟨a, ha, b, hb, rfl⟩ := pal z hz
      exact (p_form a ha b hb).2.2.2
    have at_i : ∀ {i : Nat} {v : V}, ((prodsL (lettersL x) (lettersL y)).map tv)[i]? = some v → ∃ z, (prodsL (lettersL x) (lettersL y))[i]? = some z ∧ v = tv z ∧ z.length ≤ 2 := by
      intro i v hv
      rw [List.getElem?_map] at hv
      cases ex : (prodsL (lettersL x) (lettersL y))[i]? with
      | none => rw [ex] at hv; cases hv
      | some z =>
        rw [ex] at hv
        exact ⟨z, rfl, (Option.some.inj hv).symm, short z (List.mem_of_getElem? ex)⟩
    have zx : x.length ≤ sizeLine := Nat.le_of_lt (small1000 (by omega))
    have zy : y.length ≤ sizeLine := Nat.le_of_lt (small1000 (by omega))
    refine ⟨_, rfl, x, rfl, zx, _, rfl, y, rfl, zy, lettersL x, lettersL y, rfl, fun D nD => ?_⟩
    refine lc_it walk_zipS (fun i H' => Same H H' ∧ H' D = some (.lst (((prodsL (lettersL x) (lettersL y)).take i).map tv))) ⟨same_upd nD, upd_same⟩ (fun _ _ _ _ => trivial) ?_ ?_
    · rintro i v H1 H2 hi ⟨s1, hD⟩ ⟨T, c, d, rfl, nT, rfl, hc, hd⟩
      have ec := prods_at hc hd
      have hca : c ∈ Al := ax c (List.mem_of_getElem? hc)
      have hda : d ∈ Al := ay d (List.mem_of_getElem? hd)
      refine ⟨T, _, rfl, .inl (.inl upd_same), rfl, _, _, rfl, _, _, rfl, rfl, rfl, ?_⟩
      refine ⟨_, rfl, _, rfl, _, _, rfl, rfl, by show 1 + 1 ≤ sizeLine; decide, pd, txt [c, d], _, rfl, congrArg V.str (txt_app [c] [d]), KD c hca d hda, ?_⟩
      refine ⟨_, (same_upd nT) _ _ hD, ?_, same_put (s1.trans (same_upd nT)) nD, ?_⟩
      · rw [List.length_map, List.length_take]
        exact small1000 (by omega)
      · rw [upd_same, List.take_succ, ec, List.map_append]
        rfl
    rintro H1 ⟨s1, hD⟩
    have efull : (prodsL (lettersL x) (lettersL y)).take (min (lettersL x).length (lettersL y).length) = prodsL (lettersL x) (lettersL y) := List.take_of_length_le (by omega)
    rw [efull] at hD
    have len : ((prodsL (lettersL x) (lettersL y)).map tv).length = n := by rw [List.length_map, plen]
    refine ⟨_, rfl, x, rfl, zx, _, rfl, y, rfl, zy, _, _, rfl, rfl, _, rfl, D, rfl, ⟨_, SqL.of hD⟩, fun D2 nD2 => ?_⟩
    refine lc_list (K := K) (a := D) (xs := (prodsL (lettersL x) (lettersL y)).map tv) (fun i H' => Same H1 H' ∧ H' D2 = some (.lst ((((prodsL (lettersL x) (lettersL y)).take i).map signL).map fun n : Nat => V.int n))) ⟨same_upd nD2, upd_same⟩ (fun i H' _ hv => SqL.of (hv.1 _ _ hD)) ?_ ?_
    · rintro i v H2 hv ⟨s2, hD2⟩
      obtain ⟨z, ez, rfl, hz⟩ := at_i hv
      have hi : i < (prodsL (lettersL x) (lettersL y)).length := (List.getElem?_eq_some_iff.mp ez).1
      refine ⟨rfl, ?_⟩
      refine ⟨_, rfl, z, rfl, Nat.le_of_lt (small1000 (by omega)), _, hD2, ?_, same_put s2 nD2, ?_⟩
      · rw [List.length_map, List.length_map, List.length_take]
        exact small1000 (by omega)
      · rw [upd_same, List.take_succ, ez, List.map_append, List.map_append]
        rfl
    rintro H2 ⟨s2, hD2⟩
    rw [len, ← plen, List.take_length] at hD2
    have hD3 : H2 D2 = some (.lst ((((prodsL (lettersL x) (lettersL y)).map signL).map fun n : Nat => (n : Int)).map V.int)) := by
      rw [hD2, List.map_map (f := fun n : Nat => (n : Int))]
      rfl
    refine ⟨D2, _, rfl, SqL.of hD3, _, _, rfl, rfl, _, rfl, ⟨_, rfl⟩, _, rfl, D, rfl, ⟨_, SqL.of (s2 _ _ hD)⟩, fun D4 nD4 => ?_⟩
    refine lc_list (K := K) (a := D) (xs := (prodsL (lettersL x) (lettersL y)).map tv) (fun i H' => Same H2 H' ∧ H' D4 = some (.lst ((((prodsL (lettersL x) (lettersL y)).take i).map lettersL).map tv))) ⟨same_upd nD4, upd_same⟩ (fun i H' _ hv => SqL.of (hv.1 _ _ (s2 _ _ hD))) ?_ ?_
    · rintro i v H3 hv ⟨s3, hD4⟩
      obtain ⟨z, ez, rfl, hz⟩ := at_i hv
      have hi : i < (prodsL (lettersL x) (lettersL y)).length := (List.getElem?_eq_some_iff.mp ez).1
      refine ⟨rfl, ?_⟩
      refine ⟨_, rfl, z, rfl, Nat.le_of_lt (small1000 (by omega)), _, hD4, ?_, same_put s3 nD4, ?_⟩
      · rw [List.length_map, List.length_map, List.length_take]
        exact small1000 (by omega)
      · rw [upd_same, List.take_succ, ez, List.map_append, List.map_append]
        rfl
    rintro H3 ⟨s3, hD4⟩
    rw [len, ← plen, List.take_length] at hD4
    have hD5 : H3 D4 = some (.lst ((((prodsL (lettersL x) (lettersL y)).map lettersL).map txt).map V.str)) := by
      rw [hD4, List.map_map (f := txt)]
      rfl
    have zl := zL_len (as := lettersL x) (bs := lettersL y) (by omega)
    refine ⟨Str.ofString "", D4, ((prodsL (lettersL x) (lettersL y)).map lettersL).map txt, rfl, rfl, .inl (SqL.of hD5), ?_, ?_⟩
    · rw [lens_txt, prods_letters _ _ ax ay, zl, txt_empty, txt_len]
      simp
      omega
    rw [join_txt, prods_letters _ _ ax ay, sum_int, prods_sign]
    refine ⟨_, zL (lettersL x) (lettersL y), rfl, small1000 (by omega), ?_⟩
    have e := q H3 ((s1.trans s2).trans s3)
    unfold two at e
    rw [Int.natCast_add, Int.natCast_add] at e
    exact e
end


end T77

namespace T77
open PySem PySem.Spec PyProof.Rows L2 Tm
abbrev sLString : Stmt := topS 29
theorem scLString : FnScope ["_law_bag_here", "_law_size", "_law_k"] ["_law_bag_here", "_law_size"] (defScope sLString) := ⟨rfl, rfl, rfl, by decide +kernel, rfl, by decide +kernel, by decide +kernel⟩
section
variable {P : Program} {w : World} {K : PySem.W.Frag} {mg : Str → Option Value} {base : Heap}
theorem ok_lstring {f fP fO fS : Addr} {fd fdP fdO fdS : FuncData} (F : Fun K "_law_string" "_law_string" sLString f fd) (FP : Fun K "_law_pull" "_law_pull" sPull fP fdP) (bP : Binds K fdP ["_law_bag_here", "_law_many"] []) (gP : mg "_law_pull" = some (.ref fP))
    (FO : Fun K "_law_of" "_law_of" sOf fO fdO) (bO : Binds K fdO ["_law_bag_here", "_law_things"] []) (gO : mg "_law_of" = some (.ref fO)) (FS : Fun K "_law_signed" "_law_signed" sLSigned fS fdS) (bS : Binds K fdS ["_law_mturned", "_law_body_here"] []) (gS : mg "_law_signed" = some (.ref fS))
    (ml : mg "len" = none) (mr : mg "range" = none) : FnOk P w K mg base CX0 3 f fd ["_law_bag_here", "_law_size"] spString := by
  have GP : FnOk P w K mg base CX0 1 fP fdP ["_law_bag_here", "_law_many"] spPull := ok_pull FP ml
  have GO : FnOk P w K mg base CX0 2 fO fdO ["_law_bag_here", "_law_things"] (spOf K) := ok_of FO FP bP gP ml
  have GS : FnOk P w K mg base CX0 1 fS fdS ["_law_mturned", "_law_body_here"] spLSigned := ok_lsigned FS
  refine F.ok scLString (fun vs H Q E h => ?_) (fun cdv A outer s H vs Q E hr h => ?_)
  · obtain ⟨b, l, n, rfl, _⟩ := h
    rfl
  · obtain ⟨b, l, n, rfl, B0, hn, q⟩ := h
    have hr1 : Room 1 _ := hr.mono (by decide)
    refine ⟨_, pss_one (ps_ret (pe_call GS hr1 (by rfl) gS FS.kp bS .nil pass0 (pa_cons (pe_call GP hr1 (by rfl) gP FP.kp bP .nil pass0 (pa_cons (pv 0) (pa_cons pe_int pa_nil))) (pa_cons (pe_join pe_str (pe_lc (own := [("_law_k", 2)]) (g := gName 2) (tt := tYes) rfl scLString.nd (pi_range1 (by rfl) mr (pa_cons (pv 1) pa_nil)) (blkOk_by (own := [("_law_k", 2)]) (N := ["_law_bag_here", "_law_size", "_law_k"]) (sc := defScope sLString) (by decide +kernel))
        (fun _ _ _ _ _ => pg_name (i := 2) scLString.nd rfl (Or.inl rfl)) (fun _ _ _ _ _ => pts_nil) (fun _ _ _ _ _ => (pe_call GO hr (by rfl) gO FO.kp bO .nil pass0 (pa_cons (pv 0) (pa_cons pe_str pa_nil)))))) pa_nil)))), ?_⟩
    refine ⟨_, rfl, b, l, 2, rfl, B0, by decide, by decide, fun J d kj BJ d0 d1 => ?_⟩
    refine ⟨⟨_, rfl⟩, _, rfl, _, rfl, by omega, by omega, fun D nD => ?_⟩
    have nDb : D ≠ b := BJ.nb nD
    refine lc_range (lo := 0) (n := ((n : Nat) : Int).toNat) (fun i H' => Kp b J H' ∧ Bag H' b l ∧ ∃ cs : List Nat, H' D = some (.lst (cs.map sig)) ∧ cs.length = i ∧ Al4 cs)
      ⟨Kp.new nD, BJ.new nD, [], upd_same, rfl, fun c hc => absurd hc List.not_mem_nil⟩ ?_ ?_
    · rintro j H' hj ⟨kp, B', cs, hD, hlen, hmem⟩
      refine ⟨rfl, ?_⟩
      refine ⟨_, rfl, b, l, _, (five.map sig), rfl, B', .inr ⟨_, rfl, by rw [txt_five, txt_len]; decide, by rw [txt_five, txt_cps]⟩, by decide, by decide, fun H2 x kp2 B2 hx => ?_⟩
      obtain ⟨c, hc, rfl⟩ := List.mem_map.mp hx
      have hcA : c ∈ Al := (show ∀ c ∈ five, c ∈ Al by decide) c hc
      refine ⟨_, kp2 _ _ nDb hD, by rw [List.length_map, hlen]; exact small1000 (by omega), (kp.trans kp2).put nD, B2.put nDb (BJ.nl nD), cs ++ [c], ?_, by rw [List.length_append, hlen]; rfl, ?_⟩
      · rw [upd_same, List.map_append]
        rfl
      · intro c2 h2
        rcases List.mem_append.mp h2 with h2 | h2
        · exact hmem _ h2
        · rw [List.mem_singleton.mp h2]; exact hcA
    rintro H7 ⟨k7, B7, cs, hD7, hcl, hcm⟩
    have hu : H7 D = some (.lst ((cs.map fun c => txt [c]).map V.str)) := by
      rw [hD7, List.map_map]
      rfl
    refine ⟨Str.ofString "", D, cs.map (fun c => txt [c]), rfl, rfl, .inl (SqL.of hu), ?_, ?_⟩
    · rw [len_ones, txt_empty, txt_len]; simp; omega
    rw [join_sigs]
    refine ⟨_, cs, rfl, small1000 (by omega), ?_⟩
    rw [signed_wd]
    exact q H7 _ (kj.trans k7) B7 ⟨_, cs, rfl, by omega, hcm⟩
end


end T77

/-! try with several except clauses that give the exception a name -/
namespace Tm
open PySem PySem.Spec PyProof.Rows L2
section
variable {X : Cx} {pins : List (Addr × Obj)} {σ : L2.St} {H : Hp} {a : Addr} {cls : Value} {d : Option Addr} {s : Shared}
/-- the exception at a has been caught in this frame, nothing has been done with it -/
def InHand (X : Cx) (pins : List (Addr × Obj)) (σ : L2.St) (H : Hp) (a : Addr) (cls : Value) (d : Option Addr) (s : Shared) : Prop :=
  ∃ (B : Heap) (s0 : Shared), Inv X pins σ H s0 ∧ (∀ b o, s0.heap.get? b = some o → b ∉ frs X.stack → B.get? b = some o) ∧ s0.heap.UpToSlots s.heap ∧ HandSPX.FlyingZ B X.stack a (Zc cls d) s.heap ∧ H a = none ∧ s.os = s0.os ∧ AllBare s.gens
theorem InHand.inv (c : InHand X pins σ H a cls d s) : Inv X pins σ H s := by
  obtain ⟨B, s0, inv, ground, slots, fly, _, os, bare⟩ := c
  exact inv.landed ground fly.1 slots os bare
theorem InHand.new (c : InHand X pins σ H a cls d s) : H a = none := by
  obtain ⟨_, _, _, _, _, _, n, _⟩ := c
  exact n
/-- the suite of a clause may begin -/
theorem InHand.suite (c : InHand X pins σ H a cls d s) (top : X.stack = X.env :: X.outer) (fr : X.env.frame = some X.env.locals) :
    ∃ oe : Obj, s.heap.get? a = some oe ∧ Zc cls d oe ∧ (∃ vs, oe.data = .fields vs) ∧ Inv (X.suite a ((a, oe) :: (X.pn ++ pins))) [] σ H s := by
  have inv := c.inv
  obtain ⟨B, s0, _, _, _, fly, new, _, _⟩ := c
  obtain ⟨oe, vs, there, is, dat⟩ := fly.there
  have off : a ∉ frs X.stack := fun hm => by
    obtain ⟨_, o2, there2, other⟩ := fly.2.2.1.mem hm
    rw [there] at there2
    cases there2
    exact other _ dat
  have offL : a ≠ X.env.locals := fun e => off (by
    rw [top]
    exact List.mem_filterMap.mpr ⟨X.env, List.mem_cons_self, by rw [fr, e]⟩)
  have offF : a ∉ X.fs := fun hm => off (by
    obtain ⟨env, he, q⟩ := List.mem_filterMap.mp hm
    rw [top]
    exact List.mem_filterMap.mpr ⟨env, List.mem_cons_of_mem _ he, q⟩)
  exact ⟨oe, there, is, ⟨vs, dat⟩, inv.suite there dat new offL offF⟩
theorem InHand.again {M : Model} {A : Around} {E : Value → Shared → Prop} {Q : Unit → Shared → Prop} (c : InHand X pins σ H a cls d s) (next : ∀ s', InHand X pins σ H a cls d s' → Q () s') : wpAny M A (setFlight (.ref a) none) Q E s := by
  obtain ⟨B, s0, inv, ground, slots, fly, new, os, bare⟩ := c
  refine HandSPX.lands_againZ fly ?_
  intro h fly2 slots2
  exact next _ ⟨B, s0, inv, ground, slots.trans slots2, fly2, new, os, bare⟩
end
/-- the name of the clause is empty behind its suite -/
def nameless (i : Nat) (D : Ends) : Ends := { nx := fun σ H => D.nx (σ.set i none) H, rt := D.rt, bk := fun σ H => D.bk (σ.set i none) H, ct := fun σ H => D.ct (σ.set i none) H }
abbrev Clause := Value × (Addr → Value → Option Addr → TS)
def wNamed (K : PySem.W.Frag) (i : Nat) (Wout : WX) (D : Ends) : List Clause → WX
  | [] => Wout
  | c :: r => fun cls d σ H => ∃ b, PySem.W.exmOne K cls c.1 = some b ∧ (b = true → ∀ a, H a = none → c.2 a cls d (nameless i D) (σ.set i (some (.ref a))) H) ∧ (b = false → wNamed K i Wout D r cls d σ H)
inductive Clauses (X : Cx) (n : Str) : List ExceptHandler → List Clause → Prop
  | nil : Clauses X n [] []
  | cons {x : Str} {c : Value} {ts : Addr → Value → Option Addr → TS} {st : Stmt} {more : List Stmt} {p q : Pos} {hds : List ExceptHandler} {l : List Clause} (named : Names X x c)
      (suite : ∀ (a : Addr) (oe : Obj) (cls : Value) (d : Option Addr) (pn : List (Addr × Obj)), Zc cls d oe → (∃ vs, oe.data = .fields vs) → PSs (X.suite a ((a, oe) :: pn)) (st :: more) (ts a cls d)) (rest : Clauses X n hds l) :
      Clauses X n (.ExceptHandler (some (.Name x p)) (some n) (st :: more) q :: hds) ((c, ts) :: l)
section
variable {X : Cx} {n : Str} {i : Nat} {Wout : WX} {pins : List (Addr × Obj)} {D : Ends}
/-- the clauses are asked one behind the other -/
theorem clauses_run (top : X.stack = X.env :: X.outer) (fr : X.env.frame = some X.env.locals) (nd : X.N.Nodup) (slot : X.N[i]? = some n) (loc : X.env.kindOf n = some .local) (takes : Takes X Wout) (ok : X.Ok) {a : Addr} :
    ∀ {hds : List ExceptHandler} {l : List Clause}, Clauses X n hds l → ∀ {σ : L2.St} {H : Hp} {cls : Value} {d : Option Addr} {s : Shared}, InHand X pins σ H a cls d s → wNamed X.K i Wout D l cls d σ H →
      wpAny (model X.prog X.w) X.A (handleBy (.ref a) X.env hds) (SP X pins D) X.xe s := by
  intro hds l cl
  induction cl with
  | nil =>
    intro σ H cls d s hand wish
    apply wpAny_handleBy_nil
    obtain ⟨B, s0, inv, ground, slots, fly, new, os, bare⟩ := hand
    obtain ⟨_, _, _, oe, vs, T, oT, ts, there, _, dat, cell, _⟩ := id fly
    have out : wpAny (model X.prog X.w) X.A (setFlight (.ref a) X.env.frame) (fun _ s4 => wpAny (model X.prog X.w) X.A (throw (.ref a) : Sem Flow) (SP X pins D) X.xe s4) X.xe s := by
      rw [fr]
      refine HandSPX.setFlight_upZ fly ?_
      intro h held slots2
      apply wpAny_throw
      apply takes
      exact ⟨a, B, s0, pins, σ, H, cls, d, rfl, inv, ground, slots.trans slots2, Or.inr (Or.inr held), new, os, bare, wish⟩
    unfold PySem.passOn
    apply wpAny_bind
    refine wpAny_field there dat cell ?_
    have some_ : ¬ ((Value.ref T == Value.none) = true) := by simp
    rw [if_neg some_]
    first
      | exact wpAny_bind out
      | exact wpAny_bind (wpAny_pure (wpAny_bind out))
  | @cons x c ts st more p q hds2 l2 named suite rest ih =>
    intro σ H cls d s hand wish
    obtain ⟨b, match_, yes, no⟩ := wish
    obtain ⟨oe, there, is, flds, inS⟩ := hand.suite top fr
    apply wpAny_handleBy_cons _ (by intro z; cases z)
    apply codeAny_handlers_test
    have typed : PySem.W.Looks (model X.prog X.w) s.heap (typeOf (.ref a)) cls := by
      intro A Q E s2 keeps goal
      exact wpAny_typeOf_ref (keeps _ _ there) (by rw [is.1]; exact goal)
    have matched := PySem.W.exm_one (M := model X.prog X.w) hand.inv.kIn typed match_
    have look : ∀ {Q : Value → Shared → Prop} {E : Value → Shared → Prop}, Q c s → wpAny (model X.prog X.w) (X.A.mark (some (.ref a))) (eval (.Name x p) X.env) Q E s := by
      intro Q E goal
      rcases named with ⟨glob, plain, own | ⟨none_, boot, plain2⟩⟩
      · exact ld_glob (X := X.suite a ((a, oe) :: (X.pn ++ pins))) inS glob own goal plain
      · exact ld_blt (X := X.suite a ((a, oe) :: (X.pn ++ pins))) inS glob none_ boot goal plain2 plain
    apply look
    apply matched.here
    cases b with
    | false => exact ih hand (no rfl)
    | true =>
      apply codeAny_handlers_suite_as
      apply hand.again
      intro s2 hand2
      obtain ⟨oe2, there2, is2, flds2, inS2⟩ := hand2.suite top fr
      refine store_ok (X := X.suite a ((a, oe2) :: (X.pn ++ pins))) (v := .ref a) inS2 nd slot (.inl loc) rfl ?_ (.inr loc)
      intro s3 inS3
      apply wpAny_mono ((suite a oe2 cls d (X.pn ++ pins) is2 flds2).run [] s3 _ H _ inS3 (yes rfl a hand.new)) _ (fun _ _ z => z.elim)
      intro flow s4 told
      have leave : ∀ {σ4 : L2.St} {H4 : Hp} {Q : Shared → Prop}, Inv (X.suite a ((a, oe2) :: (X.pn ++ pins))) [] σ4 H4 s4 → (∀ s5, Inv X pins (σ4.set i none) H4 s5 → Q s5) →
          wpAny (model X.prog X.w) X.A (do bindName X.env n .none; unbindBehindTheSuite X.env n q) (fun _ s5 => Q s5) X.xe s4 := fun inv4 goal => gone_ok (inv4.unsuite ok) nd slot loc goal
      match flow, told with
      | .next, ⟨σ4, H4, inv4, goal⟩ => exact leave inv4 fun s5 inv5 => ⟨_, _, inv5, goal⟩
      | .brk, ⟨σ4, H4, inv4, goal⟩ => exact leave inv4 fun s5 inv5 => ⟨_, _, inv5, goal⟩
      | .cont, ⟨σ4, H4, inv4, goal⟩ => exact leave inv4 fun s5 inv5 => ⟨_, _, inv5, goal⟩
      | .ret u, ⟨v4, σ4, H4, inv4, rel, goal⟩ => exact leave inv4 fun s5 inv5 => ⟨_, _, _, inv5, rel, goal⟩
theorem ps_try_named {body : List Stmt} {hd : ExceptHandler} {hds : List ExceptHandler} {l : List Clause} {pos : Pos} {tb : WX → TS} (top : X.stack = X.env :: X.outer) (fr : X.env.frame = some X.env.locals) (nd : X.N.Nodup) (slot : X.N[i]? = some n) (loc : X.env.kindOf n = some .local) (takes : Takes X Wout)
    (within : ∀ (W : WX) (pn : List (Addr × Obj)) (xe : Value → Shared → Prop), Takes (X.tr pn xe) W → PassesOwn (model X.prog X.w) X.A X.env xe → PSs (X.tr pn xe) body (tb W)) (cl : Clauses X n (hd :: hds) l) :
    PS X (.Try body (hd :: hds) [] [] pos) (fun D σ H => tb (wNamed X.K i Wout D l) D σ H) where
  run pins s σ H D inv ask := by
    have ok := inv.ok
    apply wpAny_Try_except
    apply wpAny_mono ((within (wNamed X.K i Wout D l) (X.pn ++ pins) (fun e s1 => wpAny (model X.prog X.w) X.A (noteFrame e X.env) (fun _ s2 => wpAny (model X.prog X.w) X.A (setFlight e none) (fun _ s3 => wpAny (model X.prog X.w) X.A (handleBy e X.env (hd :: hds)) (SP X pins D) X.xe s3) X.xe s2) X.xe s1) ?caught PassesOwn.looking).run [] s σ H D (inv.toTry _) ask) ?done (fun _ _ raised => raised)
    case caught =>
      rintro u s1 ⟨a, B, s0, pins1, σ1, H1, cls, d, rfl, inv1, ground, slots, sky, new, os, bare, wish⟩
      have inv0 : Inv X pins σ1 H1 s0 := inv1.ofTry ok
      have sky1 : Sky B (X.env :: X.outer) a (Zc cls d) X.env.locals s1.heap := top ▸ sky
      refine Sky.land Zc.steady (by rw [ok.frames, top]) fr sky1 ?_
      intro h fly slots2
      refine clauses_run top fr nd slot loc takes ok cl (a := a) ⟨B, s0, inv0, ground, slots.trans slots2, ?_, new, os, bare⟩ wish
      rw [top]
      exact fly
    case done =>
      intro flow s1 told
      match flow, told with
      | .next, ⟨σ1, H1, inv1, goal⟩ => exact wpAny_execs_nil ⟨σ1, H1, inv1.ofTry ok, goal⟩
      | .brk, ⟨σ1, H1, inv1, goal⟩ => exact ⟨σ1, H1, inv1.ofTry ok, goal⟩
      | .cont, ⟨σ1, H1, inv1, goal⟩ => exact ⟨σ1, H1, inv1.ofTry ok, goal⟩
      | .ret u, ⟨v, σ1, H1, inv1, rel, goal⟩ => exact ⟨v, σ1, H1, inv1.ofTry ok, rel, goal⟩
end
end Tm

/-! an exception that is in hand: its fields, and a def that is given it -/
namespace Tm
open PySem PySem.Spec PyProof.Rows L2 L2H
/-- e.f, e the exception at a, of the class cls, with the dict d -/
def tXfA (K : PySem.W.Frag) (a : Addr) (cls : Value) (d : Option Addr) (f : Str) (te : TE) : TE := fun σ H Q => te σ H fun x H1 => x = .ref a ∧ ∃ (C dd : Addr) (fs : List (Str × V)) (v : V), cls = .ref C ∧ XfC K C ∧ PySem.W.findIn K (.ref C) f = some none ∧ d = some dd ∧ H1 dd = some (.xd fs) ∧ fs.lookup f = some v ∧ Q v H1
theorem pe_pinned {X : Cx} {a : Addr} {oe : Obj} {cls : Value} {d : Option Addr} {e : Expr} {te : TE} {pos : Pos} {f : Str} (pin : (a, oe) ∈ X.pn) (is : Zc cls d oe) (flds : ∃ vs, oe.data = .fields vs) (he : PE X e te)
    (plain : attributeBase e f X.env (eval e X.env) = eval e X.env := by rfl) : PE X (.Attribute e f pos) (tXfA X.K a cls d f te) where
  run pins s σ H Q inv ask := by
    apply attr_of plain
    apply wpAny_mono (he.run pins s σ H _ inv ask) _ (fun _ _ raised => raised)
    rintro u s1 ⟨x, H1, inv1, rel, rfl, C, dd, fs, v, rfl, T, none_, rfl, dict, field, goal⟩
    obtain rfl : u = Value.ref a := rel
    obtain ⟨there, _⟩ := inv1.pin (a, oe) (List.mem_append_left _ pin)
    obtain ⟨vs, dat⟩ := flds
    obtain ⟨m, names, rels⟩ : ObjOk X.prog X.w H1 s1.heap dd (.xd fs) := inv1.hok dd _ dict
    obtain ⟨od, at_d, look⟩ := lookIn_ns names
    have got := rels f
    rw [field] at got
    obtain ⟨w, hw, rw_⟩ := RelO.some_of got
    have inst : PySem.W.InstAt s1.heap a oe C (some od) := by
      refine ⟨there, is.1, ?_, ?_⟩
      · unfold PySem.W.notCls
        rw [dat] <;> rfl
      · rw [is.2]
        exact at_d
    have own := PySem.W.findObj_own T.hdC none_ rfl (by rw [look, hw])
    exact HandSPX.exc_get inv1.kIn inst T.ga T.gg T.exC own (handed_of rw_) ⟨v, H1, inv1.tok _, rw_, goal⟩
/-- a def is run while the exception at a is handled; nothing that is raised leaves it -/
theorem run_handled {P : Program} {w : World} {K : PySem.W.Frag} {mg : Str → Option Value} {base : Heap} {k : Nat} {f : Addr} {name qual : Str} {params : Arguments} {body : List Stmt} {scope : Scope} {dV kV doc pm cdv ct oc : Value} {an od : Option Addr} {osl : Array (Option Value)} {N ps : List Str}
    (written : K.lookup f = some ⟨oc, od, .func (PySem.W.fnOf name qual params body scope dV kV doc pm an cdv ct), osl⟩) (code : PySem.W.codeIn K cdv qual = true) (S : FnScope N ps scope) {A : Around} {outer : List Env} {s : Shared} {H : Hp} {args : Args} {us : List Value} {vs : List V} {Q : VK} {E : XK} {p : Addr × Obj}
    (room : RoomH (k + 1) A) (pin : PinOk outer H s p) (around : Env0 P w K mg base A outer s H) (binds : BindsTo s (PySem.W.fnOf name qual params body scope dV kV doc pm an cdv ct) args (ps.zip us)) (rel : Vals vs us) (len : vs.length = ps.length)
    (walk : RoomH k (A.deeper (envOfC qual scope s.heap.objs.size f cdv)) → ∃ t, PSs (cxH CX0 P w K mg base N qual scope f cdv A outer s H E p) body t ∧ t { nx := fun _ H' => Q .non H', rt := Q } (L2.start N vs) H) :
    codeAny (model P w) A (.call (.ref f) args) (CR CX0 outer P w H s Q E) s := by
  have stays : ∀ b o, base.get? b = some o → s.heap.get? b = some o := fun b o e => (around.bs b o e).1
  have kin : K.In s.heap := around.mod.kin.keeps stays
  apply codeAny_call_function room.depth (kin _ _ written) rfl S.co S.gen rfl (PySem.W.codeRec_of kin code)
  apply binds
  apply wpAny_newFunctionEnv_cells S.kind
  · rintro ⟨y, v⟩ hy
    rcases S.par y (List.of_mem_zip hy).1 with own | cell
    · exact Or.inl own
    · exact Or.inr ⟨cell, PySem.W.cellsFrom_some _ _ _ (.inl cell)⟩
  · rintro env rfl s1 entered
    refine ⟨(around.mod.nolimit.keeps stays).keeps entered.toInCall.keep, codeAny_func ?_⟩
    obtain ⟨t, does, goal⟩ := walk (room.deeper _)
    have inv := inv_startH (CX := CX0) (E := E) S pin around len rel entered
    apply wpAny_mono (does.run [] s1 (L2.start N vs) H _ inv goal) _ (fun _ _ raised => raised)
    intro flow s2 told
    match flow, told with
    | .ret u, ⟨v, σ2, H2, inv2, rv, q⟩ => exact ⟨v, H2, inv2.os, inv2.bare, inv2.base, inv2.hok, rv, q⟩
    | .next, ⟨σ2, H2, inv2, q⟩ => exact ⟨V.non, H2, inv2.os, inv2.bare, inv2.base, inv2.hok, rfl, q⟩
    | .brk, ⟨_, _, _, q⟩ => exact q.elim
    | .cont, ⟨_, _, _, q⟩ => exact q.elim
/-- g(e) in the suite of a clause, e the exception itself -/
theorem pe_given {X : Cx} {a : Addr} {oe : Obj} {pn : List (Addr × Obj)} {k : Nat} {f : Addr} {x y : Str} {params : Arguments} {body : List Stmt} {scope : Scope} {kV doc pm cdv ct oc : Value} {an od : Option Addr} {osl : Array (Option Value)} {N : List Str} {e : Expr} {te : TE} {q pos : Pos} {sp : Hp → VK → Prop}
    (written : X.K.lookup f = some ⟨oc, od, .func (PySem.W.fnOf x x params body scope .none kV doc pm an cdv ct), osl⟩) (code : PySem.W.codeIn X.K cdv x = true) (S : FnScope N [y] scope) (binds : L2.Binds X.K (PySem.W.fnOf x x params body scope .none kV doc pm an cdv ct) [y] [])
    (glob : Gl (X.suite a ((a, oe) :: pn)) x) (holds : X.mg x = some (.ref f)) (kept : PySem.W.keepIn X.K (.ref f) = true) (room : RoomH (k + 1) (X.suite a ((a, oe) :: pn)).A)
    (walk : ∀ (outer : List Env) (s : Shared) (H : Hp) (Q : VK), RoomH k ((X.suite a ((a, oe) :: pn)).A.deeper (envOfC x scope s.heap.objs.size f cdv)) → sp H Q → ∃ t, PSs (cxH CX0 X.prog X.w X.K X.mg X.base N x scope f cdv (X.suite a ((a, oe) :: pn)).A outer s H (fun _ _ _ => False) (a, oe)) body t ∧ t { nx := fun _ H' => Q .non H', rt := Q } (L2.start N [.ref a]) H)
    (he : PE (X.suite a ((a, oe) :: pn)) e te) (plainName : (x == ("__debug__" : Str)) = false := by decide) (first : starEach [e] X.env = [(false, eval e X.env)] := by rfl) :
    PE (X.suite a ((a, oe) :: pn)) (.Call (.Name x q) [e] [] pos) (fun σ H Q => te σ H fun v H1 => [v] = [V.ref a] ∧ sp H1 Q) where
  run pins s σ H Q inv ask := by
    apply wpAny_Call_Name_kw
    apply ld_glob inv glob holds _ plainName
    apply PySem.W.callWith_K (h₀ := X.base) inv.ok.mod.kin kept _ first (by rfl)
    have many : PA (X.suite a ((a, oe) :: pn)) [e] (tCons te tNil) := pa_cons he pa_nil (hs := first)
    apply wpAny_mono (many.run pos pins s σ H (fun vs H1 => vs = [.ref a] ∧ sp H1 Q) inv ask) _ (fun _ _ raised => raised)
    rintro us s1 ⟨vs, H1, inv1, rel, rfl, goal⟩
    refine ⟨inv1.kIn, ?_⟩
    obtain ⟨there, free, offL, offF, nocell⟩ := inv1.pin (a, oe) (List.mem_append_left _ List.mem_cons_self)
    have pin : PinOk (X.suite a ((a, oe) :: pn)).stack H1 s1 (a, oe) := by
      refine ⟨there, free, fun hm => ?_, nocell⟩
      rcases List.mem_cons.mp (inv1.stkSub a hm) with z | z
      · exact offL z
      · exact offF z
    have len : us.length = 1 := rel.length.symm
    have to := binds s1 us inv1.kIn (by rw [List.append_nil]; exact len)
    rw [List.append_nil] at to
    apply wpAny_call
    apply codeAny_mono (run_handled (k := k) (E := fun _ _ _ => False) written code S room pin inv1.env0 to rel rfl (fun room2 => walk _ _ _ Q room2 goal))
    intro r s2 told
    match r, told with
    | .error _, told => exact (show False from told).elim
    | .ok (.ret u), told => exact inv1.after told
    | .ok .next, told => exact (show False from told).elim
    | .ok .brk, told => exact (show False from told).elim
    | .ok .cont, told => exact (show False from told).elim
/-! ### which field goes with which code -/
def nodeCodes : List Str := ["invalidnode", "invalidmark", "nodetaken", "notbare", "invaliddrawing", "unknownnode"]
def nameCodes : List Str := ["invalidname", "invalidedge", "edgetaken", "invalidwebname", "nametaken", "unknownedge", "unknownweb"]
def indexCodes : List Str := ["invalidstep", "invalidcommand"]
def limitCodes : List Str := ["limitexceeded", "invalidlimit"]
def attrOf (c : Str) : Option Str :=
  if c ∈ nodeCodes then some "node" else if c ∈ nameCodes then some "name" else if c ∈ indexCodes then some "index" else if c ∈ limitCodes then some "limit"
  else if c = "invalidword" then some "position" else if c = "invalidstring" then some "value" else if c = "invaliddocument" then some "line" else none
def FieldIs (K : PySem.W.Frag) (C : Addr) (fs : List (Str × V)) (v : V) : Option Str → Prop
  | some f => PySem.W.findIn K (.ref C) f = some none ∧ fs.lookup f = some v
  | none => v = .non
theorem in_strs (c : Str) (zs : List Str) : inV (.str c) (zs.map V.str) = decide (c ∈ zs) := by
  unfold inV
  rw [List.any_map]
  induction zs with
  | nil => rfl
  | cons z r ih =>
    rw [List.any_cons, ih]
    by_cases h : z = c
    · subst h
      simp [eqV]
    · have h2 : ¬ c = z := fun e => h e.symm
      simp [eqV, h, h2]
/-- what is known of an exception in hand -/
structure ExcIs (K : PySem.W.Frag) (cls : Value) (d : Option Addr) (H : Hp) (c : Str) (v : V) : Prop where
  ex : ∃ (C dd : Addr) (fs : List (Str × V)), cls = .ref C ∧ XfC K C ∧ PySem.W.findIn K (.ref C) "code" = some none ∧ d = some dd ∧ H dd = some (.xd fs) ∧ fs.lookup ("code" : Str) = some (.str c) ∧ FieldIs K C fs v (attrOf c)
theorem ExcIs.same {K : PySem.W.Frag} {cls : Value} {d : Option Addr} {H H' : Hp} {c : Str} {v : V} (e : ExcIs K cls d H c v) (s : Same H H') : ExcIs K cls d H' c v := by
  obtain ⟨C, dd, fs, h1, h2, h3, h4, h5, h6⟩ := e.ex
  exact ⟨C, dd, fs, h1, h2, h3, h4, s _ _ h5, h6⟩
def spFieldE (K : PySem.W.Frag) (cls : Value) (d : Option Addr) : Hp → VK → Prop := fun H Q => ∃ (c : Str) (v : V), ExcIs K cls d H c v ∧ ∀ H', Same H H' → Q v H'
end Tm

/-! errors with a code and one field: how they are made -/
namespace Tm
open PySem PySem.Spec PyProof.Rows L2
/-- __init__(self, v): self.code = c; self.fld = v -/
def spErr (C : Addr) (c fld : Str) : Sp := fun vs H Q _ => ∃ (a : Addr) (v : V), vs = [.ref a, v] ∧ H a = some (exo a C none) ∧
  ∀ dx, H dx = none → dx ≠ a → Q .non (upd (upd (upd H dx (exd dx [("code", .str c)])) a (exo a C (some dx))) dx (exd dx [(fld, v), ("code", .str c)]))
/-- what stands behind the making of such an error -/
theorem made_err {C : Addr} {c fld : Str} {ta : TA} {σ : L2.St} {H : Hp} {Q : XK}
    (ask : ta σ H fun vs H1 => ∃ v, vs = [v] ∧ ∀ H3 d, Same H1 H3 → H1 d = none → H3 d = some (.xd [(fld, v), ("code", .str c)]) → Q (.ref C) (some d) H3)
    (mono : ∀ (R S : List V → Hp → Prop), (∀ vs H, R vs H → S vs H) → ta σ H R → ta σ H S) : tMkO C (spErr C c fld) [] ta σ H Q := by
  refine mono _ _ ?_ ask
  rintro vs H1 ⟨v, rfl, out⟩
  refine ⟨by show 1 ≤ 1000; decide, fun a na => ⟨a, v, rfl, upd_same, fun dx ndx nda => ⟨rfl, dx, _, ?_, upd_same, ?_, ?_⟩⟩⟩
  · rw [upd_ne (fun e => nda e.symm), upd_same]
  · rw [upd_ne nda] at ndx
    exact ndx
  · rw [upd_ne nda] at ndx
    refine out _ dx ?_ ndx upd_same
    intro b o hb
    have b1 : b ≠ dx := ne_of_none hb ndx
    have b2 : b ≠ a := ne_of_none hb na
    rw [upd_ne b1, del_ne b2, upd_ne b1, upd_ne b2, upd_ne b1, upd_ne b2]
    exact hb
end Tm

/-! errors with a code alone, made without an argument -/
namespace Tm
open PySem PySem.Spec PyProof.Rows L2
/-- __init__(self): self.code = c -/
def spErr0 (C : Addr) (c : Str) : Sp := fun vs H Q _ => ∃ a : Addr, vs = [.ref a] ∧ H a = some (exo a C none) ∧ ∀ dx, H dx = none → dx ≠ a → Q .non (upd (upd H dx (exd dx [("code", .str c)])) a (exo a C (some dx)))
section
variable {X : Cx}
/-- C(), to be raised -/
theorem pmk_bare {CX : CXT} {x : Str} {C fI : Addr} {k : Nat} {fd : FuncData} {ps : List Str} {sp : Sp} {p pos : Pos} (cls : OexC X.K C) (init : PySem.W.findIn X.K (.ref C) "__init__" = some (some (.ref fI))) (isFn : PySem.W.typeIn X.K (.ref fI) = some (.type "function"))
    (promise : FnOk X.prog X.w X.K X.mg X.base CX k fI fd ps sp) (room : Room (k + 1) X.A) (binds : Binds X.K fd ps []) (pass : Passes CX X (fun _ _ _ => False)) (glob : Gl X x) (found : X.mg x = some (.ref C)) (nodebug : (x == ("__debug__" : Str)) = false := by decide) :
    PMk X (.Call (.Name x p) [] [] pos) (tMkO C sp [] tNil) := by
  intro pins s σ H Q inv ask
  obtain ⟨_, told⟩ := ask
  obtain ⟨nm, q, names, bases, bm, sn, sub, ab, col, dd, _, _, _, _, _, isC, mro⟩ := cls.cls
  refine wpAny_Call_Name_kw (ld_glob inv glob found (PySem.W.callWith_K0 inv.kIn cls.kC ?_) nodebug)
  show wpAny _ _ (call (.ref C) []) _ _ _
  obtain ⟨hp, gens, drawn, toks, os⟩ := s
  -- the error lies behind the tuple of its arguments
  have above : hp.objs.size ≤ hp.objs.size + 1 := by omega
  have grows : ∀ b o, hp.get? b = some o → ((hp.push (PySem.W.kdv_tup [])).push (PySem.HandSPX.excO C hp.objs.size)).get? b = some o := fun b o hb => Heap.get?_push_of_some _ (Heap.get?_push_of_some _ hb)
  have there : ((hp.push (PySem.W.kdv_tup [])).push (PySem.HandSPX.excO C hp.objs.size)).get? (hp.objs.size + 1) = some (PySem.HandSPX.excO C hp.objs.size) := by heap_get
  have inv2 : Inv X pins σ (upd H (hp.objs.size + 1) (exo (hp.objs.size + 1) C none)) ⟨(hp.push (PySem.W.kdv_tup [])).push (PySem.HandSPX.excO C hp.objs.size), gens, drawn, toks, os⟩ := inv.laid (t' := toks) grows above (exo_ok there)
  have want := told (hp.objs.size + 1) (inv.hok.fresh above)
  have one : ([Value.ref (hp.objs.size + 1)] ++ []).length = ps.length := (promise.len _ _ _ _ want).symm ▸ rfl
  have run := promise.run ((X.A.under (.builtin "type.__call__" ⟨.ref C :: [], []⟩))) X.stack _ _ ⟨[Value.ref (hp.objs.size + 1)], []⟩ [Value.ref (hp.objs.size + 1)] [V.ref (hp.objs.size + 1)] _ (fun _ _ _ => False) (room.make C [] []) (inv2.env0.make C [] []) (binds _ [Value.ref (hp.objs.size + 1)] inv2.kIn one) (.cons rfl .nil) want
  refine wpAny_call (PySem.HandSPX.call_own F.excBase_ValueError (fun Y => PySem.HandSPX.refsVE_contains Y bm mro) (inv.kIn _ _ isC) (PySem.W.looks_findIn inv.kIn init) (fun self => PySem.W.bind_fn inv.kIn self isFn) (by show 0 ≤ _; omega) (codeAny_mono run ?_))
  rintro (err | flow) s' done
  · exact pass pins σ _ _ err s' inv2 done
  · cases flow with
    | ret u =>
      obtain ⟨v, H2, os2, bare2, un2, hok2, rel, isNone, d, fs, atE, atD, free, q2⟩ := done
      subst isNone
      cases s'
      exact ⟨rel, mk_end (raises_own cls.exC cls.tyC) inv above grows un2 hok2 os2 bare2 atE atD free q2⟩
    | next => exact done.elim
    | brk => exact done.elim
    | cont => exact done.elim
end
theorem made_bare {C : Addr} {c : Str} {σ : L2.St} {H : Hp} {Q : XK} (ask : ∀ H3 d, Same H H3 → H d = none → H3 d = some (.xd [("code", .str c)]) → Q (.ref C) (some d) H3) : tMkO C (spErr0 C c) [] tNil σ H Q := by
  refine ⟨by show 0 ≤ 1000; decide, fun a na => ⟨a, rfl, upd_same, fun dx ndx nda => ⟨rfl, dx, [("code", .str c)], upd_same, ?_, ?_, ?_⟩⟩⟩
  · rw [upd_ne nda, upd_same]
  · rw [upd_ne nda] at ndx
    exact ndx
  · rw [upd_ne nda] at ndx
    refine ask _ dx ?_ ndx upd_same
    intro b o hb
    have b1 : b ≠ dx := ne_of_none hb ndx
    have b2 : b ≠ a := ne_of_none hb na
    rw [upd_ne b1, del_ne b2, upd_ne b2, upd_ne b1, upd_ne b2]
    exact hb
/-- an error of the class C lies in the air, with these fields -/
def Raised (E : XK) (C : Addr) (fs : List (Str × V)) (H : Hp) : Prop := ∀ H' d, Same H H' → H d = none → H' d = some (.xd fs) → E (.ref C) (some d) H'
theorem Raised.same {E : XK} {C : Addr} {fs : List (Str × V)} {H H' : Hp} (r : Raised E C fs H) (s : Same H H') : Raised E C fs H' := fun H2 d s2 nd hd => r H2 d (s.trans s2) (s.free nd) hd
end Tm

/-! strings that may be none: what is promised of check_string, multiply and commute -/
namespace Tm
open PySem PySem.Spec PyProof.Rows L2
def isS (ts : List Nat) : Bool := (lettersL ts).all fun c => decide (c ∈ Al)
theorem isS_al {ts : List Nat} (h : isS ts = true) : Al4 (lettersL ts) := fun c hc => of_decide_eq_true (List.all_eq_true.mp h c hc)
theorem al_isS {ts : List Nat} (h : Al4 (lettersL ts)) : isS ts = true := all_al h
theorem wd_self (ts : List Nat) : ∃ s, ts = wd s (lettersL ts) := by
  cases ts with
  | nil => exact ⟨false, rfl⟩
  | cons c r =>
    by_cases h : c = 45
    · subst h
      exact ⟨true, rfl⟩
    · exact ⟨false, (if_neg h).symm⟩
theorem isS_sn {ts : List Nat} (h : isS ts = true) : Sn (lettersL ts).length ts := by
  obtain ⟨s, e⟩ := wd_self ts
  exact ⟨s, _, e, rfl, isS_al h⟩
theorem sn_isS {n : Nat} {ts : List Nat} (h : Sn n ts) : isS ts = true := al_isS h.len.2.2
def AllEq (xss : List (List Nat)) : Prop := ∀ x ∈ xss, ∀ y ∈ xss, (lettersL x).length = (lettersL y).length
theorem all_sn {xss : List (List Nat)} (good : ∀ x ∈ xss, isS x = true) (eq : AllEq xss) : ∃ n, ∀ x ∈ xss, Sn n x := by
  cases xss with
  | nil => exact ⟨0, fun x hx => absurd hx List.not_mem_nil⟩
  | cons y r => exact ⟨(lettersL y).length, fun x hx => (eq x hx y List.mem_cons_self) ▸ isS_sn (good x hx)⟩
theorem sn_eq {n : Nat} {xss : List (List Nat)} (h : ∀ x ∈ xss, Sn n x) : AllEq xss := fun x hx y hy => (h x hx).len.2.1.trans (h y hy).len.2.1.symm
def badS (x : List Nat) : List (Str × V) := [("value", tv x), ("code", .str "invalidstring")]
def badL : List (Str × V) := [("code", .str "lengthmismatch")]
def spChkE (CI : Addr) : Sp := fun vs H Q E => ∃ ts : List Nat, vs = [tv ts] ∧ ts.length ≤ 1000 ∧ (isS ts = true → ∀ H', Same H H' → Q .non H') ∧ (isS ts = false → Raised E CI (badS ts) H)
def MultE (CI CL : Addr) (xss : List (List Nat)) (H : Hp) (Q : VK) (E : XK) : Prop := xss.length ≤ 20 ∧ (∀ x ∈ xss, x.length ≤ 900) ∧
  (∀ i x, xss[i]? = some x → (∀ y ∈ xss.take i, isS y = true) → isS x = false → Raised E CI (badS x) H) ∧ ((∀ x ∈ xss, isS x = true) → ¬ AllEq xss → Raised E CL badL H) ∧
  (∀ n, (∀ x ∈ xss, Sn n x) → ∀ H', Same H H' → Q (tv (multL xss)) H')
theorem MultE.same {CI CL : Addr} {xss : List (List Nat)} {H H' : Hp} {Q : VK} {E : XK} (m : MultE CI CL xss H Q E) (s : Same H H') : MultE CI CL xss H' Q E :=
  ⟨m.1, m.2.1, fun i x h1 h2 h3 => (m.2.2.1 i x h1 h2 h3).same s, fun h1 h2 => (m.2.2.2.1 h1 h2).same s, fun n h H2 s2 => m.2.2.2.2 n h H2 (s.trans s2)⟩
theorem MultE.never {CI CL : Addr} {xss : List (List Nat)} {H : Hp} {Q : VK} {E : XK} (m : MultE CI CL xss H (fun _ _ => False) E) : MultE CI CL xss H Q E :=
  ⟨m.1, m.2.1, m.2.2.1, m.2.2.2.1, fun n h H' s => (m.2.2.2.2 n h H' s).elim⟩
def spMultE (CI CL : Addr) : Sp := fun vs H Q E => ∃ xss : List (List Nat), vs = xss.map tv ∧ MultE CI CL xss H Q E
def spMultET (CI CL : Addr) : Sp := fun vs H Q E => ∃ (p : Addr) (xss : List (List Nat)), vs = [.ref p] ∧ H p = some (.tup (xss.map tv)) ∧ MultE CI CL xss H Q E
def spCommE (CI CL : Addr) : Sp := fun vs H _ E => ∃ x y : List Nat, vs = [tv x, tv y] ∧ MultE CI CL [x, y] H (fun _ _ => False) E
/-- how many lengths have been seen, as far as it matters -/
def Seen (ls : List Nat) (c : Nat) : Prop := (ls = [] → c = 0) ∧ (ls ≠ [] → 1 ≤ c) ∧ ((∀ a ∈ ls, ∀ b ∈ ls, a = b) → c ≤ 1) ∧ ((¬ ∀ a ∈ ls, ∀ b ∈ ls, a = b) → 2 ≤ c) ∧ c ≤ ls.length
theorem seen_nil : Seen [] 0 := ⟨fun _ => rfl, fun h => absurd rfl h, fun _ => Nat.zero_le _, fun h => absurd (fun a ha => absurd ha List.not_mem_nil) h, Nat.le_refl _⟩
theorem seen_more {ls : List Nat} {c l : Nat} (s : Seen ls c) : Seen (ls ++ [l]) (if decide (l ∈ ls) = true then c else c + 1) := by
  obtain ⟨h0, h1, h2, h3, h4⟩ := s
  by_cases m : l ∈ ls
  · rw [decide_eq_true m, if_pos rfl]
    have ne : ls ≠ [] := fun e => by rw [e] at m; cases m
    have mem : ∀ a, a ∈ ls ++ [l] ↔ a ∈ ls := fun a => by
      rw [List.mem_append, List.mem_singleton]
      exact ⟨fun h => h.elim id (fun e => e ▸ m), .inl⟩
    refine ⟨fun e => absurd e (by simp), fun _ => h1 ne, fun all => h2 fun a ha b hb => all a ((mem a).mpr ha) b ((mem b).mpr hb), fun no => h3 fun all => no fun a ha b hb => all a ((mem a).mp ha) b ((mem b).mp hb), ?_⟩
    rw [List.length_append]
    omega
  · rw [decide_eq_false m, if_neg Bool.false_ne_true]
    refine ⟨fun e => absurd e (by simp), fun _ => by omega, fun all => ?_, fun no => ?_, by rw [List.length_append]; show _ ≤ _ + 1; omega⟩
    · cases ls with
      | nil => rw [h0 rfl]; exact Nat.le_refl _
      | cons a r => exact absurd (all l (by simp) a (by simp) ▸ List.mem_cons_self) m
    · cases ls with
      | nil => exact absurd (fun a ha b hb => by simp at ha hb; rw [ha, hb]) no
      | cons a r => have := h1 (by simp); omega
end Tm

namespace T77
open PySem PySem.Spec PyProof.Rows L2 Tm
abbrev sISt : Stmt := inClass (topS 2) 0
abbrev sLMi : Stmt := inClass (topS 3) 0
theorem scISt : FnScope ["self", "value"] ["self", "value"] (defScope sISt) := ⟨rfl, rfl, rfl, by decide +kernel, rfl, by decide +kernel, by decide +kernel⟩
theorem scLMi : FnScope ["self"] ["self"] (defScope sLMi) := ⟨rfl, rfl, rfl, by decide +kernel, rfl, by decide +kernel, by decide +kernel⟩
section
variable {P : Program} {w : World} {K : PySem.W.Frag} {mg : Str → Option Value} {base : Heap}
theorem ok_ist {f C : Addr} {fd : FuncData} (F : Fun K "__init__" "InvalidString.__init__" sISt f fd) (T : OexC K C) (nc : PySem.W.findIn K (.ref C) "code" = some none) (np : PySem.W.findIn K (.ref C) "value" = some none) :
    FnOk P w K mg base CX0 1 f fd ["self", "value"] (spErr C "invalidstring" "value") := by
  refine F.ok scISt (fun vs H Q E h => ?_) (fun cdv A outer s H vs Q E hr h => ?_)
  · obtain ⟨a, v, rfl, _⟩ := h
    rfl
  · obtain ⟨a, v, rfl, ha, q⟩ := h
    refine ⟨_, pss_cons (ps_ost (pv 0) pe_str) (pss_one (ps_ost (pv 0) (pv 1))), ?_⟩
    refine ⟨_, rfl, a, C, rfl, T, nc, .inl ⟨ha, fun dx n1 n2 => ?_⟩⟩
    exact ⟨_, rfl, _, rfl, a, C, rfl, T, np, .inr ⟨dx, _, upd_same, by rw [upd_ne n2]; exact upd_same, by show 1 ≤ 900; decide, q dx n1 n2⟩⟩
theorem ok_lmi {f C : Addr} {fd : FuncData} (F : Fun K "__init__" "LengthMismatch.__init__" sLMi f fd) (T : OexC K C) (nc : PySem.W.findIn K (.ref C) "code" = some none) :
    FnOk P w K mg base CX0 1 f fd ["self"] (spErr0 C "lengthmismatch") := by
  refine F.ok scLMi (fun vs H Q E h => ?_) (fun cdv A outer s H vs Q E hr h => ?_)
  · obtain ⟨a, rfl, _⟩ := h
    rfl
  · obtain ⟨a, rfl, ha, q⟩ := h
    refine ⟨_, pss_one (ps_ost (pv 0) pe_str), ?_⟩
    exact ⟨_, rfl, a, C, rfl, T, nc, .inl ⟨ha, fun dx n1 n2 => q dx n1 n2⟩⟩
theorem ok_chke {f fI fL fX CI : Addr} {fd fdI fdL fdX : FuncData} {t : Tok} (F : Fun K "check_string" "check_string" sChkS f fd) (FI : Fun K "is_string" "is_string" sIsStr fI fdI) (bI : Binds K fdI ["text"] []) (gI : mg "is_string" = some (.ref fI))
    (FL : Fun K "letters_of" "letters_of" sLettersOf fL fdL) (bL : Binds K fdL ["text"] []) (gL : mg "letters_of" = some (.ref fL)) (gA : mg "STRING_LETTERS" = some (.str (Str.ofString "1XZW") t)) (ma : mg "all" = none)
    (FX : Fun K "__init__" "InvalidString.__init__" sISt fX fdX) (bX : Binds K fdX ["self", "value"] []) (T : OexC K CI) (iX : PySem.W.findIn K (.ref CI) "__init__" = some (some (.ref fX))) (tX : PySem.W.typeIn K (.ref fX) = some (.type "function"))
    (nc : PySem.W.findIn K (.ref CI) "code" = some none) (np : PySem.W.findIn K (.ref CI) "value" = some none) (gX : mg "InvalidString" = some (.ref CI)) : FnOk P w K mg base (L2.CX P w) 3 f fd ["text"] (spChkE CI) := by
  have GI : FnOk P w K mg base CX0 2 fI fdI ["text"] spIsStr := ok_isstr FI FL bL gL gA ma
  have GX : FnOk P w K mg base CX0 1 fX fdX ["self", "value"] (spErr CI "invalidstring" "value") := ok_ist FX T nc np
  refine F.okX scChkS (fun vs H Q E h => ?_) (fun cdv A outer s H vs Q E hr h => ?_)
  · obtain ⟨ts, rfl, _⟩ := h
    rfl
  · obtain ⟨ts, rfl, hz, good, bad⟩ := h
    refine ⟨_, pss_one (ps_if (pt_not (pt_val (pe_call GI hr (by rfl) gI FI.kp bI .nil pass0 (pa_cons (pv 0) pa_nil)))) (pss_one (ps_raise rfl (takes_of rfl rfl rfl rfl) (pmk_oex T iX tX GX hr bX .nil pass0 (by rfl) gX (pa_cons (pv 0) pa_nil)))) pss_nil), ?_⟩
    refine ⟨_, rfl, ts, rfl, hz, fun H1 s1 => ⟨_, rfl, ?_⟩⟩
    show if (!isS ts) = true then _ else _
    cases e : isS ts with
    | true => exact iteF (good e H1 s1)
    | false =>
      refine iteT (made_err ⟨_, rfl, _, rfl, fun H3 d s3 nd h3 => (bad e).same s1 H3 d s3 nd h3⟩ ?_)
      rintro R S imp ⟨v, hv, h⟩
      exact ⟨v, hv, imp _ _ h⟩
set_option maxHeartbeats 1000000 in
theorem ok_multe {f fC fT fL fO fS fY pd CI CL : Addr} {fd fdC fdT fdL fdO fdS fdY : FuncData} (F : Fun K "multiply" "multiply" sMult f fd) (GC : FnOk P w K mg base (L2.CX P w) 3 fC fdC ["text"] (spChkE CI)) (FC : Fun K "check_string" "check_string" sChkS fC fdC) (bC : Binds K fdC ["text"] []) (gC : mg "check_string" = some (.ref fC))
    (FT : Fun K "product_of_two" "product_of_two" sTwo fT fdT) (bT : Binds K fdT ["one", "other"] []) (gT : mg "product_of_two" = some (.ref fT))
    (FL : Fun K "letters_of" "letters_of" sLettersOf fL fdL) (bL : Binds K fdL ["text"] []) (gL : mg "letters_of" = some (.ref fL))
    (FO : Fun K "sign_of" "sign_of" sSignOf fO fdO) (bO : Binds K fdO ["text"] []) (gO : mg "sign_of" = some (.ref fO)) (FS : Fun K "signed" "signed" sSigned fS fdS) (bS : Binds K fdS ["turns", "letters"] []) (gS : mg "signed" = some (.ref fS))
    (gD : mg "PRODUCTS" = some (.ref pd)) (KD : ∀ a ∈ Al, ∀ b ∈ Al, KDct K w pd (txt [a, b]) (tv (pP a b))) (ml : mg "len" = none) (ms : mg "sum" = none) (mz : mg "zip" = none)
    (FY : Fun K "__init__" "LengthMismatch.__init__" sLMi fY fdY) (bY : Binds K fdY ["self"] []) (T : OexC K CL) (iY : PySem.W.findIn K (.ref CL) "__init__" = some (some (.ref fY))) (tY : PySem.W.typeIn K (.ref fY) = some (.type "function"))
    (nc : PySem.W.findIn K (.ref CL) "code" = some none) (gY : mg "LengthMismatch" = some (.ref CL)) : FnR P w K mg base (L2.CX P w) 4 f (spMultE CI CL) := by
  have GL : FnOk P w K mg base CX0 1 fL fdL ["text"] spLetters := ok_letters FL
  have GT : FnOk P w K mg base CX0 3 fT fdT ["one", "other"] spTwo := ok_two FT FL bL gL FO bO gO FS bS gS gD KD ml ms mz
  have GY : FnOk P w K mg base CX0 1 fY fdY ["self"] (spErr0 CL "lengthmismatch") := ok_lmi FY T nc
  rcases F.ex with ⟨_, _, _, _, _, _, cdv, _, _, rfl, look, code⟩
  refine FnR.imp (StX.fn_star (ps := []) (pv := "strings") (sp := spMultET CI CL) (k := 3) look code scMult StX.cxUp ?bind ?body) ?imp
  case bind =>
    intro us rest h
    match us, rest, h with
    | [], [], _ => rfl
    | [], r :: rs, _ => rfl
  case imp =>
    rintro vs H Q E ⟨xss, rfl, m⟩
    refine ⟨[], _, rfl, rfl, ?_, fun p np => ⟨p, xss, rfl, upd_same, m.same (same_upd np)⟩⟩
    rw [List.length_map]
    exact Nat.le_of_lt (small1000 (by have := m.1; omega))
  case body =>
    intro A outer s H vs Q E hr h
    obtain ⟨p, xss, rfl, hp, few, short, bad, diff, good⟩ := h
    have hr1 : Room 1 _ := hr.mono (by decide)
    have hr2 : Room 2 _ := hr.mono (by decide)
    refine ⟨_, pss_cons (ps_for (passes_of rfl) rfl (pi_tup (pv 0)) (pg_name (i := 1) scMult.nd rfl (.inl rfl)) (pss_one (ps_expr (pe_call GC hr (by rfl) gC FC.kp bC .nil (passes_call (takes_of rfl rfl rfl rfl) (fun _ _ _ _ h => h)) (pa_cons (pv 1) pa_nil)))))
      (pss_cons (ps_if (pt_cmpR op_gt (pe_callB call_lenI (by rfl) ml PySem.boot_len (pa_cons (pe_setI (own := [("text", 1)]) (g := gName 1) rfl scMult.nd (pi_tup (pv 0)) (blkOk_by (own := [("text", 1)]) (N := ["strings", "text", "total"]) (sc := defScope sMult) (by decide +kernel))
          (fun _ _ _ _ _ => pg_name (i := 1) scMult.nd rfl (Or.inl rfl)) (fun _ _ _ _ _ => pe_callB call_len_str (by rfl) ml PySem.boot_len (pa_cons (pe_call GL hr1 (by rfl) gL FL.kp bL .nil pass0 (pa_cons (pv 1) pa_nil)) pa_nil))) pa_nil)) pe_int (nomark _)) (pss_one (ps_raise rfl (takes_of rfl rfl rfl rfl) (pmk_bare T iY tY GY hr2 bY pass0 (by rfl) gY))) pss_nil)
      (pss_cons (ps_if (pt_cmpR op_eq (pe_callB call_len_seq (by rfl) ml PySem.boot_len (pa_cons (pv 0) pa_nil)) pe_int (nomark _)) (pss_one (ps_ret pe_str)) pss_nil)
      (pss_cons (ps_set (i := 2) scMult.nd rfl (.inl rfl) (pe_ix ix_tup (pv 0) pe_int (fun _ _ => rfl)))
      (pss_cons (ps_for (passes_of rfl) rfl (pi_tup (pe_slice sl_tup (pv 0) (po_some pe_int) po_none)) (pg_name (i := 1) scMult.nd rfl (.inl rfl)) (pss_one (ps_set (i := 2) scMult.nd rfl (.inl rfl) (pe_call GT hr (by rfl) gT FT.kp bT .nil pass0 (pa_cons (pv 2) (pa_cons (pv 1) pa_nil))))))
      (pss_one (ps_ret (pv 2))))))), ?_⟩
    have at_i : ∀ {i : Nat} {v : V}, (xss.map tv)[i]? = some v → ∃ x, xss[i]? = some x ∧ v = tv x ∧ x.length ≤ 900 := by
      intro i v hv
      rw [List.getElem?_map] at hv
      cases ex : xss[i]? with
      | none => rw [ex] at hv; cases hv
      | some x =>
        rw [ex] at hv
        exact ⟨x, rfl, (Option.some.inj hv).symm, short x (List.mem_of_getElem? ex)⟩
    refine ⟨_, rfl, p, rfl, ⟨_, .inl (.inl hp)⟩, ?_⟩
    refine for_it (walk_tup (xs := xss.map tv)) (fun i σ H' => ∃ y, σ = [some (.ref p), y, none] ∧ Same H H' ∧ ∀ x ∈ xss.take i, isS x = true) ⟨none, rfl, fun _ _ h => h, fun x hx => by cases hx⟩ (fun i σ H' _ ⟨_, _, s1, _⟩ => .inl (.inl (s1 _ _ hp))) ?_ ?_
    · rintro i v σ H1 H2 hi ⟨y, rfl, s1, before⟩ ⟨rfl, hv⟩
      obtain ⟨x, ex, rfl, zx⟩ := at_i hv
      refine ⟨_, rfl, x, rfl, by omega, fun isx H3 s3 => ⟨_, rfl, s1.trans s3, ?_⟩, fun no => (bad i x ex before no).same s1⟩
      intro z hz
      rw [List.take_succ, ex] at hz
      rcases List.mem_append.mp hz with hz | hz
      · exact before z hz
      · rw [List.mem_singleton.mp hz]
        exact isx
    rintro σ H1 ⟨y, rfl, s1, allS⟩
    have allS : ∀ x ∈ xss, isS x = true := by
      rw [List.length_map, List.take_length] at allS
      exact allS
    refine ⟨_, rfl, p, rfl, ⟨_, .inl (.inl (s1 _ _ hp))⟩, fun D nD => ?_⟩
    refine setI_tup (K := K) (a := p) (xs := xss.map tv) (fun i H' => Same H1 H' ∧ ∃ (S : Int → Bool) (c : Nat), H' D = some (SetO w D S c) ∧ (∀ l : Nat, S (l : Int) = decide (l ∈ (xss.take i).map fun x => (lettersL x).length)) ∧ Seen ((xss.take i).map fun x => (lettersL x).length) c)
      ⟨same_upd nD, _, 0, upd_same, fun l => rfl, seen_nil⟩ (fun i H' _ hv => .inl (.inl (hv.1 _ _ (s1 _ _ hp)))) ?_ ?_
    · rintro i v H2 hv ⟨s2, S, c, hD, hS, sc⟩
      obtain ⟨x, ex, rfl, zx⟩ := at_i hv
      have le := lettersL_le x
      have cl : c ≤ 20 := by
        have h1 := sc.2.2.2.2
        rw [List.length_map, List.length_take] at h1
        omega
      refine ⟨rfl, ?_⟩
      refine ⟨_, rfl, x, rfl, Nat.le_of_lt (small1000 (by omega)), _, rfl, by rw [txt_len]; exact Nat.le_of_lt (small1000 (by omega)), _, S, c, rfl, hD, by unfold scanBound; omega, same_put s2 nD, _, _, upd_same, ?_, ?_⟩
      · intro l
        show (S (l : Int) || decide ((l : Int) = (((txt (lettersL x)).length : Nat) : Int))) = _
        rw [hS, txt_len, List.take_succ, ex, List.map_append]
        by_cases z : l = (lettersL x).length
        · rw [decide_eq_true (show (l : Int) = ((lettersL x).length : Int) by omega)]
          simp [z]
        · rw [decide_eq_false (show ¬ (l : Int) = ((lettersL x).length : Int) by omega), Bool.or_false]
          apply decide_eq_decide.mpr
          simp [z]
      · rw [hS, txt_len, List.take_succ, ex, List.map_append]
        exact seen_more sc
    rintro H2 ⟨s2, S, c, hD, hS, sc⟩
    rw [List.length_map, List.take_length] at sc
    have hp2 : H2 p = some (.tup (xss.map tv)) := s2 _ _ (s1 _ _ hp)
    have cl : c ≤ 20 := by
      have h1 := sc.2.2.2.2
      rw [List.length_map] at h1
      omega
    refine ⟨D, S, c, rfl, hD, by omega, _, _, rfl, rfl, _, rfl, ?_⟩
    by_cases eq : AllEq xss
    rotate_left
    · have two : 2 ≤ c := sc.2.2.2.1 fun all => eq fun x hx y hy => all _ (List.mem_map.mpr ⟨x, hx, rfl⟩) _ (List.mem_map.mpr ⟨y, hy, rfl⟩)
      rw [decide_eq_true (show ((1 : Int)) < ((c : Nat) : Int) by omega)]
      exact iteT (made_bare fun H3 d s3 nd h3 => (diff allS eq).same (s1.trans s2) H3 d s3 nd h3)
    obtain ⟨n, all⟩ := all_sn allS eq
    have c1 : c ≤ 1 := sc.2.2.1 fun a ha b hb => by
      obtain ⟨x, hx, rfl⟩ := List.mem_map.mp ha
      obtain ⟨y, hy, rfl⟩ := List.mem_map.mp hb
      exact eq x hx y hy
    have no : decide (((1 : Int)) < ((c : Nat) : Int)) = false := decide_eq_false (by omega)
    rw [no]
    refine iteF ?_
    refine ⟨_, rfl, p, _, rfl, .inr (.inl (.inl hp2)), rfl, _, rfl, ?_⟩
    have q := good n all
    cases xss with
    | nil =>
      refine iteT ?_
      have e := q H2 (s1.trans s2)
      unfold multL tv at e
      rw [← txt_empty] at e
      exact e
    | cons x0 r =>
      have nz : decide (V.int ((((x0 :: r).map tv).length : Nat) : Int) = V.int 0) = false := decide_eq_false fun z => by
        have z2 := V.int.inj z
        rw [List.length_map, List.length_cons] at z2
        omega
      rw [nz]
      refine iteF ?_
      refine ⟨_, rfl, p, _, _, tv x0, rfl, rfl, .inl (.inl hp2), atI_nat (j := 0) (xs := (x0 :: r).map tv) rfl, ?_⟩
      have whole : ¬ (HT.sIx ((x0 :: r).map tv).length 0 (some 1) = 0 ∧ HT.sIx ((x0 :: r).map tv).length ((x0 :: r).map tv).length none = ((x0 :: r).map tv).length) := by
        rintro ⟨z, _⟩
        have z2 : HT.sIx ((x0 :: r).map tv).length 0 (some ((1 : Nat) : Int)) = 0 := z
        rw [HT.sIx_nat, List.length_map, List.length_cons] at z2
        omega
      refine ⟨_, rfl, 1, rfl, p, _, rfl, .inl (.inl hp2), whole, fun o no => ?_⟩
      have ecut : cutV ((x0 :: r).map tv) (some 1) none = r.map tv := cutV_drop ((x0 :: r).map tv) 1
      rw [ecut]
      refine ⟨o, rfl, ⟨_, .inl (.inl upd_same)⟩, ?_⟩
      have h0 : Sn n x0 := all x0 List.mem_cons_self
      have hn : n ≤ 900 := by
        have h1 := h0.len.2.1
        have h2 := lettersL_le x0
        have h3 := short x0 List.mem_cons_self
        omega
      have hr' : ∀ y ∈ r, Sn n y := fun y hy => all y (List.mem_cons_of_mem _ hy)
      have lenr : (r.map tv).length = r.length := List.length_map ..
      refine for_it (walk_tup (xs := r.map tv)) (fun i σ H' => ∃ y, σ = [some (.ref p), y, some (tv ((r.take i).foldl two x0))] ∧ Same (upd H2 o (.tup (r.map tv))) H') ⟨_, rfl, fun _ _ h => h⟩ (fun i σ H' _ ⟨_, _, s3⟩ => .inl (.inl (s3 _ _ upd_same))) ?_ ?_
      · rintro i v σ H3 H4 hi ⟨y, rfl, s3⟩ ⟨rfl, hv⟩
        rw [lenr] at hi
        rw [List.getElem?_map, List.getElem?_eq_getElem hi] at hv
        have ev : v = tv r[i] := (Option.some.inj hv).symm
        subst ev
        have part : Sn n ((r.take i).foldl two x0) := Sn.fold h0 fun y hy => hr' y (List.mem_of_mem_take hy)
        refine ⟨_, rfl, _, rfl, n, _, r[i], rfl, hn, part, hr' _ (List.getElem_mem hi), fun H5 s5 => ⟨some (tv r[i]), ?_, s3.trans s5⟩⟩
        rw [List.take_succ_eq_append_getElem hi, fold_snoc]
        rfl
      · rintro σ H3 ⟨y, rfl, s3⟩
        rw [lenr, List.take_length]
        exact ⟨_, rfl, q H3 ((s1.trans s2).trans ((same_upd no).trans s3))⟩
end


end T77

namespace T77
open PySem PySem.Spec PyProof.Rows L2 Tm
abbrev sLTab : Stmt := topS 26
abbrev sLTimes : Stmt := topS 27
abbrev sLTAll : Stmt := topS 28
theorem scLTab : FnScope [] [] (defScope sLTab) := ⟨rfl, rfl, rfl, by decide +kernel, rfl, by decide +kernel, by decide +kernel⟩
theorem scLTimes : FnScope ["_law_first", "_law_last", "_law_known", "_law_found", "_law_mturned", "_law_one", "_law_other", "_law_sign"] ["_law_first", "_law_last"] (defScope sLTimes) := ⟨rfl, rfl, rfl, by decide +kernel, rfl, by decide +kernel, by decide +kernel⟩
theorem scLTAll : FnScope ["_law_strings_in", "_law_size", "_law_found", "_law_one"] ["_law_strings_in", "_law_size"] (defScope sLTAll) := ⟨rfl, rfl, rfl, by decide +kernel, rfl, by decide +kernel, by decide +kernel⟩
section
variable {P : Program} {w : World} {K : PySem.W.Frag} {mg : Str → Option Value} {base : Heap}
theorem ok_ltab {f : Addr} {fd : FuncData} (F : Fun K "_law_table_of_products" "_law_table_of_products" sLTab f fd) : FnOk P w K mg base CX0 1 f fd [] spTab := by
  refine F.ok scLTab (fun vs H Q E h => ?_) (fun cdv A outer s H vs Q E hr h => ?_)
  · obtain ⟨rfl, _⟩ := h
    rfl
  · obtain ⟨rfl, q⟩ := h
    refine ⟨_, pss_one (ps_ret (pe_disp16 (ps := ptabS) (.cons pe_str pe_str (.cons pe_str pe_str (.cons pe_str pe_str (.cons pe_str pe_str (.cons pe_str pe_str (.cons pe_str pe_str (.cons pe_str pe_str (.cons pe_str pe_str (.cons pe_str pe_str (.cons pe_str pe_str (.cons pe_str pe_str (.cons pe_str pe_str (.cons pe_str pe_str (.cons pe_str pe_str (.cons pe_str pe_str (.cons pe_str pe_str (.nil))))))))))))))))) rfl)), fun p np => ?_⟩
    rw [tab_is]
    exact q _ p (same_upd np) np upd_same
theorem ok_ltimes {f fT fY fS : Addr} {fd fdT fdY fdS : FuncData} (F : Fun K "_law_times" "_law_times" sLTimes f fd) (FT : Fun K "_law_table_of_products" "_law_table_of_products" sLTab fT fdT) (bT : Binds K fdT [] []) (gT : mg "_law_table_of_products" = some (.ref fT))
    (FY : Fun K "_law_body" "_law_body" sLBody fY fdY) (bY : Binds K fdY ["_law_text"] []) (gY : mg "_law_body" = some (.ref fY)) (FS : Fun K "_law_signed" "_law_signed" sLSigned fS fdS) (bS : Binds K fdS ["_law_mturned", "_law_body_here"] []) (gS : mg "_law_signed" = some (.ref fS))
    (mi : mg "int" = none) (mz : mg "zip" = none) : FnOk P w K mg base CX0 2 f fd ["_law_first", "_law_last"] spTwo := by
  have GT : FnOk P w K mg base CX0 1 fT fdT [] spTab := ok_ltab FT
  have GY : FnOk P w K mg base CX0 1 fY fdY ["_law_text"] spLBody := ok_lbody FY
  have GS : FnOk P w K mg base CX0 1 fS fdS ["_law_mturned", "_law_body_here"] spLSigned := ok_lsigned FS
  refine F.ok scLTimes (fun vs H Q E h => ?_) (fun cdv A outer s H vs Q E hr h => ?_)
  · obtain ⟨n, x, y, rfl, _⟩ := h
    rfl
  · obtain ⟨n, x, y, rfl, hn, hx, hy, q⟩ := h
    have hu := hu_of hr
    refine ⟨_, pss_cons (ps_par (i := 2) (j := 3) rfl scLTimes.nd rfl rfl (by decide) rfl rfl (pa_cons (pe_call0 GT hr (by rfl) gT FT.kp bT .nil pass0) (pa_cons pe_str pa_nil)) rfl)
      (pss_cons (ps_set (i := 4) scLTimes.nd rfl (.inl rfl) (pe_op op_add (pe_callTy call_int1 (by rfl) mi boot_int (pa_cons (pe_cmpR op_eq (pe_slice sl_str (pv 0) po_none (po_some pe_int)) pe_str (nomark _)) pa_nil)) (pe_callTy call_int1 (by rfl) mi boot_int (pa_cons (pe_cmpR op_eq (pe_slice sl_str (pv 1) po_none (po_some pe_int)) pe_str (nomark _)) pa_nil))))
      (pss_cons (ps_for PassesOwn.never rfl (pi_zipS (by rfl) mz (pa_cons (pe_call GY hr (by rfl) gY FY.kp bY .nil pass0 (pa_cons (pv 0) pa_nil)) (pa_cons (pe_call GY hr (by rfl) gY FY.kp bY .nil pass0 (pa_cons (pv 1) pa_nil)) pa_nil)))
        (pg_tup rfl (pgs_cons (pg_name (i := 5) scLTimes.nd rfl (.inl rfl)) (pgs_cons (pg_name (i := 6) scLTimes.nd rfl (.inl rfl)) pgs_nil)))
        (pss_cons (ps_set (i := 7) scLTimes.nd rfl (.inl rfl) (pe_dget hu (pv 2) (pe_op op_add_str (pv 5) (pv 6)) (fun _ _ => rfl)))
        (pss_cons (ps_set (i := 3) scLTimes.nd rfl (.inl rfl) (pe_op op_add_str (pv 3) (pe_ix ix_str (pv 7) (pe_un un_neg pe_int) (fun _ _ => rfl))))
        (pss_one (ps_set (i := 4) scLTimes.nd rfl (.inl rfl) (pe_op op_add (pv 4) (pe_callTy call_int1 (by rfl) mi boot_int (pa_cons (pe_cmpR op_eq (pe_slice sl_str (pv 7) po_none (po_some pe_int)) pe_str (nomark _)) pa_nil))))))))
      (pss_one (ps_ret (pe_call GS hr (by rfl) gS FS.kp bS .nil pass0 (pa_cons (pv 4) (pa_cons (pv 3) pa_nil))))))), ?_⟩
    obtain ⟨sx, lx, ax⟩ := hx.len
    obtain ⟨sy, ly, ay⟩ := hy.len
    have tx : (txt x).length ≤ sizeLine := by rw [txt_len]; exact Nat.le_of_lt (small1000 (by omega))
    have ty : (txt y).length ≤ sizeLine := by rw [txt_len]; exact Nat.le_of_lt (small1000 (by omega))
    refine ⟨rfl, fun H1 p s1 np hp => ⟨_, _, rfl, ?_⟩⟩
    refine ⟨_, rfl, 1, rfl, _, rfl, tx, rfl, .inr ⟨_, rfl, _, rfl, 1, rfl, _, rfl, ty, rfl, .inr ⟨_, rfl, _, _, rfl, rfl, ?_⟩⟩⟩
    refine ⟨_, rfl, x, rfl, by omega, _, rfl, y, rfl, by omega, lettersL x, lettersL y, rfl, ?_⟩
    have e0 : (if decide (V.str (cutS (txt x) none (some 1)) = V.str (Str.ofString "-")) = true then (1 : Int) else 0) + (if decide (V.str (cutS (txt y) none (some 1)) = V.str (Str.ofString "-")) = true then (1 : Int) else 0) = ((signL x + signL y : Nat) : Int) := by
      rw [first_is, first_is, bit_sign, bit_sign, Int.natCast_add]
    refine for_it walk_zipS (fun i σ H' => ∃ y5 y6 y7 : Option V, σ = [some (tv x), some (tv y), some (.ref p), some (tv ((zL (lettersL x) (lettersL y)).take i)), some (.int ((signL x + signL y + ((List.zipWith pS (lettersL x) (lettersL y)).take i).sum : Nat) : Int)), y5, y6, y7] ∧ Same H1 H')
      ⟨none, none, none, ?_, fun _ _ h => h⟩ (fun _ _ _ _ _ => trivial) ?_ ?_
    · rw [txt_empty]
      dsimp only
      rw [e0]
      rfl
    · rintro i v σ H2 H3 hi ⟨y5, y6, y7, rfl, s2⟩ ⟨T, c, d, rfl, nT, rfl, hc, hd⟩
      have hca : c ∈ Al := ax c (List.mem_of_getElem? hc)
      have hda : d ∈ Al := ay d (List.mem_of_getElem? hd)
      have pf := p_form c hca d hda
      refine ⟨T, _, rfl, .inl (.inl upd_same), rfl, _, _, rfl, _, _, rfl, rfl, ?_⟩
      have hp3 := (same_upd (o := .tup [sig c, sig d]) nT) _ _ (s2 _ _ hp)
      have bit := bit_sign (pP c d)
      have zp : (txt (pP c d)).length ≤ sizeLine := by rw [txt_len]; exact Nat.le_of_lt (small1000 (by omega))
      have zl := zL_len (as := lettersL x) (bs := lettersL y) (by omega)
      refine ⟨_, rfl, _, rfl, _, rfl, _, _, rfl, rfl, by show 1 + 1 ≤ sizeLine; decide, p, tv (pP c d), rfl, ?_, ?_⟩
      · have e := DGet.k (k := Sum.inr (txt [c, d])) hp3
        rw [tab_at c hca d hda] at e
        have e2 : (V.str ((⟨#[c]⟩ : Str) ++ ⟨#[d]⟩)) = V.str (txt [c, d]) := congrArg V.str (txt_app [c] [d])
        exact (congrArg (fun z => DGet (upd H2 T (.tup [sig c, sig d])) p z (some (tv (pP c d)))) e2).mpr e
      refine ⟨_, rfl, _, rfl, _, rfl, txt (pP c d), _, pL c d, rfl, rfl, zp, by rw [txt_cps]; exact p_last c hca d hda, _, _, rfl, rfl, ?_, ?_⟩
      · rw [txt_len, List.length_take]
        show _ + 1 ≤ sizeLine
        exact small1000 (by omega)
      refine ⟨_, rfl, _, rfl, 1, rfl, _, rfl, zp, rfl, .inr ⟨_, rfl, _, _, rfl, rfl, some (sig c), some (sig d), some (tv (pP c d)), ?_, s2.trans (same_upd nT)⟩⟩
      dsimp only
      rw [first_is, bit, zL_take _ _ hc hd, zS_take _ _ hc hd]
      have e1 : txt ((zL (lettersL x) (lettersL y)).take i) ++ (⟨#[pL c d]⟩ : Str) = txt ((zL (lettersL x) (lettersL y)).take i ++ [pL c d]) := txt_app _ [pL c d]
      have e2 : ((signL x + signL y + ((List.zipWith pS (lettersL x) (lettersL y)).take i).sum : Nat) : Int) + ((signL (pP c d) : Nat) : Int) = ((signL x + signL y + (((List.zipWith pS (lettersL x) (lettersL y)).take i).sum + pS c d) : Nat) : Int) := by
        show _ + ((pS c d : Nat) : Int) = _
        omega
      rw [e1, e2]
      rfl
    · rintro σ H2 ⟨y5, y6, y7, rfl, s2⟩
      have zl := zL_len (as := lettersL x) (bs := lettersL y) (by omega)
      have full : (zL (lettersL x) (lettersL y)).take (min (lettersL x).length (lettersL y).length) = zL (lettersL x) (lettersL y) := List.take_of_length_le (by omega)
      have full2 : (List.zipWith pS (lettersL x) (lettersL y)).take (min (lettersL x).length (lettersL y).length) = List.zipWith pS (lettersL x) (lettersL y) := List.take_of_length_le (by rw [List.length_zipWith]; exact Nat.le_refl _)
      rw [full, full2]
      refine ⟨_, rfl, _, rfl, _, zL (lettersL x) (lettersL y), rfl, small1000 (by omega), ?_⟩
      exact q H2 (s1.trans s2)
theorem ok_ltall {f fM fT fY fS : Addr} {fd fdM fdT fdY fdS : FuncData} (F : Fun K "_law_times_all" "_law_times_all" sLTAll f fd) (FM : Fun K "_law_times" "_law_times" sLTimes fM fdM) (bM : Binds K fdM ["_law_first", "_law_last"] []) (gM : mg "_law_times" = some (.ref fM))
    (FT : Fun K "_law_table_of_products" "_law_table_of_products" sLTab fT fdT) (bT : Binds K fdT [] []) (gT : mg "_law_table_of_products" = some (.ref fT))
    (FY : Fun K "_law_body" "_law_body" sLBody fY fdY) (bY : Binds K fdY ["_law_text"] []) (gY : mg "_law_body" = some (.ref fY)) (FS : Fun K "_law_signed" "_law_signed" sLSigned fS fdS) (bS : Binds K fdS ["_law_mturned", "_law_body_here"] []) (gS : mg "_law_signed" = some (.ref fS))
    (mi : mg "int" = none) (mz : mg "zip" = none) : FnOk P w K mg base CX0 3 f fd ["_law_strings_in", "_law_size"] (spTAll K) := by
  have GM : FnOk P w K mg base CX0 2 fM fdM ["_law_first", "_law_last"] spTwo := ok_ltimes FM FT bT gT FY bY gY FS bS gS mi mz
  refine F.ok scLTAll (fun vs H Q E h => ?_) (fun cdv A outer s H vs Q E hr h => ?_)
  · obtain ⟨n, a, xss, rfl, _⟩ := h
    rfl
  · obtain ⟨n, a, xss, rfl, ha, hn, few, all, q⟩ := h
    refine ⟨_, pss_cons (ps_set (i := 2) scLTAll.nd rfl (.inl rfl) (pe_op op_times pe_str (pv 1)))
      (pss_cons (ps_for PassesOwn.never rfl (pi_list (pv 0)) (pg_name (i := 3) scLTAll.nd rfl (.inl rfl)) (pss_one (ps_set (i := 2) scLTAll.nd rfl (.inl rfl) (pe_call GM hr (by rfl) gM FM.kp bM .nil pass0 (pa_cons (pv 2) (pa_cons (pv 3) pa_nil))))))
      (pss_one (ps_ret (pv 2)))), ?_⟩
    refine ⟨_, rfl, 49, n, (by decide +kernel), rfl, by omega, ?_⟩
    have len : (xss.map tv).length = xss.length := List.length_map ..
    refine ⟨_, rfl, a, rfl, ⟨_, ha⟩, ?_⟩
    refine for_it (walk_list (xs := xss.map tv)) (fun i σ H' => ∃ y, σ = [some (.ref a), some (.int ((n : Nat) : Int)), some (tv ((xss.take i).foldl two (List.replicate n 49))), y] ∧ Same H H') ⟨none, rfl, fun _ _ h => h⟩ (fun i σ H' _ ⟨_, _, s1⟩ => s1.seq ha) ?_ ?_
    · rintro i v σ H1 H2 hi ⟨y, rfl, s1⟩ ⟨rfl, hv⟩
      rw [len] at hi
      rw [List.getElem?_map, List.getElem?_eq_getElem hi] at hv
      have ev : v = tv xss[i] := (Option.some.inj hv).symm
      subst ev
      have part : Sn n ((xss.take i).foldl two (List.replicate n 49)) := Sn.fold (Sn.one n) fun y hy => all y (List.mem_of_mem_take hy)
      refine ⟨_, rfl, _, rfl, n, _, xss[i], rfl, hn, part, all _ (List.getElem_mem hi), fun H3 s3 => ⟨some (tv xss[i]), ?_, s1.trans s3⟩⟩
      rw [List.take_succ_eq_append_getElem hi, fold_snoc]
      rfl
    · rintro σ H1 ⟨y, rfl, s1⟩
      rw [len, List.take_length]
      exact ⟨_, rfl, q H1 s1⟩
end


end T77

namespace T77
open PySem PySem.Spec PyProof.Rows L2 Tm
open L2H
abbrev sField : Stmt := topS 22
theorem scField : FnScope ["_law_e"] ["_law_e"] (defScope sField) := ⟨rfl, rfl, rfl, by decide +kernel, rfl, by decide +kernel, by decide +kernel⟩
section
variable {P : Program} {w : World} {K : PySem.W.Frag} {mg : Str → Option Value} {base : Heap}
theorem walk_field {f : Addr} {cdv : Value} {A : Around} {outer : List Env} {s : Shared} {H : Hp} {Q : VK} {a : Addr} {oe : Obj} {cls : Value} {d : Option Addr} (is : Zc cls d oe) (flds : ∃ vs, oe.data = .fields vs) (told : spFieldE K cls d H Q) :
    ∃ t, PSs (cxH CX0 P w K mg base ["_law_e"] "_law_field" (defScope sField) f cdv A outer s H (fun _ _ _ => False) (a, oe)) (defBody sField) t ∧ t { nx := fun _ H' => Q .non H', rt := Q } (L2.start ["_law_e"] [.ref a]) H := by
  obtain ⟨c, v, ex, q⟩ := told
  have pin : (a, oe) ∈ (cxH CX0 P w K mg base ["_law_e"] "_law_field" (defScope sField) f cdv A outer s H (fun _ _ _ => False) (a, oe)).pn := List.mem_cons_self
  refine ⟨_, pss_cons (ps_if (pt_cmpR op_in_seq (pe_pinned pin is flds (pv 0)) (pe_lst (pa_cons pe_str (pa_cons pe_str (pa_cons pe_str (pa_cons pe_str (pa_cons pe_str (pa_cons pe_str pa_nil))))))) (by rfl)) (pss_one (ps_ret (pe_pinned pin is flds (pv 0)))) pss_nil)
    (pss_cons (ps_if (pt_cmpR op_in_seq (pe_pinned pin is flds (pv 0)) (pe_lst (pa_cons pe_str (pa_cons pe_str (pa_cons pe_str (pa_cons pe_str (pa_cons pe_str (pa_cons pe_str (pa_cons pe_str pa_nil)))))))) (by rfl)) (pss_one (ps_ret (pe_pinned pin is flds (pv 0)))) pss_nil)
    (pss_cons (ps_if (pt_cmpR op_in_seq (pe_pinned pin is flds (pv 0)) (pe_lst (pa_cons pe_str (pa_cons pe_str pa_nil))) (by rfl)) (pss_one (ps_ret (pe_pinned pin is flds (pv 0)))) pss_nil)
    (pss_cons (ps_if (pt_cmpR op_in_seq (pe_pinned pin is flds (pv 0)) (pe_lst (pa_cons pe_str (pa_cons pe_str pa_nil))) (by rfl)) (pss_one (ps_ret (pe_pinned pin is flds (pv 0)))) pss_nil)
    (pss_cons (ps_if (pt_cmpR op_eq (pe_pinned pin is flds (pv 0)) pe_str (nomark _)) (pss_one (ps_ret (pe_pinned pin is flds (pv 0)))) pss_nil)
    (pss_cons (ps_if (pt_cmpR op_eq (pe_pinned pin is flds (pv 0)) pe_str (nomark _)) (pss_one (ps_ret (pe_pinned pin is flds (pv 0)))) pss_nil)
    (pss_one (ps_ret (pe_ifExp (pt_cmpR op_eq (pe_pinned pin is flds (pv 0)) pe_str (nomark _)) (pe_pinned pin is flds (pv 0)) pe_non)))))))), ?_⟩
  obtain ⟨C, dd, fs, ec, T, noC, ed, hdd, hc, hf⟩ := ex.ex
  -- one test of the code against a list of texts
  have inL : ∀ (c : Str) (zs : List Str), (if false = true then !inV (.str c) (zs.map V.str) else inV (.str c) (zs.map V.str)) = decide (c ∈ zs) := fun c zs => by rw [in_strs]; rfl
  unfold attrOf at hf
  have s0 : Same H H := Same.refl H
  refine ⟨_, rfl, rfl, C, dd, fs, _, ec, T, noC, ed, s0 _ _ hdd, hc, (by show 6 ≤ sizeLine; decide), fun l1 n1 => ⟨l1, _, rfl, .inl (SqL.of upd_same), rfl, rfl, _, rfl, ?_⟩⟩
  have s1 := s0.trans (same_upd (o := .lst (nodeCodes.map V.str)) n1)
  by_cases h1 : c ∈ nodeCodes
  · rw [if_pos h1] at hf
    refine ifT ((inL c nodeCodes).trans (decide_eq_true h1)) ?_
    exact ⟨_, rfl, rfl, C, dd, fs, _, ec, T, hf.1, ed, s1 _ _ hdd, hf.2, q _ s1⟩
  rw [if_neg h1] at hf
  refine ifF ((inL c nodeCodes).trans (decide_eq_false h1)) ?_
  refine ⟨_, rfl, rfl, C, dd, fs, _, ec, T, noC, ed, s1 _ _ hdd, hc, (by show 7 ≤ sizeLine; decide), fun l2 n2 => ⟨l2, _, rfl, .inl (SqL.of upd_same), rfl, rfl, _, rfl, ?_⟩⟩
  have s2 := s1.trans (same_upd (o := .lst (nameCodes.map V.str)) n2)
  by_cases h2 : c ∈ nameCodes
  · rw [if_pos h2] at hf
    refine ifT ((inL c nameCodes).trans (decide_eq_true h2)) ?_
    exact ⟨_, rfl, rfl, C, dd, fs, _, ec, T, hf.1, ed, s2 _ _ hdd, hf.2, q _ s2⟩
  rw [if_neg h2] at hf
  refine ifF ((inL c nameCodes).trans (decide_eq_false h2)) ?_
  refine ⟨_, rfl, rfl, C, dd, fs, _, ec, T, noC, ed, s2 _ _ hdd, hc, (by show 2 ≤ sizeLine; decide), fun l3 n3 => ⟨l3, _, rfl, .inl (SqL.of upd_same), rfl, rfl, _, rfl, ?_⟩⟩
  have s3 := s2.trans (same_upd (o := .lst (indexCodes.map V.str)) n3)
  by_cases h3 : c ∈ indexCodes
  · rw [if_pos h3] at hf
    refine ifT ((inL c indexCodes).trans (decide_eq_true h3)) ?_
    exact ⟨_, rfl, rfl, C, dd, fs, _, ec, T, hf.1, ed, s3 _ _ hdd, hf.2, q _ s3⟩
  rw [if_neg h3] at hf
  refine ifF ((inL c indexCodes).trans (decide_eq_false h3)) ?_
  refine ⟨_, rfl, rfl, C, dd, fs, _, ec, T, noC, ed, s3 _ _ hdd, hc, (by show 2 ≤ sizeLine; decide), fun l4 n4 => ⟨l4, _, rfl, .inl (SqL.of upd_same), rfl, rfl, _, rfl, ?_⟩⟩
  have s4 := s3.trans (same_upd (o := .lst (limitCodes.map V.str)) n4)
  by_cases h4 : c ∈ limitCodes
  · rw [if_pos h4] at hf
    refine ifT ((inL c limitCodes).trans (decide_eq_true h4)) ?_
    exact ⟨_, rfl, rfl, C, dd, fs, _, ec, T, hf.1, ed, s4 _ _ hdd, hf.2, q _ s4⟩
  rw [if_neg h4] at hf
  refine ifF ((inL c limitCodes).trans (decide_eq_false h4)) ?_
  refine ⟨_, rfl, rfl, C, dd, fs, _, ec, T, noC, ed, s4 _ _ hdd, hc, rfl, _, rfl, ?_⟩
  by_cases h5 : c = "invalidword"
  · rw [if_pos h5] at hf
    refine ifT (decide_eq_true (by rw [h5])) ?_
    exact ⟨_, rfl, rfl, C, dd, fs, _, ec, T, hf.1, ed, s4 _ _ hdd, hf.2, q _ s4⟩
  rw [if_neg h5] at hf
  refine ifF (decide_eq_false (fun e => h5 (V.str.inj e))) ?_
  refine ⟨_, rfl, rfl, C, dd, fs, _, ec, T, noC, ed, s4 _ _ hdd, hc, rfl, _, rfl, ?_⟩
  by_cases h6 : c = "invalidstring"
  · rw [if_pos h6] at hf
    refine ifT (decide_eq_true (by rw [h6])) ?_
    exact ⟨_, rfl, rfl, C, dd, fs, _, ec, T, hf.1, ed, s4 _ _ hdd, hf.2, q _ s4⟩
  rw [if_neg h6] at hf
  refine ifF (decide_eq_false (fun e => h6 (V.str.inj e))) ?_
  refine ⟨_, rfl, rfl, C, dd, fs, _, ec, T, noC, ed, s4 _ _ hdd, hc, rfl, _, rfl, ?_⟩
  by_cases h7 : c = "invaliddocument"
  · rw [if_pos h7] at hf
    refine ifT (decide_eq_true (by rw [h7])) ?_
    exact ⟨_, rfl, rfl, C, dd, fs, _, ec, T, hf.1, ed, s4 _ _ hdd, hf.2, q _ s4⟩
  rw [if_neg h7] at hf
  refine ifF (decide_eq_false (fun e => h7 (V.str.inj e))) ?_
  have hv : v = .non := hf
  rw [← hv]
  exact q _ s4
end


end T77

namespace T77
open PySem PySem.Spec PyProof.Rows L2 Tm
open LamX L2H
abbrev sTried : Stmt := topS 23
theorem scTried : FnScope ["_law_ask", "_law_e"] ["_law_ask"] (defScope sTried) := ⟨rfl, rfl, rfl, by decide +kernel, rfl, by decide +kernel, by decide +kernel⟩
/-- what is asked of an error that leaves the lambda: it is one of the two kinds, and its code and field are known -/
def wTried (K : PySem.W.Frag) (CT CM : Addr) (Q : VK) : XK := fun cls d H => ∃ b, PySem.W.exmOne K cls (.ref CT) = some b ∧ (b = false → PySem.W.exmOne K cls (.ref CM) = some true) ∧
  ∃ (c : Str) (v : V), ExcIs K cls d H c v ∧ ∀ H' t, Same H H' → H' t = none → Q (.ref t) (upd H' t (.tup [.str c, v]))
def TTried (K : PySem.W.Frag) (CT CM : Addr) : (XK → Hp → VK → Prop) → Hp → VK → Prop := fun tl H Q => tl (wTried K CT CM Q) H (fun v H' => [V.str (Str.ofString ""), v].length ≤ sizeLine ∧ ∀ t, H' t = none → Q (.ref t) (upd H' t (.tup [.str (Str.ofString ""), v])))
theorem takes_len {X : Cx} {W : WX} (tk : Takes X W) : Takes X (fun cls d σ H => σ.length = X.N.length → W cls d σ H) := by
  rintro u s ⟨a, B, s0, pins, σ, H, cls, d, e, inv, ground, slots, sky, new, os, bare, wish⟩
  exact tk u s ⟨a, B, s0, pins, σ, H, cls, d, e, inv, ground, slots, sky, new, os, bare, wish inv.len⟩
section
variable {X : Cx}
theorem tried_gives {g fF CT CM : Addr} {cdg : Value} {q : Str} {kV doc pm cdv ct oc : Value} {an od : Option Addr} {osl : Array (Option Value)} {k : Nat}
    (mT : X.mg "ThreadError" = some (.ref CT)) (mM : X.mg "Missing" = some (.ref CM))
    (written : X.K.lookup fF = some ⟨oc, od, .func (PySem.W.fnOf "_law_field" "_law_field" (defArgs sField) (defBody sField) (defScope sField) .none kV doc pm an cdv ct), osl⟩) (code : PySem.W.codeIn X.K cdv "_law_field" = true)
    (binds : L2.Binds X.K (PySem.W.fnOf "_law_field" "_law_field" (defArgs sField) (defBody sField) (defScope sField) .none kV doc pm an cdv ct) ["_law_e"] []) (holds : X.mg "_law_field" = some (.ref fF)) (kept : PySem.W.keepIn X.K (.ref fF) = true) (room : Room (k + 3) X.A) :
    GivesTo X ["_law_ask", "_law_e"] "_law_tried" (defScope sTried) g cdg (defBody sTried) "_law_ask" q (TTried X.K CT CM) := by
  intro f c' s H Q tl act hc ask
  have suite : ∀ (a : Addr) (oe : Obj) (cls : Value) (d : Option Addr) (pn : List (Addr × Obj)) (p1 p2 p3 p4 p5 p6 p7 : Pos) (k0 : Nat), Zc cls d oe → (∃ vs, oe.data = .fields vs) →
      PSs ((cxOf C8.CX0 X.prog X.w X.K X.mg X.base ["_law_ask", "_law_e"] "_law_tried" (defScope sTried) g cdg X.A X.stack s H C8.E0).nox.suite a ((a, oe) :: pn))
        [.Return (some (.Tuple [.Attribute (.Name "_law_e" p1) "code" p2, .Call (.Name "_law_field" p3) [.Name "_law_e" p4] [] p5] k0 p6)) p7]
        (tRet (tTup (tCons (tXfA X.K a cls d "code" (tVar 1)) (tCons (fun σ H Q => tVar 1 σ H fun v H1 => [v] = [V.ref a] ∧ spFieldE X.K cls d H1 Q) tNil)))) := by
    intro a oe cls d pn p1 p2 p3 p4 p5 p6 p7 k0 is flds
    refine pss_one (ps_ret (pe_tup (pa_cons (pe_pinned List.mem_cons_self is flds (pv 1)) (pa_cons (pe_given (k := 0) written code scField binds rfl holds kept ?_ (fun outer s2 H2 Q2 _ told => walk_field is flds told) (pv 1)) pa_nil))))
    have r := (roomH_of (room.deeper (envOfC "_law_tried" (defScope sTried) s.heap.objs.size g cdg))).mono (show 1 ≤ k + 2 by omega)
    exact ⟨r.dp, r.un⟩
  refine ⟨_, pss_one (ps_try_named (X := (cxOf C8.CX0 X.prog X.w X.K X.mg X.base ["_law_ask", "_law_e"] "_law_tried" (defScope sTried) g cdg X.A X.stack s H C8.E0).nox) (i := 1) (n := "_law_e")
      (tb := fun W D σ H => ∃ Ech : XK, (∀ cls d σ' H', Ech cls d H' → σ'.length = 2 → W cls d σ' H') ∧ σ[0]? = some (some (.ref f)) ∧ H c' = some (CodeO c' q) ∧ tl Ech H (fun v H' => [V.str (Str.ofString ""), v].length ≤ sizeLine ∧ ∀ t, H' t = none → D.rt (.ref t) (upd H' t (.tup [.str (Str.ofString ""), v]))))
      rfl rfl scTried.nd rfl rfl LamX.takes0 (fun W pn xe tk _ => ?body)
      (.cons ⟨rfl, by decide, .inl mT⟩ (fun a oe cls d pn is fl => suite a oe cls d pn _ _ _ _ _ _ _ _ is fl) (.cons ⟨rfl, by decide, .inl mM⟩ (fun a oe cls d pn is fl => suite a oe cls d pn _ _ _ _ _ _ _ _ is fl) .nil))), ?reads⟩
  case body =>
    refine ⟨fun pins s1 σ1 H1 D inv1 ask1 => ?_⟩
    obtain ⟨Ech, wish, slot, code1, rest⟩ := ask1
    have calls := fun p1 p2 => act (fun cls d σ H => σ.length = 2 → W cls d σ H) pn xe Ech p1 p2 (takes_len tk) (fun cls d σ' H' e => wish cls d σ' H' e)
    exact (pss_one (ps_ret (pe_tup (pa_cons pe_str (pa_cons (calls _ _) pa_nil))))).run pins s1 σ1 H1 D inv1 ⟨slot, code1, rest⟩
  case reads =>
    refine ⟨wTried X.K CT CM Q, ?_, rfl, hc, ask⟩
    rintro cls d σ' H' ⟨b, kind, other, c, v, ex, out⟩ len
    have told : ∀ a, H' a = none → tRet (tTup (tCons (tXfA X.K a cls d "code" (tVar 1)) (tCons (fun σ H Q => tVar 1 σ H fun v H1 => [v] = [V.ref a] ∧ spFieldE X.K cls d H1 Q) tNil))) (nameless 1 { nx := fun _ H' => Q .non H', rt := Q }) (σ'.set 1 (some (.ref a))) H' := by
      intro a new
      have at1 : (σ'.set 1 (some (.ref a)))[1]? = some (some (V.ref a)) := by rw [List.getElem?_set_self (by omega)]
      obtain ⟨C, dd, fs, h1, h2, h3, h4, h5, h6, h7⟩ := ex.ex
      refine ⟨_, at1, rfl, C, dd, fs, _, h1, h2, h3, h4, h5, h6, _, at1, rfl, c, v, ex, fun H2 same => ⟨(by show 2 ≤ sizeLine; decide), fun t nt => out H2 t same nt⟩⟩
    refine ⟨b, kind, fun _ a new => told a new, fun hb => ?_⟩
    exact ⟨true, other hb, fun _ a new => told a new, fun z => Bool.noConfusion z⟩
end


end T77

/-! a lambda with one default, which its body does not read, handed to a def -/
namespace Tm
open PySem PySem.Spec PyProof.Rows L2 LamX
/-- its own names are none of the maker's; the others are the maker's cells, or global -/
structure LamD (names : List Str) (sc scope : Scope) : Prop where
  isFn : scope.kind = .function
  plain : scope.isCoroutine = false ∧ scope.isGenerator = false
  each : ∀ y ∈ scope.names, y.2 ≠ .cell ∧ (y.2 = .local → y.1 ∉ names) ∧ (y.2 = .free → sc.names.lookup y.1 = some .cell ∨ sc.names.lookup y.1 = some .free)
def lamDB (names : List Str) (sc scope : Scope) : Bool := decide (scope.kind = .function) && (!scope.isCoroutine && !scope.isGenerator) && decide (∀ y ∈ scope.names, y.2 ≠ .cell ∧ (y.2 = .local → y.1 ∉ names) ∧ (y.2 = .free → sc.names.lookup y.1 = some .cell ∨ sc.names.lookup y.1 = some .free))
theorem lamD_by {names : List Str} {sc scope : Scope} (h : lamDB names sc scope = true) : LamD names sc scope := by
  unfold lamDB at h
  rw [Bool.and_eq_true, Bool.and_eq_true, Bool.and_eq_true] at h
  exact ⟨of_decide_eq_true h.1.1, ⟨by simpa using h.1.2.1, by simpa using h.1.2.2⟩, of_decide_eq_true h.2⟩
theorem clo_cell {cells : List (Str × Addr)} {names : List (Str × NameKind)} {y : Str} {c : Addr} (has : ∀ z ∈ names, z.2 = .free → ∃ d, cells.lookup z.1 = some d) (h : (cloFrom cells names []).lookup y = some c) : cells.lookup y = some c := by
  rcases cloFrom_mem (PySem.mem_of_lookup h) with z | ⟨m, e⟩
  · exact absurd z List.not_mem_nil
  · obtain ⟨d, hd⟩ := has (y, .free) m rfl
    have hd' : cells.lookup y = some d := hd
    rw [hd'] at e
    rw [hd', e]
    rfl
theorem clo_has (cells : List (Str × Addr)) {names : List (Str × NameKind)} {y : Str} (h : names.lookup y = some .free) : ∃ c, (cloFrom cells names []).lookup y = some c := mem_lookup (cloFrom_has (PySem.mem_of_lookup h))
section
variable {X : Cx} {s s1 : Shared} {H HZ : Hp} {σ : L2.St} {pins : List (Addr × Obj)}
theorem LamD.has {scope : Scope} (L : LamD X.N X.env.scope scope) (ok : X.Ok) : ∀ y ∈ scope.names, y.2 = .free → ∃ c, X.env.cells.lookup y.1 = some c := fun y hy e => ok.has _ ((L.each y hy).2.2 e)
/-- the body of the lambda begins: its frame is at the end of the heap -/
theorem lamD_enters {A : Around} {outer : List Env} {E : XK} {scope : Scope} {f c' : Addr} {h₁ : Heap} {tk : Nat} {m : Str → Option Value} (I : Inv X pins σ H s) (L : LamD X.N X.env.scope scope) (at_ : Env0 X.prog X.w X.K X.mg X.base A outer s1 HZ) (calm : A.handled = none)
    (since : Un (frs X.stack) [] H HZ s.heap s1.heap) (frame : h₁.Ns s1.heap.objs.size m) (grows : ∀ b o, s1.heap.get? b = some o → h₁.get? b = some o) : Inv (lamCx X A outer s1 HZ E scope f c') [] σ HZ { s1 with heap := h₁, toks := tk } := by
  have cellOf : ∀ {y : Str} {c : Addr}, (cloFrom X.env.cells scope.names []).lookup y = some c → X.env.cells.lookup y = some c := fun e => clo_cell (L.has I.ok) e
  have stays : ∀ {y : Str} {c : Addr} {v : Option Value}, X.env.cells.lookup y = some c → s.heap.IsCell c v → h₁.IsCell c v := by
    rintro y c v hc ⟨o, ho, hd⟩
    obtain ⟨sl, later⟩ := since.any ho (I.freeC y c hc) List.not_mem_nil
    exact ⟨_, grows _ _ later, hd⟩
  have empty : ∀ {P : Prop} (b : Addr), b ∈ (lamCx X A outer s1 HZ E scope f c').ex → P := fun b hb => absurd (show b ∈ ([] : List Addr) from hb) List.not_mem_nil
  have notCell : ∀ {y : Str} {P : Prop}, scope.names.lookup y = some .cell → P := fun h => absurd rfl (L.each _ (PySem.mem_of_lookup h)).1
  exact {
    ok := {
      mod := at_.mod
      kind := L.isFn
      glob := rfl
      blt := rfl
      above := Nat.le_refl _
      inj := fun y z c hy hz => I.ok.inj y z c (cellOf hy) (cellOf hz)
      has := fun y hy => Or.elim (show scope.names.lookup y = some .cell ∨ scope.names.lookup y = some .free from hy) notCell (clo_has X.env.cells)
      cab := fun y c z _ => Bool.noConfusion (show false = true from z)
      hd := fun _ => calm
      frames := Around.frames_deeper at_.frames
      stk := Or.inr ⟨rfl, rfl⟩
      exf := fun b hb => empty b hb
      bs := at_.bs
      bsz := at_.bsz
      noex := fun b _ _ hb => empty b hb
      exfs := fun b hb => empty b hb
      funs := at_.funs
      frf := at_.frf }
    os := rfl
    bare := at_.bare
    base := Un.kept grows
    loc := by
      refine ⟨m, frame, fun i y v hi hv vis => ?_⟩
      rcases (show scope.names.lookup y = some .local ∨ scope.names.lookup y = some .cell ∨ scope.names.lookup y = some .free from vis) with own | z | taken
      · exact absurd (List.mem_of_getElem? hi) ((L.each _ (PySem.mem_of_lookup own)).2.1 rfl)
      · exact notCell z
      · have there := (L.each _ (PySem.mem_of_lookup taken)).2.2 rfl
        obtain ⟨m0, _, slots⟩ := I.loc
        obtain ⟨u, rel, look⟩ := slots i y v hi hv (Or.inr there)
        obtain ⟨d, hd⟩ := clo_has X.env.cells taken
        refine ⟨u, rel, Or.inr ⟨Or.inr taken, d, hd, ?_⟩⟩
        rcases look with ⟨isLocal, _⟩ | ⟨_, d2, hd2, holds⟩
        · have isLocal : X.env.scope.names.lookup y = some .local := isLocal
          rcases there with z | z
          · rw [isLocal] at z; cases z
          · rw [isLocal] at z; cases z
        · have same : d2 = d := Option.some.inj (hd2.symm.trans (cellOf hd))
          rw [← same]
          exact stays hd2 holds
    cell := fun y c hc => by
      obtain ⟨v, is⟩ := I.cell y c (cellOf hc)
      exact ⟨v, stays (cellOf hc) is⟩
    free := at_.hok.fresh (Nat.le_refl _)
    freeC := fun y c hc => by
      obtain ⟨v, o, ho, _⟩ := I.cell y c (cellOf hc)
      exact since.free c o ho (I.freeC y c (cellOf hc)) List.not_mem_nil
    pin := fun p hp => absurd (show p ∈ ([] : List (Addr × Obj)) ++ [] from hp) (by simp)
    hok := at_.hok.kept grows
    len := I.len }
/-- the lambda called where it was handed to -/
theorem pe_askD {Ng : List Str} {qg : Str} {sg : Scope} {g f c' t : Addr} {cdg u doc pm ctv : Value} {params : Arguments} {body : Expr} {scope : Scope} {k i : Nat} {a own : Str} {pn : List (Addr × Obj)} {xe : Value → Shared → Prop} {W : WX} {E : XK} {tb : TE} {p1 p2 : Pos}
    (I : Inv X pins σ H s) (L : LamD X.N X.env.scope scope) (made : s.heap.get? f = some (PySem.W.kdv_obj "<lambda>" (X.env.qual ++ "<lambda>") params (.expr body) scope (cloFrom X.env.cells scope.names []) (.ref t) doc pm c' ctv)) (fNew : H f = none) (fOut : f ∉ frs X.stack)
    (dflt : s.heap.get? t = some (PySem.W.kdv_tup [u])) (tNew : H t = none) (tOut : t ∉ frs X.stack)
    (binds : ∀ fd : FuncData, fd = PySem.W.kdv_fn "<lambda>" (X.env.qual ++ "<lambda>") params (.expr body) scope (cloFrom X.env.cells scope.names []) (.ref t) doc pm (.ref c') ctv → ∃ k, bindArgs fd ⟨[], []⟩ = seqItems? fd.defaults >>= k ∧ k (some [u].toArray) = pure [(own, u)])
    (isOwn : scope.names.lookup own = some .local)
    (tk : Takes ((cxOf C8.CX0 X.prog X.w X.K X.mg X.base Ng qg sg g cdg X.A X.stack s H C8.E0).tr pn xe) W) (wish : ∀ cls d σ' H', E cls d H' → W cls d σ' H') (room : Room (k + 1) (X.A.deeper (envOfC qg sg s.heap.objs.size g cdg)))
    (reads : ∀ (A : Around) (outer : List Env) (s : Shared) (H : Hp), Room k (A.deeper (lamEnv X scope s.heap.objs.size f c')) → PE (lamCx X A outer s H E scope f c') body tb)
    (slot : Ng[i]? = some a) (seen : Vis sg a) (hd : (a == ("__debug__" : Str)) = false := by decide) (hcd : (a == ("__classdict__" : Str)) = false := by decide) :
    PE ((cxOf C8.CX0 X.prog X.w X.K X.mg X.base Ng qg sg g cdg X.A X.stack s H C8.E0).tr pn xe) (.Call (.Name a p1) [] [] p2)
      (fun slots heap want => slots[i]? = some (some (.ref f)) ∧ heap c' = some (CodeO c' (X.env.qual ++ "<lambda>")) ∧ tb σ heap want) := by
  constructor
  rintro pinsZ sZ σZ HZ Q IZ ⟨atSlot, code, told⟩
  refine wpAny_Call_Name_kw ?_
  have name := (pe_var (pos := p1) (i := i) slot seen hd hcd).run pinsZ sZ σZ HZ (fun v H1 => v = .ref f ∧ H1 = HZ) IZ ⟨_, atSlot, rfl, rfl⟩
  refine thn name ?_
  rintro v0 s1 ⟨v, H1, I1, rel, rfl, rfl⟩
  obtain rfl : v0 = Value.ref f := rel
  have noEx : ∀ b : Addr, b ∉ ([] : List Addr) := fun _ => List.not_mem_nil
  have f1 := I1.base.keep f _ made fNew fOut (noEx f)
  have t1 := I1.base.keep t _ dflt tNew tOut (noEx t)
  refine PySem.W.callWith_F0 ⟨_, _, _, _, f1⟩ (wpAny_call ?_)
  obtain ⟨⟨oc, cells, tok, hoc, hdata, hname⟩, _, _⟩ := I1.hok c' _ code
  obtain ⟨next, b1, b2⟩ := binds _ rfl
  have bound : BindsTo s1 (PySem.W.kdv_fn "<lambda>" (X.env.qual ++ "<lambda>") params (.expr body) scope (cloFrom X.env.cells scope.names []) (.ref t) doc pm (.ref c') ctv) ⟨[], []⟩ [(own, u)] := BindsTo.of_defaults rfl t1 rfl b1 b2
  have run : codeAny (model X.prog X.w) (X.A.deeper (envOfC qg sg s.heap.objs.size g cdg)) (.call (.ref f) ⟨[], []⟩) (CR (L2.CX X.prog X.w) (envOfC qg sg s.heap.objs.size g cdg :: X.stack) X.prog X.w H1 s1 Q E) s1 := by
    refine PySem.W.kla_callFunE room.depth f1 rfl L.plain.1 L.plain.2 rfl ⟨c', oc, cells, tok, rfl, hoc, hdata, hname⟩ (bound _ _ _ _ ?_)
    refine wpAny_newFunctionEnv (fun y hy => (L.each y hy).1) (fun y hy => ?_) (fun h₁ ns but => ⟨I1.nolimit.fresh _ but, ?_⟩) L.isFn
    · rw [List.mem_singleton.mp hy]
      exact isOwn
    · have grows : ∀ b o, s1.heap.get? b = some o → h₁.get? b = some o := fun b o e => but.extBut b o (Nat.ne_of_lt (Heap.lt_size e)) (Heap.get?_push_of_some _ e)
      refine PySem.W.kla_codeExpr ?_
      have inside := lamD_enters (E := E) (f := f) (c' := c') (tk := s1.toks + [(own, u)].length) I L I1.env0 room.hd I1.base ns grows
      refine wpAny_mono ((reads _ _ s1 H1 (room.deeper _)).run [] _ _ H1 Q inside told) ?_ (fun _ _ x => x)
      rintro v1 s2 ⟨w1, H2, I2, r2, q2⟩
      exact ⟨w1, H2, I2.os, I2.bare, I2.base, I2.hok, r2, q2⟩
  refine codeAny_mono run ?_
  rintro (err | flow) s2 done
  · exact passes_call tk wish pinsZ σZ H1 s1 err s2 I1 done
  · cases flow with
    | ret v2 => exact I1.after done
    | next => exact done.elim
    | brk => exact done.elim
    | cont => exact done.elim
/-- the table with one more code object of the name q -/
theorem tabs_more {T : List (Addr × Str)} {P c' : Addr} {q : Str} {ps : Array Value} {l1 l2 : Nat} {pos : Pos} (all : Tabs T H) (only : ∀ p ∈ T, p.1 = P → p.2 = q) (at_ : H P = some (.tbl ps)) (ok : TriplesOk ps.toList) (named : ∀ (pos : Pos) (cv : Value), codeAmong pos ps.toList = some cv → ∃ c, cv = .ref c ∧ H c = some (CodeO c q)) (new : H c' = none) :
    ExtN H (upd (upd H P (.tbl (ps ++ #[rawInt pos.line, rawInt pos.col, .ref c']))) c' (CodeO c' q)) ∧ Tabs T (upd (upd H P (.tbl (ps ++ #[rawInt pos.line, rawInt pos.col, .ref c']))) c' (CodeO c' q)) := by
  have ext : ExtN H (upd (upd H P (.tbl (ps ++ #[rawInt pos.line, rawInt pos.col, .ref c']))) c' (CodeO c' q)) := by
    intro b o hb noTab
    have n1 : b ≠ c' := ne_of_none hb new
    have n2 : b ≠ P := by
      rintro rfl
      exact noTab ps (Option.some.inj (hb.symm.trans at_))
    rw [upd_ne n1, upd_ne n2]
    exact hb
  refine ⟨ext, fun p hp => ?_⟩
  by_cases here : p.1 = P
  · have eL : (ps ++ #[rawInt pos.line, rawInt pos.col, .ref c']).toList = ps.toList ++ [rawInt pos.line, rawInt pos.col, .ref c'] := Array.toList_append
    rw [only p hp here, here]
    refine ⟨ps ++ #[rawInt pos.line, rawInt pos.col, .ref c'], ?_, ?_, ?_⟩
    · rw [upd_ne (ne_of_none at_ new), upd_same]
    · rw [eL]
      exact PySem.TriplesOk_snoc _ _ _ _ ok
    · intro pos' cv hcv
      rw [eL] at hcv
      rcases among_app _ ok hcv with old | rfl
      · obtain ⟨c0, e0, h0⟩ := named pos' cv old
        exact ⟨c0, e0, ext _ _ h0 codeO_ne⟩
      · exact ⟨c', rfl, upd_same⟩
  · obtain ⟨ps', h1, h2, h3⟩ := all p hp
    refine ⟨ps', ?_, h2, fun pos' cv hcv => ?_⟩
    · rw [upd_ne (ne_of_none h1 new), upd_ne here]
      exact h1
    · obtain ⟨c0, e0, h0⟩ := h3 pos' cv hcv
      exact ⟨c0, e0, ext _ _ h0 codeO_ne⟩
theorem far {f : Addr} (I : Inv X pins σ H s) (h : s.heap.objs.size ≤ f) : f ∉ frs X.stack := fun z => by
  have on := I.stkSub _ z
  rw [List.mem_cons] at on
  cases on with
  | inl e =>
    have lt := I.lt
    rw [← e] at lt
    exact absurd (Nat.lt_of_lt_of_le lt h) (Nat.lt_irrefl _)
  | inr e => exact I.nofs h e
/-- lambda a=e: .. is made -/
theorem madeD {T : List (Addr × Str)} {c P : Addr} {params : Arguments} {body e : Expr} {scope : Scope} {pos : Pos} {te : TE} {Q : Value → Shared → Prop} (I : Inv X pins σ H s) (TB : TabB X.base X.mg c P) (hcode : X.env.code = .ref c)
    (mem : (P, X.env.qual ++ "<lambda>") ∈ T) (only : ∀ p ∈ T, p.1 = P → p.2 = X.env.qual ++ "<lambda>") (L : LamD X.N X.env.scope scope) (one : params.defaults = [e]) (noKw : params.kw_defaults = []) (told : PE X e te)
    {R : VK} (ask : te σ H R) (then_ : ∀ v H0, R v H0 → Tabs T H0 ∧ ∀ (f c' t : Addr) (u pm ctv doc : Value) (H1 : Hp) (s' : Shared), Inv X pins σ H1 s' → ExtN H0 H1 → Tabs T H1 →
      s'.heap.get? f = some (PySem.W.kdv_obj "<lambda>" (X.env.qual ++ "<lambda>") params (.expr body) scope (cloFrom X.env.cells scope.names []) (.ref t) doc pm c' ctv) → H1 f = none → f ∉ frs X.stack →
      s'.heap.get? t = some (PySem.W.kdv_tup [u]) → H1 t = none → t ∉ frs X.stack → H1 c' = some (CodeO c' (X.env.qual ++ "<lambda>")) → Q (.ref f) s') :
    wpAny (model X.prog X.w) X.A (eval (.Lambda params body scope pos) X.env) Q X.xe s := by
  refine PySem.W.kdv_lam (by rw [one]; rfl) noKw ?_
  rw [one]
  refine PySem.W.kdv_all1 (thn (told.run pins s σ H _ I ask) ?_)
  rintro u s0 ⟨v, H0, I0, _, asked⟩
  obtain ⟨all, hand⟩ := then_ v H0 asked
  refine PySem.W.kdv_all0 ?_
  rw [makeFunction_eq]
  simp only [List.zip_nil_right, List.filterMap_nil, List.isEmpty_nil, List.isEmpty_cons, if_true, pure_bind, Bool.false_eq_true, if_false]
  apply wpAny_bind
  apply wpAny_newTextTuple
  have I2 : Inv X pins σ H0 { s0 with heap := s0.heap.push (PySem.W.kdv_tup [u]) } := I0.kept (t' := s0.toks) (fun b o hb => Heap.get?_push_of_some _ hb)
  have t2 : (s0.heap.push (PySem.W.kdv_tup [u])).get? s0.heap.objs.size = some (PySem.W.kdv_tup [u]) := Heap.get?_push_size _ rfl
  have tFree : H0 s0.heap.objs.size = none := I0.hok.fresh (Nat.le_refl _)
  have tFar : s0.heap.objs.size ∉ frs X.stack := far I0 (Nat.le_refl _)
  obtain ⟨ps, hP, ok, named⟩ := all _ mem
  have atP : (s0.heap.push (PySem.W.kdv_tup [u])).get? P = some { cls := .none, data := .fields ps } := I2.hok P _ hP
  cases found : codeAmong pos ps.toList with
  | none =>
    refine PySem.W.kdv_makeTail (mg := X.mg) (c := c) (P := P) (ps := ps) (closure_ok (L.has I.ok)) I2.ok.glob (I2.mod.glob.keeps I2.bk) hcode (TB.code.keeps I2.bk) atP ok found TB.gP (TB.bm.keeps I2.bk) ?_
    intro c' ctv doc h' tk but ge lt rec_ grown
    obtain ⟨c2, oc, vs, tok, e2, hoc, hdata, hname⟩ := rec_
    cases e2
    have cFree : H0 c' = none := I2.hok.fresh ge
    have big : (s0.heap.push (PySem.W.kdv_tup [u])).objs.size ≤ h'.objs.size := Nat.le_trans ge (Nat.le_of_lt lt)
    have tabs := tabs_more (l1 := 0) (l2 := 0) (pos := pos) all only hP ok named cFree
    have I3 := inv_table (t' := tk) (more := #[rawInt pos.line, rawInt pos.col, .ref c']) (h' := h'.push (PySem.W.kdv_obj "<lambda>" (X.env.qual ++ "<lambda>") params (.expr body) scope (cloFrom X.env.cells scope.names []) (.ref s0.heap.objs.size) doc ((X.mg "__name__").getD .none) c' ctv)) I2 hP
      (fun b o nb hb => Heap.get?_push_of_some _ (but b o nb hb)) (Heap.get?_push_of_some _ grown) ge ⟨oc, vs, tok, Heap.get?_push_of_some _ hoc, hdata, hname⟩
    have tNe : s0.heap.objs.size ≠ P := fun z => by rw [z, hP] at tFree; cases tFree
    have fFree : ∀ {b : Addr}, b ≠ c' → b ≠ P → H0 b = none → (upd (upd H0 P (.tbl (ps ++ #[rawInt pos.line, rawInt pos.col, .ref c']))) c' (CodeO c' (X.env.qual ++ "<lambda>"))) b = none := fun n1 n2 h => by
      rw [upd_ne n1, upd_ne n2]
      exact h
    have tc : s0.heap.objs.size ≠ c' := fun z => by
      have q := Heap.lt_size t2
      rw [z] at q
      exact Nat.lt_irrefl _ (Nat.lt_of_lt_of_le q ge)
    have fP : h'.objs.size ≠ P := fun z => by
      have q := Heap.lt_size atP
      rw [← z] at q
      exact Nat.lt_irrefl _ (Nat.lt_of_lt_of_le q big)
    exact hand _ c' _ u _ ctv doc _ _ I3 tabs.1 tabs.2 (Heap.get?_push_size _ rfl) (fFree (Nat.ne_of_gt lt) fP (I2.hok.fresh big)) (far I2 big) (Heap.get?_push_of_some _ (but _ _ tNe t2)) (fFree tc tNe tFree) tFar upd_same
  | some cv =>
    obtain ⟨c', rfl, hco⟩ := named pos cv found
    refine PySem.W.kdv_makeTailHit (mg := X.mg) (c := c) (P := P) (ps := ps) (closure_ok (L.has I.ok)) I2.ok.glob (I2.mod.glob.keeps I2.bk) hcode (TB.code.keeps I2.bk) atP ok found (TB.bm.keeps I2.bk) ?_
    intro ctv doc h' tk grows big
    have I3 : Inv X pins σ H0 { s0 with heap := h'.push (PySem.W.kdv_obj "<lambda>" (X.env.qual ++ "<lambda>") params (.expr body) scope (cloFrom X.env.cells scope.names []) (.ref s0.heap.objs.size) doc ((X.mg "__name__").getD .none) c' ctv), toks := tk } := I2.kept fun b o hb => Heap.get?_push_of_some _ (grows b o hb)
    exact hand _ c' _ u _ ctv doc H0 _ I3 (ExtN.refl H0) all (Heap.get?_push_size _ rfl) (I2.hok.fresh big) (far I2 big) (Heap.get?_push_of_some _ (grows _ _ t2)) tFree tFar hco
end
def tLamD (T : List (Addr × Str)) (TT : (XK → Hp → VK → Prop) → Hp → VK → Prop) (te : TE) (t : XK → TE) : TE := fun σ H Q => te σ H fun _ H0 => Tabs T H0 ∧ ∀ H1, ExtN H0 H1 → Tabs T H1 → TT (fun E H' Q' => t E σ H' Q') H1 Q
/-- x(lambda a=e: body) -/
theorem pe_lamD {X : Cx} {T : List (Addr × Str)} {TT : (XK → Hp → VK → Prop) → Hp → VK → Prop} {x a own : Str} {g c P : Addr} {k : Nat} {pg : Arguments} {bg : List Stmt} {sg : Scope} {dV kV doc pm cdv ct oc : Value} {an od : Option Addr} {osl : Array (Option Value)} {Ng : List Str}
    {params : Arguments} {body e : Expr} {scope : Scope} {te : TE} {t : XK → TE} {p lpos pos : Pos} (isG : Gl X x) (is : X.mg x = some (.ref g)) (kept : PySem.W.keepIn X.K (.ref g) = true)
    (written : X.K.lookup g = some ⟨oc, od, .func (PySem.W.fnOf x x pg bg sg dV kV doc pm an cdv ct), osl⟩) (hcode : PySem.W.codeIn X.K cdv x = true) (binds : L2.Binds X.K (PySem.W.fnOf x x pg bg sg dV kV doc pm an cdv ct) [a] []) (scG : FnScope Ng [a] sg) (slot : Ng[0]? = some a) (seen : Vis sg a)
    (gives : GivesTo X Ng x sg g cdv bg a (X.env.qual ++ "<lambda>") TT)
    (TB : TabB X.base X.mg c P) (mine : X.env.code = .ref c) (mem : (P, X.env.qual ++ "<lambda>") ∈ T) (only : ∀ p ∈ T, p.1 = P → p.2 = X.env.qual ++ "<lambda>") (room : Room (k + 2) X.A) (L : LamD X.N X.env.scope scope) (one : params.defaults = [e]) (noKw : params.kw_defaults = []) (told : PE X e te)
    (bindL : ∀ (q : Str) (cl : List (Str × Addr)) (dv doc pm cv ctv u : Value), ∃ k, bindArgs (PySem.W.kdv_fn "<lambda>" q params (.expr body) scope cl dv doc pm cv ctv) ⟨[], []⟩ = seqItems? dv >>= k ∧ k (some [u].toArray) = pure [(own, u)]) (isOwn : scope.names.lookup own = some .local)
    (reads : ∀ (A : Around) (outer : List Env) (s : Shared) (H : Hp) (E : XK) (f c' : Addr), Room k (A.deeper (lamEnv X scope s.heap.objs.size f c')) → PE (lamCx X A outer s H E scope f c') body (t E))
    (hd : (a == ("__debug__" : Str)) = false := by decide) (hcd : (a == ("__classdict__" : Str)) = false := by decide) (hdb : (x == ("__debug__" : Str)) = false := by decide) : PE X (.Call (.Name x p) [.Lambda params body scope lpos] [] pos) (tLamD T TT te t) := by
  constructor
  intro pins s σ H Q I ask
  refine wpAny_Call_Name_kw (ld_glob I isG is (PySem.W.callWith_K (h₀ := X.base) I.ok.mod.kin kept ?_ (by rfl) (by rfl)) hdb)
  apply Calls.spliced_cons (x := eval (.Lambda params body scope lpos) X.env) (rest := backTo pos (starEach [] X.env))
  refine madeD I TB mine mem only L one noKw told ask ?_
  rintro v0 H0 ⟨all, rest⟩
  refine ⟨all, fun f c' t0 u pm' ctv doc' H1 s1 I1 ext tabs made fNew fOut dflt tNew tOut code => ?_⟩
  refine Calls.spliced_nil ⟨I1.kIn, wpAny_call ?_⟩
  have run : codeAny (model X.prog X.w) X.A (.call (.ref g) ⟨[.ref f], []⟩) (CR C8.CX0 X.stack X.prog X.w H1 s1 Q C8.E0) s1 := by
    refine run_ofS (N := Ng) (ps := [a]) (us := [.ref f]) (vs := [.ref f]) written hcode scG room I1.env0 (binds s1 [.ref f] I1.kIn rfl) (.cons rfl .nil) rfl fun inner => ?_
    have act := gives f c' s1 H1 Q (fun E H' Q' => t E σ H' Q') (fun W pn xe E p1 p2 tk wish => pe_askD (i := 0) I1 L made fNew fOut dflt tNew tOut
      (fun fd e => by subst e; exact bindL _ _ _ _ _ _ _ u) isOwn tk wish inner (fun A outer s H r => reads A outer s H E f c' r) slot seen hd hcd) code (rest H1 ext tabs)
    obtain ⟨t', walk, ends⟩ := act
    exact ⟨t', walk.nox, ends⟩
  refine codeAny_mono run ?_
  rintro (err | flow) s2 done
  · exact (show False from done).elim
  · cases flow with
    | ret v2 => exact I1.after done
    | next => exact done.elim
    | brk => exact done.elim
    | cont => exact done.elim
end Tm

/-! the errors of strings, as _law_tried tells them -/
namespace Tm
open PySem PySem.Spec PyProof.Rows L2
theorem exc_badS {K : PySem.W.Frag} {CI d : Addr} {H : Hp} {x : List Nat} (xf : XfC K CI) (nc : PySem.W.findIn K (.ref CI) "code" = some none) (nv : PySem.W.findIn K (.ref CI) "value" = some none) (hd : H d = some (.xd (badS x))) : ExcIs K (.ref CI) (some d) H "invalidstring" (tv x) := by
  have ea : attrOf "invalidstring" = some "value" := by decide +kernel
  refine ⟨CI, d, _, rfl, xf, nc, rfl, hd, ?_, ?_⟩
  · have h1 : (("code" : Str) == "value") = false := by decide +kernel
    have h2 : (("code" : Str) == "code") = true := by decide +kernel
    simp only [badS, List.lookup_cons, h1, h2]
  · rw [ea]
    have h3 : (("value" : Str) == "value") = true := by decide +kernel
    exact ⟨nv, by simp only [badS, List.lookup_cons, h3]⟩
theorem exc_badL {K : PySem.W.Frag} {CL d : Addr} {H : Hp} (xf : XfC K CL) (nc : PySem.W.findIn K (.ref CL) "code" = some none) (hd : H d = some (.xd badL)) : ExcIs K (.ref CL) (some d) H "lengthmismatch" .non := by
  have ea : attrOf "lengthmismatch" = none := by decide +kernel
  refine ⟨CL, d, _, rfl, xf, nc, rfl, hd, ?_, ?_⟩
  · have h2 : (("code" : Str) == "code") = true := by decide +kernel
    simp only [badL, List.lookup_cons, h2]
  · rw [ea]
    exact rfl
end Tm

/-! sets of texts -/
namespace Tm
open PySem PySem.Spec PyProof.Rows L2 PySem.Froz
section
variable {P : Program} {w : World} {A : Around} {E : Value → Shared → Prop} {s : Shared}
/-- the payload of a set that was just made -/
def fresh (w : World) : SD := (#[], 0, .fresh 0 0 (!w.params.followText "set-order"))
theorem new_set1 (v : Value) {Q : Value → Shared → Prop} (h : Q (.ref s.heap.objs.size) { s with heap := s.heap.push (sObj "set" (fresh w)) }) :
    codeAny (model P w) A (.call (.builtin "set.__new__") ⟨[.type "set", v], []⟩) (wants Q E) s := by
  refine codeAny_call_builtin PySem.F.plain_set_new PySem.F.entry_set_new (wpAny_of_eq (PySem.F.newCall_set_1 v) ?_)
  unfold Builtin.«set.__new__» Builtin.Frozenset.newClass
  have sub := PySem.sub_set_self
  repeat any_goals first | assumption | wp_step
  apply wpAny_askSetting
  apply wpAny_pure
  simp only [newObj]
  apply wpAny_bind
  apply wpAny_alloc
  apply wpAny_pure
  exact wpAny_pure h
/-- a text that is there already -/
theorem add_old {a : Addr} {T : String} {D : SD} {l : List Str} {k : Str} {u : Tok} {Q : Bool → Shared → Prop} (there : s.heap.get? a = some (sObj T D)) (F : TxOk P w D l) (hk : k ∈ l) (few : l.length < scanBound) (h : Q false s) :
    wpAny (model P w) A (setAddHashed a (.str k u) (hashStr w k)) Q E s := by
  obtain ⟨es, ep, t⟩ := D
  have size : es.size < scanBound := by rw [show es.size = l.length from F.sz]; exact few
  obtain ⟨e, he, hit⟩ := (F.mem k).mp hk
  have found : ∃ j, es.toList.findIdx? (fun e => (strKind P w).is k e.2) = some j := by
    cases q : es.toList.findIdx? (fun e => (strKind P w).is k e.2) with
    | none => exact absurd hit (by simpa using List.findIdx?_eq_none_iff.mp q e he)
    | some j => exact ⟨j, rfl⟩
  obtain ⟨j, at_j⟩ := found
  unfold setAddHashed
  apply wpAny_holding
  show wpAny _ _ (setAddHashedIn a (.str k u) (hashStr w k) (99999 + 1)) _ _ _
  unfold setAddHashedIn
  apply wpAny_bind
  apply wpAny_setState_of there rfl F.fit
  dsimp only
  rw [if_pos (byScan_of (knd := strKind P w) rfl size F.el)]
  apply wpAny_bind
  unfold setAddByScan
  apply wpAny_bind
  apply wpAny_rule
  apply wpAny_bind
  apply wpAny_setScan_of (knd := strKind P w) (k := k) (is_str k u) there rfl F.fit F.el
  rw [at_j]
  apply wpAny_pure
  exact wpAny_pure h
/-- the set of the texts l at a: its table can be walked -/
structure SetTx (w : World) (h : Heap) (a : Addr) (l : List Str) : Prop where
  ex : ∃ D : SD, h.get? a = some (sObj "set" D) ∧ (∀ P : Program, TxOk P w D l) ∧ Ris D.2.2.place.toList ∧ (w.params.followText "set-order" = true ∨ D.2.2.led = true)
  nodup : l.Nodup
theorem SetTx.at {h h' : Heap} {a : Addr} {l : List Str} (S : SetTx w h a l) (k : ∀ o, h.get? a = some o → h'.get? a = some o) : SetTx w h' a l := by
  obtain ⟨⟨D, there, r⟩, nd⟩ := S
  exact ⟨⟨D, k _ there, r⟩, nd⟩
theorem addTx_ris (h : Int) (v : Value) (D : SD) (r : Ris D.2.2.place.toList) : Ris (addTx h v D).2.2.place.toList ∧ (addTx h v D).2.2.led = D.2.2.led := by
  have r1 := layNew_ris D.2.2 D.1 h v r
  have l1 := layNew_led D.2.2 D.1 h v
  unfold addTx tailTx
  generalize layNew D.2.2 D.1 h v = Z at r1 l1 ⊢
  obtain ⟨es1, t1, wd, gave⟩ := Z
  dsimp only at r1 l1 ⊢
  have r2 : Ris (if t1.plain = true then { t1 with plain := false } else t1).place.toList := by
    split
    · exact r1
    · exact r1
  have l2 : (if t1.plain = true then { t1 with plain := false } else t1).led = D.2.2.led := by
    split
    · exact l1
    · exact l1
  generalize (if t1.plain = true then { t1 with plain := false } else t1) = t2 at r2 l2 ⊢
  split
  · exact ⟨relayAll_ris _ _ _, (relayAll_led _ _ _).trans l2⟩
  · exact ⟨r2, l2⟩
/-- the members behind an add -/
def addS (l : List Str) (k : Str) : List Str := if k ∈ l then l else k :: l
theorem add_tx {a : Addr} {l : List Str} {k : Str} {u : Tok} {Q : Bool → Shared → Prop} (S : SetTx w s.heap a l) (few : l.length + 1 < scanBound)
    (h : ∀ h', Heap.SameBut a s.heap h' → SetTx w h' a (addS l k) → ∀ b, Q b { s with heap := h', toks := s.toks + 1 }) : wpAny (model P w) A (setAdd a (.str k u)) Q E s := by
  obtain ⟨⟨D, there, ok, ris, led⟩, nd⟩ := id S
  unfold setAdd
  apply wpAny_holding
  apply wpAny_bind
  apply (strKind P w).pyHash (k := k) (strKind_is _ _ _ _)
  by_cases hk : k ∈ l
  · apply add_old (s := { s with toks := s.toks + 1 }) there (ok P) hk (by omega)
    have e : addS l k = l := if_pos hk
    rw [e] at h
    exact h s.heap (Heap.SameBut.refl _ _) S false
  · apply add_x (s := { s with toks := s.toks + 1 }) there (ok P) hk few
    have e : addS l k = k :: l := if_neg hk
    rw [e] at h
    obtain ⟨r2, l2⟩ := addTx_ris (hashStr w k) (.str k u) D ris
    refine h _ (Heap.SameBut.update s.heap a _) ⟨⟨_, get_upd _ there rfl, fun P => add_ok u (ok P), r2, led.imp id fun z => l2.trans z⟩, List.nodup_cons.mpr ⟨hk, nd⟩⟩ true
theorem addS_len (l : List Str) (k : Str) : (addS l k).length ≤ l.length + 1 := by
  unfold addS
  split
  · exact Nat.le_succ _
  · exact Nat.le_refl _
/-- the loop that puts what an iterator hands out into the set -/
theorem fill_tx {R : Result → Shared → Prop} {I a : Addr} {fp wr : List Addr} {n : Nat} {Pv : Nat → Value → Prop} {St : Nat → Heap → Prop} (xs : List Str) (W : Walks P w A.in1 I fp wr n Pv St) (hn : n = xs.length) (texts : ∀ i v, Pv i v → ∃ x t, xs[i]? = some x ∧ v = .str x t) (apart : a ∉ fp) :
    ∀ (m i : Nat) (l : List Str) (s : Shared), i + m = n → St i s.heap → SetTx w s.heap a l → l.length + m < scanBound →
      (∀ h' tk, (∀ b o, b ∉ a :: wr → s.heap.get? b = some o → h'.get? b = some o) → SetTx w h' a ((xs.drop i).foldl addS l) → R (.ok (.ret .none)) { s with heap := h', toks := tk }) →
      codeAny (model P w) A (.builtin "set.update.loop" ⟨[.ref a, .ref I], []⟩) R s := by
  have apart2 : a ∉ wr := fun z => apart (W.sub a z)
  intro m
  induction m with
  | zero =>
    intro i l s left st S _ hand
    have e : i = n := left
    subst e
    apply codeAny_builtin PyProof.Rows.F.entry_set_update_loop
    rw [Around.under_plainId PyProof.Rows.F.plain_set_update_loop _]
    apply wpAny_bind
    apply W.done s _ _ st
    intro h' tk kept
    apply wpAny_pure
    have none_left : xs.drop i = [] := List.drop_of_length_le (by omega)
    rw [none_left] at hand
    exact hand h' tk (fun b o hb there => kept b o (fun z => hb (List.mem_cons_of_mem _ z)) there) (S.at fun o there => kept a o apart2 there)
  | succ m ih =>
    intro i l s left st S few hand
    apply codeAny_builtin PyProof.Rows.F.entry_set_update_loop
    rw [Around.under_plainId PyProof.Rows.F.plain_set_update_loop _]
    apply wpAny_bind
    apply W.item i s _ _ (by omega) st
    intro v h1 tk1 drawn st1 kept1
    obtain ⟨x, t, at_i, rfl⟩ := texts i v drawn
    apply wpAny_bind
    apply wpAny_holding
    apply add_tx (s := { s with heap := h1, toks := tk1 }) (S.at fun o there => kept1 a o apart2 there) (by omega)
    intro h2 same2 S2 _
    have grown := addS_len l x
    have rest : xs.drop i = x :: xs.drop (i + 1) := by
      have lt : i < xs.length := (List.getElem?_eq_some_iff.mp at_i).1
      rw [List.drop_eq_getElem_cons lt, (List.getElem?_eq_some_iff.mp at_i).2]
    rw [rest] at hand
    refine wpAny_pure ⟨plainId_quiet PyProof.Rows.F.plain_set_update_loop _, ?_⟩
    apply ih (i + 1) (addS l x) { s with heap := h2, toks := tk1 + 1 } (by omega) (W.frame _ _ _ st1 fun b hb o there => ?_) S2 (by omega)
    · intro h' tk kept S'
      refine hand h' tk (fun b o hb there => ?_) S'
      have nb : b ≠ a := fun z => hb (z ▸ List.mem_cons_self)
      exact kept b o hb ((same2.2 b nb).trans (kept1 b o (fun z => hb (List.mem_cons_of_mem _ z)) there))
    · exact (same2.2 b (fun z => apart (z ▸ hb))).trans there
theorem led_or (w : World) : w.params.followText "set-order" = true ∨ (fresh w).2.2.led = true :=
  Decidable.or_iff_not_imp_left.mpr fun no => (congrArg (fun q => !q) (Bool.eq_false_iff.mpr no) :)
set_option maxHeartbeats 3200000 in
theorem init_tx {R : Result → Shared → Prop} {T : String} {v : Value} {o : Obj} {Hc : Heap → Prop} {a : Addr} (xs : List Str) (here : s.heap.get? a = some (sObj "set" (fresh w))) (B : Begins v o Hc) (now : Hc s.heap) (hv : s.TypeIs v T)
    (ns : isSubtype (.type T) (.type "set") = pure false) (nf : isSubtype (.type T) (.type "frozenset") = pure false) (nd : (Value.type T == .type "dict") = false) (few : xs.length < scanBound)
    {Pv : Nat → Value → Prop} {fp : List Addr} {St : Nat → Heap → Prop} (W : Walks P w A.in1.in1 s.heap.objs.size fp [s.heap.objs.size] xs.length Pv St) (texts : ∀ i v, Pv i v → ∃ x t, xs[i]? = some x ∧ v = .str x t)
    (start : St 0 (s.heap.push o)) (apart : a ∉ fp)
    (hand : ∀ h' tk, (∀ b ob, b ≠ a → s.heap.get? b = some ob → h'.get? b = some ob) → SetTx w h' a (xs.foldl addS []) → R (.ok (.ret .none)) { s with heap := h', toks := tk }) :
    codeAny (model P w) A (.call (.builtin "set.__init__") ⟨[.ref a, v], []⟩) R s := by
  have hT : s.TypeIs (.ref a) "set" := ⟨_, here, rfl⟩
  obtain ⟨hp, g, d, tk, os⟩ := s
  have it : ∀ {A' : Around} {E : Value → Shared → Prop} {Q : Value → Shared → Prop}, Q (.ref hp.objs.size) ⟨hp.push o, g, d, tk, os⟩ → wpAny (model P w) A' (pyIter v) Q E ⟨hp, g, d, tk, os⟩ := fun q => B.iter P w _ _ ⟨hp, g, d, tk, os⟩ _ now q
  refine codeAny_call_builtin PySem.F.called_set.init.plain PySem.F.entry_set_init (PySem.check_set_init_1 hT ?_)
  unfold Builtin.«set.__init__» noKeywords
  wp_walk using it
  have S0 : SetTx w (hp.push o) a [] := ⟨⟨fresh w, Heap.get?_push_of_some _ here, fun P => TxOk.nil rfl, .nil, led_or w⟩, .nil⟩
  apply fill_tx (A := A.in1) xs W rfl texts apart xs.length 0 [] ⟨hp.push o, g, d, tk, os⟩ (Nat.zero_add _) start S0 (by simpa using few)
  intro h' tk' kept S'
  apply wpAny_pure
  apply wpAny_pure
  refine hand h' tk' (fun b ob nb there => kept b ob (fun z => ?_) (Heap.get?_push_of_some _ there)) S'
  rcases List.mem_cons.mp z with z | z
  · exact nb z
  · have e : b = hp.objs.size := List.mem_singleton.mp z
    subst e
    exact absurd (Heap.lt_size there) (Nat.lt_irrefl _)
set_option maxHeartbeats 3200000 in
/-- set(v): the new set, then its filling -/
theorem call_set1 {v : Value} {Q : Value → Shared → Prop} (fill : codeAny (model P w) A.in1 (.call (.builtin "set.__init__") ⟨[.ref s.heap.objs.size, v], []⟩) (wants (fun r s2 => r = .none ∧ Q (.ref s.heap.objs.size) s2) E) { s with heap := s.heap.push (sObj "set" (fresh w)) }) :
    wpAny (model P w) A (call (.type "set") [v]) Q E s := by
  have ft := PySem.F.called_set
  obtain ⟨c, tl, order⟩ := ft.mro
  have made := ft.made
  have sub := ft.sub
  have h1 := ft.notType
  have h2 := ft.canCreate
  have hct := PySem.F.typeCall_set_1 v
  apply wpAny_call
  apply codeAny_of_tree
  show wpAny _ _ (callAny (.type "set") _) _ _ _
  apply wpAny_pure
  refine ⟨Code.quiet_builtin _ (by decide +kernel), ?_⟩
  apply codeAny_builtin PySem.F.entry_type_call
  rw [Around.under_plain (weight_type_call_type "set" [v] []) rfl]
  repeat any_goals first | assumption | wp_step
  refine codeAny_mono (new_set1 v (E := E) (Q := fun obj s1 => obj = .ref s.heap.objs.size ∧ s1 = { s with heap := s.heap.push (sObj "set" (fresh w)) }) ⟨rfl, rfl⟩) fun r s1 hr => ?_
  cases r with
  | error e => exact hr
  | ok fl =>
    cases fl with
    | ret obj =>
      obtain ⟨rfl, rfl⟩ := hr
      have lk := ft.init.lookup
      have bd := ft.init.bind (.ref s.heap.objs.size)
      have hT : Shared.TypeIs { s with heap := s.heap.push (sObj "set" (fresh w)) } (.ref s.heap.objs.size) "set" := ⟨_, Heap.get?_push_size _ rfl, rfl⟩
      repeat any_goals first | assumption | wp_step
      refine codeAny_mono (R := wants (fun r s2 => r = .none ∧ Q (.ref s.heap.objs.size) s2) E) ?run fun r2 s2 hr2 => ?back
      case back =>
        cases r2 with
        | error e => exact hr2
        | ok fl2 =>
          cases fl2 with
          | ret r =>
            obtain ⟨rfl, done⟩ := hr2
            repeat any_goals first | assumption | wp_step
          | next => exact hr2.elim
          | brk => exact hr2.elim
          | cont => exact hr2.elim
      case run => exact fill
    | next => exact hr.elim
    | brk => exact hr.elim
    | cont => exact hr.elim
set_option maxHeartbeats 3200000 in
theorem call_set_tx {T : String} {v : Value} {o : Obj} {Hc : Heap → Prop} {Q : Value → Shared → Prop} (xs : List Str) (B : Begins v o Hc) (now : Hc s.heap) (ty : ∀ s' : Shared, Hc s'.heap → s'.TypeIs v T)
    (ns : isSubtype (.type T) (.type "set") = pure false) (nf : isSubtype (.type T) (.type "frozenset") = pure false) (nd : (Value.type T == .type "dict") = false) (few : xs.length < scanBound)
    {Pv : Nat → Value → Prop} {fp : Addr → List Addr} {St : Addr → Nat → Heap → Prop} (hh : A.handled = none) (W : ∀ (A' : Around) (I : Addr), A'.handled = none → (∀ o, s.heap.get? I ≠ some o) → Walks P w A' I (fp I) [I] xs.length Pv (St I)) (texts : ∀ i v, Pv i v → ∃ x t, xs[i]? = some x ∧ v = .str x t)
    (start : ∀ h : Heap, Hc h → St h.objs.size 0 (h.push o)) (apart : s.heap.objs.size ∉ fp (s.heap.objs.size + 1))
    (hand : ∀ h' tk, (∀ b ob, s.heap.get? b = some ob → h'.get? b = some ob) → SetTx w h' s.heap.objs.size (xs.foldl addS []) → Q (.ref s.heap.objs.size) { s with heap := h', toks := tk }) :
    wpAny (model P w) A (call (.type "set") [v]) Q E s := by
  refine call_set1 ?_
  have now1 : Hc (s.heap.push (sObj "set" (fresh w))) := B.keeps _ _ now fun b ob there => Heap.get?_push_of_some _ there
  have here : (s.heap.push (sObj "set" (fresh w))).get? s.heap.objs.size = some (sObj "set" (fresh w)) := Heap.get?_push_size _ rfl
  have size : (s.heap.push (sObj "set" (fresh w))).objs.size = s.heap.objs.size + 1 := Heap.size_push ..
  refine init_tx (s := { s with heap := s.heap.push (sObj "set" (fresh w)) }) (T := T) xs here B now1 (ty _ now1) ns nf nd few (W _ _ hh (fun ob there => absurd (Heap.lt_size there) (by show ¬ (s.heap.push (sObj "set" (fresh w))).objs.size < s.heap.objs.size; rw [size]; omega))) texts (start _ now1) (by rw [show ({ s with heap := s.heap.push (sObj "set" (fresh w)) } : Shared).heap.objs.size = s.heap.objs.size + 1 from size]; exact apart) fun h' tk kept S => ?_
  exact ⟨rfl, hand h' tk (fun b ob there => kept b ob (fun z => absurd (Heap.lt_size there) (by rw [z]; exact Nat.lt_irrefl _)) (Heap.get?_push_of_some _ there)) S⟩
end
/-! ### over the layer -/
def SetSO (w : World) (a : Addr) (l : List Str) : HO := .ext fun h => SetTx w h a l
theorem setSO_new {P : Program} {w : World} {H : Hp} {h : Heap} {a : Addr} {l : List Str} (S : SetTx w h a l) : ObjOk P w H h a (SetSO w a l) := by
  obtain ⟨D, there, _⟩ := S.ex
  exact ⟨S, ⟨_, there⟩, fun h1 h2 z k => z.at k⟩
theorem setSO_get {X : Cx} {pins : List (Addr × Obj)} {σ : L2.St} {H : Hp} {s : Shared} {a : Addr} {l : List Str} (inv : Inv X pins σ H s) (at_a : H a = some (SetSO X.w a l)) : SetTx X.w s.heap a l := (inv.hok a _ at_a).1
/-- the members of set(xs) -/
def members (xs : List Str) : List Str := xs.foldl addS []
theorem strs_place {xs : List Str} {us : List Value} (r : Vals (xs.map V.str) us) {i : Nat} {v : Value} (h : us.toArray[i]? = some v) : ∃ x t, xs[i]? = some x ∧ v = .str x t := by
  have h2 : us[i]? = some v := by simpa using h
  induction xs generalizing us i with
  | nil => cases r; cases h2
  | cons x xs ih =>
    cases r with
    | @cons _ u _ us head tail =>
      cases i with
      | zero =>
        obtain ⟨t, rfl⟩ := head
        exact ⟨x, t, rfl, (Option.some.inj h2).symm⟩
      | succ i => exact ih tail (by simpa using h2) (by simpa using h2)
theorem call_setTexts {X : Cx} (calm : X.calm = true) : CallR X (.type "set") (fun given H Q => ∃ (p : Addr) (xs : List Str), given = [.ref p] ∧ (SqL X.K H p (xs.map V.str) ∨ SqT X.K H p (xs.map V.str)) ∧ xs.length ≤ 1000 ∧ ∀ a, H a = none → Q (.ref a) (upd H a (SetSO X.w a (members xs)))) :=
  fun pins s σ H given held Q inv rel ask => by
    rcases ask with ⟨p, xs, rfl, stands, few, hand⟩
    match held, rel with
    | [_], .cons rfl .nil =>
      have small : xs.length < scanBound := by unfold scanBound; omega
      have out : ∀ h' tk, (∀ b ob, s.heap.get? b = some ob → h'.get? b = some ob) → SetTx X.w h' s.heap.objs.size (xs.foldl addS []) → EP X pins σ Q (.ref s.heap.objs.size) { s with heap := h', toks := tk } := fun h' tk kept S =>
        ⟨.ref _, upd H s.heap.objs.size (SetSO X.w s.heap.objs.size (members xs)), inv.laid kept (Nat.le_refl _) (setSO_new S), rfl, hand _ (inv.hok.fresh (Nat.le_refl _))⟩
      rcases stands with stands | stands
      · obtain ⟨us, vals, plain, _⟩ := inv.list stands
        have num : us.toArray.size = xs.length := by rw [List.size_toArray, ← vals.length, List.length_map]
        have isl := plain.isList
        obtain ⟨ob, there, _⟩ := id isl
        refine call_set_tx (T := "list") xs (begins_list p us.toArray) isl (fun s' h => let ⟨o, ho, hc, _⟩ := h; ⟨o, ho, hc⟩) PySem.F.sub_list_set PySem.F.sub_list_frozenset (by decide) small (inv.ok.hd calm) (fp := fun I => [I, p]) (St := fun I i h => h.IsListIter I p i ∧ h.IsList p us.toArray)
          (fun A' I hh new => num ▸ Walks.list hh I p (fun z => new ob (z ▸ there)) us.toArray) (fun i v h => strs_place vals h) (fun h hl => ⟨⟨_, Heap.get?_push_size _ rfl, rfl, rfl⟩, hl.at fun o e => Heap.get?_push_of_some _ e⟩) ?_ out
        intro z
        rcases List.mem_cons.mp z with z | z
        · exact absurd z (Nat.ne_of_lt (Nat.lt_succ_self _))
        · exact absurd (Heap.lt_size there) (by rw [← List.mem_singleton.mp z]; exact Nat.lt_irrefl _)
      · obtain ⟨us, vals, ist, _⟩ := inv.tuple stands
        have num : us.toArray.size = xs.length := by rw [List.size_toArray, ← vals.length, List.length_map]
        have ist2 : s.heap.IsTuple p us.toArray := ist
        obtain ⟨ob, there, _⟩ := id ist2
        refine call_set_tx (T := "tuple") xs (begins_tuple p us.toArray) ist2 (fun s' h => let ⟨o, ho, hc, _⟩ := h; ⟨o, ho, hc⟩) PySem.F.sub_tuple_set PySem.F.sub_tuple_frozenset (by decide) small (inv.ok.hd calm) (fp := fun I => [I, p]) (St := fun I i h => h.IsTupleIter I p i ∧ h.IsTuple p us.toArray)
          (fun A' I hh new => num ▸ Walks.tuple hh I p (fun z => new ob (z ▸ there)) us.toArray) (fun i v h => strs_place vals h) (fun h hl => ⟨⟨_, Heap.get?_push_size _ rfl, rfl, rfl⟩, hl.at fun o e => Heap.get?_push_of_some _ e⟩) ?_ out
        intro z
        rcases List.mem_cons.mp z with z | z
        · exact absurd z (Nat.ne_of_lt (Nat.lt_succ_self _))
        · exact absurd (Heap.lt_size there) (by rw [← List.mem_singleton.mp z]; exact Nat.lt_irrefl _)
end Tm

/-! set of a list of ints -/
namespace Tm
open PySem PySem.Spec PyProof.Rows L2 PySem.Froz
section
variable {P : Program} {w : World} {A : Around} {E : Value → Shared → Prop} {s : Shared}
set_option maxHeartbeats 3200000 in
theorem init_ints {R : Result → Shared → Prop} {v : Value} {o : Obj} {Hc : Heap → Prop} {a : Addr} {T : String} (ns : List Int) (here : s.heap.get? a = some (sObj "set" (fresh w))) (B : Begins v o Hc) (now : Hc s.heap) (hv : s.TypeIs v T)
    (n1 : isSubtype (.type T) (.type "set") = pure false) (n2 : isSubtype (.type T) (.type "frozenset") = pure false) (nd : (Value.type T == .type "dict") = false) (few : ns.length + 1 < scanBound)
    {Pv : Nat → Value → Prop} {fp wr : List Addr} {G : Array GenState → Array GenState → Prop} {St : Nat → Shared → Prop} (W : WalksS P w A.in1.in1 s.heap.objs.size fp wr G ns.length Pv St) (nums : ∀ i v, Pv i v → ∃ k t, ns[i]? = some k ∧ v = .int k t)
    (start : St 0 { s with heap := s.heap.push o }) (apart : a ∉ fp)
    (hand : ∀ s' c, Moved (a :: wr) G { s with heap := s.heap.push o } s' → c ≤ ns.length → SetR w s'.heap a (fun j => decide (j ∈ ns)) c → R (.ok (.ret .none)) s') :
    codeAny (model P w) A (.call (.builtin "set.__init__") ⟨[.ref a, v], []⟩) R s := by
  have hT : s.TypeIs (.ref a) "set" := ⟨_, here, rfl⟩
  obtain ⟨hp, g, d, tk, os⟩ := s
  have it : ∀ {A' : Around} {E : Value → Shared → Prop} {Q : Value → Shared → Prop}, Q (.ref hp.objs.size) ⟨hp.push o, g, d, tk, os⟩ → wpAny (model P w) A' (pyIter v) Q E ⟨hp, g, d, tk, os⟩ := fun q => B.iter P w _ _ ⟨hp, g, d, tk, os⟩ _ now q
  refine codeAny_call_builtin PySem.F.called_set.init.plain PySem.F.entry_set_init (PySem.check_set_init_1 hT ?_)
  unfold Builtin.«set.__init__» noKeywords
  wp_walk using it
  refine set_update_ints (A := A.in1) W a apart ns rfl few nums (ns.length - 0) 0 ⟨hp.push o, g, d, tk, os⟩ rfl (Nat.zero_le _) start ⟨0, Nat.le_refl _, setR_new_at (Heap.get?_push_of_some _ here)⟩ fun s' c moved hc S => ?_
  apply wpAny_pure
  apply wpAny_pure
  exact hand s' c moved hc S
end
theorem nums_place {ns : List Int} {us : List Value} (r : Vals (ns.map V.int) us) {i : Nat} {v : Value} (h : us.toArray[i]? = some v) : ∃ k t, ns[i]? = some k ∧ v = .int k t := by
  have h2 : us[i]? = some v := by simpa using h
  clear h
  induction ns generalizing us i with
  | nil => cases r; cases h2
  | cons x xs ih =>
    cases r with
    | @cons _ u _ us head tail =>
      cases i with
      | zero =>
        obtain ⟨t, rfl⟩ := head
        exact ⟨x, t, rfl, (Option.some.inj h2).symm⟩
      | succ i => exact ih tail (by simpa using h2)
def rSetI (K : PySem.W.Frag) (w : World) : List V → Hp → VK → Prop := fun given H Q => ∃ (p : Addr) (ns : List Int), given = [.ref p] ∧ SqL K H p (ns.map V.int) ∧ ns.length ≤ 1000 ∧ ∀ a c, H a = none → c ≤ ns.length → Q (.ref a) (upd H a (SetO w a (fun j => decide (j ∈ ns)) c))
theorem call_setInts {X : Cx} (calm : X.calm = true) : CallR X (.type "set") (rSetI X.K X.w) :=
  fun pins s σ H given held Q inv rel ask => by
    rcases ask with ⟨p, ns, rfl, stands, few, hand⟩
    match held, rel with
    | [_], .cons rfl .nil =>
      have small : ns.length + 1 < scanBound := by unfold scanBound; omega
      obtain ⟨us, vals, plain, _⟩ := inv.list stands
      have num : us.toArray.size = ns.length := by rw [List.size_toArray, ← vals.length, List.length_map]
      have isl := plain.isList
      obtain ⟨ob, there, _⟩ := id isl
      have lp := Heap.lt_size there
      have size : (s.heap.push (sObj "set" (fresh X.w))).objs.size = s.heap.objs.size + 1 := Heap.size_push ..
      have isl1 : (s.heap.push (sObj "set" (fresh X.w))).IsList p us.toArray := isl.at fun o e => Heap.get?_push_of_some _ e
      have ne : p ≠ (s.heap.push (sObj "set" (fresh X.w))).objs.size := by
        rw [size]
        exact Nat.ne_of_lt (Nat.lt_succ_of_lt lp)
      have W0 := (Walks.list (prog := X.prog) (w := X.w) (A := X.A.in1.in1.in1) (inv.ok.hd calm) (s.heap.push (sObj "set" (fresh X.w))).objs.size p ne us.toArray).toS
      rw [num] at W0
      refine call_set1 ?_
      refine init_ints (s := { s with heap := s.heap.push (sObj "set" (fresh X.w)) }) (T := "list") ns (Heap.get?_push_size _ rfl) (begins_list p us.toArray) isl1 (let ⟨o, ho, hc, _⟩ := isl1; ⟨o, ho, hc⟩) PySem.F.sub_list_set PySem.F.sub_list_frozenset (by decide) small
        W0 (fun i v h => nums_place vals h) ⟨⟨_, Heap.get?_push_size _ rfl, rfl, rfl⟩, isl1.at fun o e => Heap.get?_push_of_some _ e⟩ ?_ fun s' c moved hc S => ?_
      · intro z
        rcases List.mem_cons.mp z with z | z
        · rw [size] at z
          exact absurd z (Nat.ne_of_lt (Nat.lt_succ_self _))
        · rw [← List.mem_singleton.mp z] at lp
          exact Nat.lt_irrefl _ lp
      · obtain ⟨h', g', d', tk', os'⟩ := s'
        have eg : g' = s.gens := moved.gens
        have ed : d' = s.drawn := moved.drawn
        have eo : os' = s.os := moved.os
        subst eg ed eo
        have kept : ∀ b ob, s.heap.get? b = some ob → h'.get? b = some ob := fun b ob at_b => by
          have lt := Heap.lt_size at_b
          refine moved.heap b ob (fun z => ?_) (Heap.get?_push_of_some _ (Heap.get?_push_of_some _ at_b))
          rcases List.mem_cons.mp z with z | z
          · rw [z] at lt
            exact Nat.lt_irrefl _ lt
          · rw [List.mem_singleton.mp z, size] at lt
            exact absurd lt (Nat.not_lt.mpr (Nat.le_succ _))
        exact ⟨rfl, .ref _, upd H s.heap.objs.size (SetO X.w s.heap.objs.size (fun j => decide (j ∈ ns)) c), inv.laid kept (Nat.le_refl _) (setO_new S), rfl, hand _ c (inv.hok.fresh (Nat.le_refl _)) hc⟩
/-! ### sums of lists of ints -/
def RowsI (K : PySem.W.Frag) (H : Hp) (ps : List Addr) (rs : List (List Int)) : Prop :=
  ps.length = rs.length ∧ ∀ (i : Nat) (p : Addr) (r : List Int), ps[i]? = some p → rs[i]? = some r → SqL K H p (r.map V.int)
theorem RowsI.same {K : PySem.W.Frag} {H H' : Hp} {ps : List Addr} {rs : List (List Int)} (h : RowsI K H ps rs) (s : Same H H') : RowsI K H' ps rs :=
  ⟨h.1, fun i p r hp hr => s.seq (h.2 i p r hp hr)⟩
def spLSumI (K : PySem.W.Frag) : Sp := fun vs H Q _ => ∃ (p : Addr) (ps : List Addr) (rs : List (List Int)), vs = [.ref p] ∧ SqL K H p (ps.map V.ref) ∧ RowsI K H ps rs ∧ rs.flatten.length < 64 ∧
  ∀ (H' : Hp) (q : Addr) (ys : List Int), Same H H' → H q = none → H' q = some (.lst (ys.map V.int)) → ys.Pairwise (· < ·) → (∀ z : Int, z ∈ ys ↔ rs.flatten.count z % 2 = 1) → Q (.ref q) H'
theorem nodup_le : ∀ (l m : List Nat), l.Nodup → (∀ x, x ∈ l → x ∈ m) → l.length ≤ m.length
  | [], m, _, _ => Nat.zero_le _
  | x :: l, m, nd, sub => by
    obtain ⟨u, v, rfl⟩ := List.append_of_mem (sub x List.mem_cons_self)
    have apart := List.nodup_cons.mp nd
    have rest := nodup_le l (u ++ v) apart.2 fun y hy => by
      have hm := sub y (List.mem_cons_of_mem _ hy)
      have ne : y ≠ x := fun z => apart.1 (z ▸ hy)
      simp only [List.mem_append, List.mem_cons] at hm ⊢
      rcases hm with hm | hm | hm
      · exact .inl hm
      · exact absurd hm ne
      · exact .inr hm
    simp at rest ⊢
    omega
/-- ints that all are naturals below m -/
theorem nats_below {ys : List Int} {m : Nat} (srt : ys.Pairwise (· < ·)) (h : ∀ z ∈ ys, ∃ n : Nat, z = (n : Int) ∧ n < m) : ∃ us : List Nat, ys = us.map (fun z : Nat => (z : Int)) ∧ us.Nodup ∧ (∀ z ∈ us, z < m) ∧ us.length ≤ m := by
  have back : ∀ y ∈ ys, ((fun k : Nat => (k : Int)) ∘ Int.toNat) y = id y := fun y hy => by
    obtain ⟨k, rfl, _⟩ := h y hy
    rfl
  have e : ys = (ys.map Int.toNat).map fun k : Nat => (k : Int) := by rw [List.map_map, List.map_congr_left back, List.map_id]
  have lt : ∀ z ∈ ys.map Int.toNat, z < m := fun z hz => by
    obtain ⟨y, hy, rfl⟩ := List.mem_map.mp hz
    obtain ⟨n, rfl, hn⟩ := h y hy
    exact hn
  have nd : (ys.map Int.toNat).Nodup := by
    rw [e, List.pairwise_map] at srt
    refine srt.imp fun {a b} q z => ?_
    subst z
    omega
  refine ⟨ys.map Int.toNat, e, nd, lt, ?_⟩
  have := nodup_le _ (List.range m) nd fun z hz => List.mem_range.mpr (lt z hz)
  rwa [List.length_range] at this
end Tm

/-! sorted(..) of a set of ints and of a dict with int keys, up to a thousand of them -/
namespace Tm
open PySem PySem.Spec PySem.Calls PyProof.Rows L2
/-- the cells are in hand: a list is made of them and sorted -/
theorem sort_cells {X : Cx} {A : Around} {E : Value → Shared → Prop} {pins : List (Addr × Obj)} {σ : L2.St} {H : Hp} {s : Shared} {cells : List Value} {ns : List Int} {Q : VK} (inv : Inv X pins σ H s) (whole : IntsAre cells ns) (few : ns.length ≤ 1000) (same : cells.length = ns.length)
    (hand : ∀ (up : List Int) (p : Addr), up.Perm ns → up.Pairwise (· ≤ ·) → H p = none → Q (.ref p) (upd H p (.lst (up.map V.int)))) :
    wpAny (model X.prog X.w) A (newList cells >>= fun l => holding [l] (call (.builtin "list.sort") [l] []) >>= fun _ => ret l) (fun fin s' => ∃ v, fin = .done (.ret v) ∧ EP X pins σ Q v s') E s := by
  have room : cells.length ≤ sizeLine := by rw [same]; exact Nat.le_trans few (by decide)
  apply wpAny_bind
  apply wpAny_newList (hsz := room)
  have new : (s.heap.push { cls := .type "list", data := .seq cells.toArray }).get? s.heap.objs.size = some (seqObj "list" cells.toArray 0) := Heap.get?_push_size _ rfl
  have still : ∀ b o, s.heap.get? b = some o → (s.heap.push { cls := .type "list", data := .seq cells.toArray }).get? b = some o := fun b o e => Heap.get?_push_of_some _ e
  have bigger : s.heap.objs.size < (s.heap.push { cls := .type "list", data := .seq cells.toArray }).objs.size := Heap.lt_size new
  apply wpAny_bind
  apply wpAny_holding
  refine wpAny_call_entry (T := "list") slot_list_sort ⟨_, new, rfl⟩ entry_list_sort ?_ (args_list_sort _)
  refine list_sort_treeAny new whole room fun out up all order rise => ?_
  refine ⟨_, rfl, wpAny_pure ⟨_, rfl, V.ref s.heap.objs.size, upd H s.heap.objs.size (.lst (up.map V.int)), ?_, rfl, hand up _ order rise (inv.hok.fresh (Nat.le_refl _))⟩⟩
  obtain ⟨stamp, there⟩ := sortedHeap_at (out := out) new
  refine inv.laid (t' := s.toks) (fun b o e => ?_) (Nat.le_refl _) ⟨?_, out.toList, stamp, vals_of_ints all, there⟩
  · rw [sortedHeap_old (Nat.ne_of_lt (Heap.lt_size e)) (Nat.lt_trans (Heap.lt_size e) bigger)]
    exact still b o e
  · rw [List.length_map, order.length_eq]
    exact Nat.le_trans few (by decide)
def intIn : Value → Int
  | .int i _ => i
  | _ => 0
theorem ints_in : ∀ vs : List Value, (∀ v ∈ vs, ∃ i t, v = Value.int i t) → IntsAre vs (vs.map intIn)
  | [], _ => .nil
  | v :: vs, h => by
    obtain ⟨i, t, rfl⟩ := h v List.mem_cons_self
    exact .cons _ _ (ints_in vs fun u hu => h u (List.mem_cons_of_mem _ hu))
theorem rise_nodup : ∀ l : List Int, l.Pairwise (· ≤ ·) → l.Nodup → l.Pairwise (· < ·)
  | [], _, _ => .nil
  | a :: l, h, nd => by
    have h1 := List.pairwise_cons.mp h
    have h2 := List.nodup_cons.mp nd
    refine List.pairwise_cons.mpr ⟨fun b hb => ?_, rise_nodup l h1.2 h2.2⟩
    have := h1.1 b hb
    have ne : a ≠ b := fun e => h2.1 (e ▸ hb)
    omega
def rSortIS (w : World) : List V → Hp → VK → Prop := fun given H Q => ∃ (a : Addr) (S : Int → Bool) (n : Nat), given = [.ref a] ∧ H a = some (SetO w a S n) ∧ n ≤ 1000 ∧
  ∀ (up : List Int) (p : Addr), up.Pairwise (· < ·) → (∀ k : Int, k ∈ up ↔ S k = true) → up.length = n → H p = none → Q (.ref p) (upd H p (.lst (up.map V.int)))
theorem call_sortIS {X : Cx} (calm : X.calm = true) : CallR X (.builtin "sorted") (rSortIS X.w) :=
  fun pins s σ H given held Q inv rel ask => by
    obtain ⟨a, S, n, rfl, at_a, few, hand⟩ := ask
    match held, rel with
    | [_], .cons rfl .nil =>
      obtain ⟨o, es, ep, t, there, exact_, dat, good, nodup, mem, bound, fits, num, ris, led⟩ := setO_get inv at_a
      apply call_function_entry kind_sorted plain_sorted entry_sorted (args_sorted1 _)
      show wpAny _ _ (collect (.ref a) >>= fun vs => newList vs >>= fun l => holding [l] (call (.builtin "list.sort") [l] []) >>= fun _ => ret l) _ _ s
      apply wpAny_bind
      refine collect_set (es := es) (ep := ep) (t := t) (inv.ok.hd calm) ⟨o, there, exact_.1, dat⟩ fits bound ris led ?_
      intro s1 cells kept grown gens os perm
      have mid : Inv X pins σ H s1 := inv.call' (ch := []) os (Un.kept kept) (inv.hok.kept kept) (by rw [gens]; exact inv.bare) (fun b hb => by cases hb)
      have each : ∀ v ∈ cells, ∃ i u, v = Value.int i u := fun v hv => by
        obtain ⟨e, he, rfl⟩ := List.mem_map.mp (perm.mem_iff.mp hv)
        obtain ⟨k, u, is, _⟩ := good e he
        exact ⟨k, u, is⟩
      have keys : (cells.map intIn).Perm (es.toList.map keyOf) := by
        have p2 := perm.map intIn
        rw [List.map_map] at p2
        have e2 : es.toList.map (intIn ∘ fun e => e.2) = es.toList.map keyOf := List.map_congr_left fun e he => by
          obtain ⟨k, u, is, _⟩ := good e he
          show intIn e.2 = keyOf e
          unfold keyOf
          rw [is]
          rfl
        rw [e2] at p2
        exact p2
      have len : (cells.map intIn).length = n := by rw [keys.length_eq, List.length_map, Array.length_toList, num]
      refine sort_cells mid (ints_in cells each) (by omega) (by rw [List.length_map]) fun up p pm rise fresh => ?_
      refine hand up p (rise_nodup up rise ((pm.trans keys).nodup_iff.mpr nodup)) (fun k => ?_) (by rw [pm.length_eq, len]) fresh
      rw [(pm.trans keys).mem_iff, ← mem k]
theorem key_int {y : Int} {v : Value} (h : keyIs (Sum.inl y) v = true) : ∃ t, v = Value.int y t := by
  obtain ⟨i, t, same, rfl⟩ | ⟨x, t, same, rfl⟩ := keyIs_shape h
  · exact ⟨t, by rw [Sum.inl.inj same]⟩
  · cases same
def rSortID : List V → Hp → VK → Prop := fun given H Q => ∃ (a : Addr) (kvs : List (Key × V)) (ks : List Int), given = [.ref a] ∧ H a = some (.dK kvs) ∧ kvs.map (·.1) = ks.map Sum.inl ∧ ks.length ≤ 1000 ∧
  ∀ (up : List Int) (p : Addr), up.Perm ks → up.Pairwise (· ≤ ·) → H p = none → Q (.ref p) (upd H p (.lst (up.map V.int)))
theorem call_sortID {X : Cx} (calm : X.calm = true) : CallR X (.builtin "sorted") rSortID :=
  fun pins s σ H given held Q inv rel ask => by
    obtain ⟨a, kvs, ks, rfl, at_a, keys, few, hand⟩ := ask
    match held, rel with
    | [_], .cons rfl .nil =>
      obtain ⟨z, low, vs, pairs, dd⟩ := dk_rd inv.hok (Or.inl at_a)
      obtain ⟨ep, stands⟩ := dd.dictAt
      have names : vs.map (·.1) = ks.map Sum.inl := pairs.keys.symm.trans keys
      have num : vs.length = ks.length := by
        have e := congrArg List.length names
        simpa using e
      apply call_function_entry kind_sorted plain_sorted entry_sorted (args_sorted1 _)
      show wpAny _ _ (collect (.ref a) >>= fun vs => newList vs >>= fun l => holding [l] (call (.builtin "list.sort") [l] []) >>= fun _ => ret l) _ _ s
      apply wpAny_bind
      refine PySem.W.kdu_collect (PySem.W.kdl_dict (knd := mixKind X.prog X.w) (kvs := vs) (ep := ep) low) (inv.ok.hd calm) stands (by rw [num]; exact Nat.le_trans few (by decide)) ?_
      intro h' tk acc kept items
      have cellsAre : IntsAre acc.toList ks := by
        refine ints_each (by rw [Array.length_toList, items.1, num]) ?_
        intro j v at_j
        obtain ⟨k, x, here, is⟩ := items.2 j v (Eq.trans Array.getElem?_toList.symm at_j)
        have kj : (ks.map Sum.inl)[j]? = some k := by
          rw [← names, List.getElem?_map, here]
          rfl
        obtain ⟨y, hy, rfl⟩ : ∃ y, ks[j]? = some y ∧ (Sum.inl y : Key) = k := by simpa using kj
        obtain ⟨t, rfl⟩ := key_int is
        exact ⟨y, t, hy, rfl⟩
      have mid : Inv X pins σ H { s with heap := h', toks := tk } := inv.kept kept
      exact sort_cells mid cellsAre few (by rw [Array.length_toList, items.1, num]) hand
end Tm

/-! three texts in a list; what the law carries along -/
namespace Tm
open PySem PySem.Spec PyProof.Rows L2 LamX
theorem tabs_same {T : List (Addr × Str)} {H H' : Hp} (t : Tabs T H) (s : Same H H') : Tabs T H' := fun p hp => (t p hp).ext s
theorem tabs_keep {T : List (Addr × Str)} {H H' : Hp} {b : Addr} (t : Tabs T H) (hb : ∃ u, H b = some (.lst u)) (k : Kp b H H') : Tabs T H' := by
  obtain ⟨u, hb⟩ := hb
  intro p hp
  obtain ⟨ps, h1, h2, h3⟩ := t p hp
  refine ⟨ps, k _ _ (ne_of h1 hb (by intro e; cases e)) h1, h2, fun pos cv hc => ?_⟩
  obtain ⟨c, e, hcode⟩ := h3 pos cv hc
  exact ⟨c, e, k _ _ (ne_of hcode hb (by intro e; cases e)) hcode⟩
theorem tabs_first {P : Addr} {q : Str} {H : Hp} (h : H P = some (.tbl #[])) : Tabs [(P, q)] H := by
  intro p hp
  rw [List.mem_singleton.mp hp]
  exact ⟨#[], h, by first | trivial | exact TriplesOk.nil | simp [TriplesOk], fun pos cv hc => by cases hc⟩
def spLawT (K : PySem.W.Frag) (P : Addr) : Sp := fun vs H Q _ => ∃ (a : Addr) (ns : List Int), vs = [.ref a] ∧ SqL K H a (ns.map V.int) ∧ ns.length ≤ 63 ∧ H P = some (.tbl #[]) ∧ ∀ H', Q (.bl true) H'
theorem bag_lst {H : Hp} {b l : Addr} (B : Bag H b l) : ∃ u, H b = some (.lst u) := by
  obtain ⟨_, _, _, _, h, _⟩ := B
  exact ⟨_, h⟩
/-- the list of texts at a, the bag, the table -/
structure Stt (T : List (Addr × Str)) (b l a : Addr) (xss : List (List Nat)) (H : Hp) : Prop where
  bag : Bag H b l
  tabs : Tabs T H
  at_ : H a = some (.lst (xss.map tv))
  ne : a ≠ b
section
variable {T : List (Addr × Str)} {b l a : Addr} {xss : List (List Nat)} {H H' : Hp}
theorem Stt.same (s : Stt T b l a xss H) (k : Same H H') : Stt T b l a xss H' := ⟨s.bag.same k, tabs_same s.tabs k, k _ _ s.at_, s.ne⟩
theorem Stt.kp (s : Stt T b l a xss H) (k : Kp b H H') (B : Bag H' b l) : Stt T b l a xss H' := ⟨B, tabs_keep s.tabs (bag_lst s.bag) k, k _ _ s.ne s.at_, s.ne⟩
theorem bag_ext (B : Bag H b l) (e : ExtN H H') : Bag H' b l := by
  obtain ⟨xs, i, n, s, h1, h2, rest⟩ := B
  exact ⟨xs, i, n, s, e _ _ h1 (fun ps z => by cases z), e _ _ h2 (fun ps z => by cases z), rest⟩
theorem Stt.ext (s : Stt T b l a xss H) (e : ExtN H H') (t : Tabs T H') : Stt T b l a xss H' := ⟨bag_ext s.bag e, t, e _ _ s.at_ (fun ps z => by cases z), s.ne⟩
end
/-- what is due of the three texts -/
def DueIs (xss : List (List Nat)) (c : Str) (v : V) : Prop := (∀ x r, xss.filter (fun x => !isS x) = x :: r → c = "invalidstring" ∧ v = tv x) ∧ (xss.filter (fun x => !isS x) = [] → (AllEq xss → c = "" ∧ v = .str "") ∧ (¬ AllEq xss → c = "lengthmismatch" ∧ v = .non))
theorem first_wrong : ∀ {xss : List (List Nat)} {i : Nat} {x : List Nat}, xss[i]? = some x → (∀ y ∈ xss.take i, isS y = true) → isS x = false → ∃ r, xss.filter (fun x => !isS x) = x :: r
  | y :: r, 0, x, h, _, no => by
    cases h
    exact ⟨r.filter fun x => !isS x, by rw [List.filter_cons, no]; rfl⟩
  | y :: r, i + 1, x, h, before, no => by
    have hy : isS y = true := before y (by rw [List.take_succ_cons]; exact List.mem_cons_self)
    obtain ⟨r', e⟩ := first_wrong (xss := r) h (fun z hz => before z (by rw [List.take_succ_cons]; exact List.mem_cons_of_mem _ hz)) no
    exact ⟨r', by rw [List.filter_cons, hy]; exact e⟩
theorem none_wrong {xss : List (List Nat)} (h : ∀ x ∈ xss, isS x = true) : xss.filter (fun x => !isS x) = [] := by
  rw [List.filter_eq_nil_iff]
  intro x hx
  rw [h x hx]
  simp
/-- more than one length, seen in a rising list of them -/
theorem sizes_more {xss : List (List Nat)} {up : List Int} (rise : up.Pairwise (· < ·)) (mem : ∀ k : Int, k ∈ up ↔ k ∈ xss.map fun x => ((lettersL x).length : Int)) : ((1 : Int) < (up.length : Int)) ↔ ¬ AllEq xss := by
  constructor
  · intro h eq
    match up, rise, mem, h with
    | a :: b' :: r, rise, mem, _ =>
      obtain ⟨x, hx, ex⟩ := List.mem_map.mp ((mem a).mp List.mem_cons_self)
      obtain ⟨y, hy, ey⟩ := List.mem_map.mp ((mem b').mp (List.mem_cons_of_mem _ List.mem_cons_self))
      have lt := (List.pairwise_cons.mp rise).1 b' List.mem_cons_self
      have e := eq x hx y hy
      omega
    | [a], _, _, h => simp at h
    | [], _, _, h => simp at h
  · intro no
    apply Classical.byContradiction
    intro h
    apply no
    intro x hx y hy
    have mx := (mem _).mpr (List.mem_map.mpr ⟨x, hx, rfl⟩)
    have my := (mem _).mpr (List.mem_map.mpr ⟨y, hy, rfl⟩)
    match up, mx, my, h with
    | [a], mx, my, _ =>
      rw [List.mem_singleton] at mx my
      omega
    | a :: b' :: r, _, _, h => simp at h; omega
/-- a short text of signs that there are -/
def Lo (m : Nat) (x : List Nat) : Prop := x.length ≤ m ∧ ∀ c ∈ x, c < 1114112
theorem Lo.up {m k : Nat} {x : List Nat} (h : Lo m x) (le : m ≤ k) : Lo k x := ⟨Nat.le_trans h.1 le, h.2⟩
theorem Lo.ok {m : Nat} {x : List Nat} (h : Lo m x) : PyData.strOk (txt x) = true := by
  show ((txt x).cps.all fun c => decide (c < 0x110000)) = true
  rw [← Array.all_toList, txt_cps]
  exact List.all_eq_true.mpr fun c hc => decide_eq_true (h.2 c hc)
theorem al_lo : ∀ c ∈ Al, c < 1114112 := by decide
theorem Sn.lo {n m : Nat} {x : List Nat} (h : Sn n x) (le : n + 1 ≤ m) : Lo m x := by
  refine ⟨Nat.le_trans h.len.1 le, ?_⟩
  obtain ⟨s, cs, rfl, _, al⟩ := h
  intro c hc
  cases s with
  | false => exact al_lo c (al c hc)
  | true =>
    rcases List.mem_cons.mp hc with rfl | hc
    · decide
    · exact al_lo c (al c hc)
def dS (x : List Nat) : PyData := .str (txt x)
theorem dp_texts {K : PySem.W.Frag} {H : Hp} : ∀ ts : List (List Nat), DpAll K H (ts.map tv) (ts.map dS)
  | [] => .nil
  | x :: r => .cons (.str _) (dp_texts r)
theorem lay_texts : ∀ {ts : List (List Nat)}, (∀ x ∈ ts, ∃ m, Lo m x) → PyData.canLayAll0 (ts.map dS) = true
  | [], _ => by simp [PyData.canLayAll0]
  | x :: r, h => by
    obtain ⟨m, hx⟩ := h x List.mem_cons_self
    have i := lay_texts (ts := r) fun y hy => h y (List.mem_cons_of_mem _ hy)
    simp [PyData.canLayAll0, dS, PyData.canLay0, hx.ok]
    exact i
theorem deep_texts : ∀ ts : List (List Nat), PyData.depthAll (ts.map dS) = 0
  | [] => by simp [PyData.depthAll]
  | x :: r => by
    have i := deep_texts r
    simp [PyData.depthAll, dS, PyData.depth]
    exact i
theorem shaped_texts {ts : List (List Nat)} (h : ∀ x ∈ ts, ∃ m, Lo m x) : SeqAt.shaped (.list (ts.map dS)) = true := by
  simp [SeqAt.shaped, PyData.canLay0, PyData.depth, lay_texts h, deep_texts ts]
theorem shaped_nil : SeqAt.shaped (.list []) = true := by simp [SeqAt.shaped, PyData.canLay0, PyData.canLayAll0, PyData.depth, PyData.depthAll]
theorem eqv_nil (x : List Nat) (r : List (List Nat)) : PyData.eqv (.list ((x :: r).map dS)) (.list []) = false := by simp [PyData.eqv, PyData.eqvAll]
theorem eqv_nn : PyData.eqv (.list []) (.list []) = true := by simp [PyData.eqv, PyData.eqvAll]
theorem ixN_nat {n j : Nat} (h : j < n) : ixN n ((j : Nat) : Int) = some j := by
  unfold ixN
  rw [if_pos (by omega), if_pos (by omega)]
  rfl
theorem map_set (xs : List (List Nat)) (j : Nat) (y : List Nat) : (xs.map tv).set j (tv y) = (xs.set j y).map tv := by rw [List.map_set]
/-- the signs that are put in -/
theorem signs_in {x : V} (h : x ∈ [V.str (Str.ofString "Y"), .str (Str.ofString "x"), .str (Str.ofString "-"), .str (Str.ofString " "), .str (Str.ofString "0"), .str (Str.ofString "11-"), .str (Str.ofString "a"), .str (Str.ofString "W")]) : ∃ sg : List Nat, x = tv sg ∧ Lo 3 sg := by
  simp only [List.mem_cons, List.not_mem_nil, or_false] at h
  rcases h with rfl | rfl | rfl | rfl | rfl | rfl | rfl | rfl
  · exact ⟨[89], congrArg V.str (by decide +kernel), ⟨by decide, by decide⟩⟩
  · exact ⟨[120], congrArg V.str (by decide +kernel), ⟨by decide, by decide⟩⟩
  · exact ⟨[45], congrArg V.str (by decide +kernel), ⟨by decide, by decide⟩⟩
  · exact ⟨[32], congrArg V.str (by decide +kernel), ⟨by decide, by decide⟩⟩
  · exact ⟨[48], congrArg V.str (by decide +kernel), ⟨by decide, by decide⟩⟩
  · exact ⟨[49, 49, 45], congrArg V.str (by decide +kernel), ⟨by decide, by decide⟩⟩
  · exact ⟨[97], congrArg V.str (by decide +kernel), ⟨by decide, by decide⟩⟩
  · exact ⟨[87], congrArg V.str (by decide +kernel), ⟨by decide, by decide⟩⟩
/-- the texts that are no strings -/
theorem bads_in {x : V} (h : x ∈ [V.str (Str.ofString "Q"), .str (Str.ofString "X-"), .str (Str.ofString "--X")]) : ∃ bd : List Nat, x = tv bd ∧ Lo 3 bd ∧ isS bd = false := by
  simp only [List.mem_cons, List.not_mem_nil, or_false] at h
  rcases h with rfl | rfl | rfl
  · exact ⟨[81], congrArg V.str (by decide +kernel), ⟨by decide, by decide⟩, by decide⟩
  · exact ⟨[88, 45], congrArg V.str (by decide +kernel), ⟨by decide, by decide⟩, by decide⟩
  · exact ⟨[45, 45, 88], congrArg V.str (by decide +kernel), ⟨by decide, by decide⟩, by decide⟩
theorem mult_first {CI CL : Addr} {x y : List Nat} {H : Hp} {E : XK} (lx : x.length ≤ 900) (ly : y.length ≤ 900) (no : isS x = false) (r : Raised E CI (badS x) H) : MultE CI CL [x, y] H (fun _ _ => False) E := by
  refine ⟨by show 2 ≤ 20; decide, ?_, ?_, ?_, ?_⟩
  · intro z hz
    simp only [List.mem_cons, List.not_mem_nil, or_false] at hz
    rcases hz with rfl | rfl
    · exact lx
    · exact ly
  · intro i z hz before _
    match i, hz with
    | 0, hz =>
      cases hz
      exact r
    | 1, hz => rw [before x (by simp)] at no; cases no
    | i + 2, hz => cases hz
  · intro all
    rw [all x (by simp)] at no
    cases no
  · intro n all
    rw [sn_isS (all x (by simp))] at no
    cases no
theorem mult_second {CI CL : Addr} {x y : List Nat} {H : Hp} {E : XK} (lx : x.length ≤ 900) (ly : y.length ≤ 900) (yes : isS x = true) (no : isS y = false) (r : Raised E CI (badS y) H) : MultE CI CL [x, y] H (fun _ _ => False) E := by
  refine ⟨by show 2 ≤ 20; decide, ?_, ?_, ?_, ?_⟩
  · intro z hz
    simp only [List.mem_cons, List.not_mem_nil, or_false] at hz
    rcases hz with rfl | rfl
    · exact lx
    · exact ly
  · intro i z hz before nz
    match i, hz with
    | 0, hz =>
      cases hz
      rw [yes] at nz
      cases nz
    | 1, hz =>
      cases hz
      exact r
    | i + 2, hz => cases hz
  · intro all
    rw [all y (by simp)] at no
    cases no
  · intro n all
    rw [sn_isS (all y (by simp))] at no
    cases no
theorem mult_len {CI CL : Addr} {x y : List Nat} {H : Hp} {E : XK} (lx : x.length ≤ 900) (ly : y.length ≤ 900) (yx : isS x = true) (yy : isS y = true) (ne : (lettersL x).length ≠ (lettersL y).length) (r : Raised E CL badL H) : MultE CI CL [x, y] H (fun _ _ => False) E := by
  have both : ∀ z ∈ [x, y], z.length ≤ 900 ∧ isS z = true := by
    intro z hz
    simp only [List.mem_cons, List.not_mem_nil, or_false] at hz
    rcases hz with rfl | rfl
    · exact ⟨lx, yx⟩
    · exact ⟨ly, yy⟩
  refine ⟨by show 2 ≤ 20; decide, fun z hz => (both z hz).1, ?_, fun _ _ => r, ?_⟩
  · intro i z hz _ nz
    rw [(both z (List.mem_of_getElem? hz)).2] at nz
    cases nz
  · intro n all
    exact absurd (sn_eq all x (by simp) y (by simp)) ne
theorem eqv_two {H : Hp} {p q : Addr} {c : Str} {v : V} (hp : H p = some (.tup [.str c, v])) (hq : H q = some (.tup [.str c, v])) (hv : Eqv H 0 v v) : Eqv H 1 (.ref p) (.ref q) := by
  refine .tup hp hq rfl (by show 2 ≤ 10000; decide) ?_
  intro i x y hx hy
  match i, hx, hy with
  | 0, hx, hy => cases hx; cases hy; exact .str 0 c
  | 1, hx, hy => cases hx; cases hy; exact hv
  | i + 2, hx, _ => cases hx
theorem code_inv : PyData.strOk (Str.ofString "invalidstring") = true := by decide +kernel
theorem code_len : PyData.strOk (Str.ofString "lengthmismatch") = true := by decide +kernel
/-- what is due, where it is an error, as data -/
theorem due_data {K : PySem.W.Frag} {xss : List (List Nat)} {c : Str} {v : V} (lo : ∀ x ∈ xss, Lo 13 x) (d : DueIs xss c v) (ne : c ≠ "") : ∃ e, (∀ H, Dp K H v e) ∧ SeqAt.shaped (.tuple [.str c, e]) = true := by
  cases ew : xss.filter (fun x => !isS x) with
  | cons x r =>
    obtain ⟨rfl, rfl⟩ := d.1 x r ew
    have hx : Lo 13 x := lo x (List.mem_filter.mp (ew ▸ List.mem_cons_self)).1
    refine ⟨dS x, fun H => .str _, ?_⟩
    simp [SeqAt.shaped, dS, PyData.canLay0, PyData.canLayAll0, PyData.depth, PyData.depthAll, hx.ok, code_inv]
  | nil =>
    by_cases eq : AllEq xss
    · exact absurd ((d.2 ew).1 eq).1 ne
    · obtain ⟨rfl, rfl⟩ := (d.2 ew).2 eq
      refine ⟨.none, fun H => .non, ?_⟩
      simp [SeqAt.shaped, PyData.canLay0, PyData.canLayAll0, PyData.depth, PyData.depthAll, code_len]
def dBad (x : List Nat) : PyData := .tuple [.str (Str.ofString "invalidstring"), dS x]
def dLen : PyData := .tuple [.str (Str.ofString "lengthmismatch"), .none]
theorem shaped_words {m : Nat} {x : List Nat} (h : Lo m x) : SeqAt.shaped (.list [dBad x, dBad x, dLen]) = true := by
  simp [SeqAt.shaped, dBad, dLen, dS, PyData.canLay0, PyData.canLayAll0, PyData.depth, PyData.depthAll, h.ok, code_inv, code_len]
theorem txt_XX : V.str (Str.ofString "XX") = tv [88, 88] := congrArg V.str (by decide +kernel)
theorem txt_mX : V.str (Str.ofString "-X") = tv [45, 88] := congrArg V.str (by decide +kernel)
theorem txt_one : V.str (Str.ofString "1") = tv [49] := congrArg V.str (by decide +kernel)
theorem tv_ne {x y : List Nat} (h : x ≠ y) : tv x ≠ tv y := fun e => h (txt_inj (V.str.inj e))
end Tm

/-! len and repr, by an own __len__ and __repr__ -/
namespace Tm
open PySem PySem.Spec PyProof.Rows L2
section
variable {X : Cx} {C f : Addr} {fd : FuncData} {ps : List Str} {sp : Sp} {k : Nat} {E : XK}
/-- an own function that is asked by a builtin one -/
theorem own_under {pins : List (Addr × Obj)} {s : Shared} {σ : L2.St} {H : Hp} {x : Addr} {Q : VK} {R E' : Value → Shared → Prop} (promise : FnOk X.prog X.w X.K X.mg X.base CX0 k f fd ps sp) (room : Room (k + 1) X.A) (binds : Binds X.K fd ps [])
    (inv : Inv X pins σ H s) (ask : sp [.ref x] H Q E) (give : ∀ u s', EP X pins σ Q u s' → R u s') : wpAny (model X.prog X.w) X.A.in1 (call (.ref f) [.ref x]) R E' s := by
  have long : ([Value.ref x] ++ []).length = ps.length := by rw [← promise.len _ _ _ _ ask]; rfl
  apply wpAny_call
  apply codeAny_mono (promise.run X.A.in1 X.stack s H ⟨[.ref x], []⟩ [.ref x] [.ref x] Q E room.in1 inv.env0.in1 (binds s [.ref x] inv.kIn long) (.cons rfl .nil) ask)
  intro r s' end_
  cases r with
  | error _ => exact end_.elim
  | ok fl => cases fl with
    | ret u => exact give u s' (inv.after end_)
    | next => exact end_.elim
    | brk => exact end_.elim
    | cont => exact end_.elim
/-- len(o) -/
theorem call_lenOwn (at_ : PySem.W.findIn X.K (.ref C) "__len__" = some (some (.ref f))) (isF : PySem.W.isFn X.K (.ref f) = true) (promise : FnOk X.prog X.w X.K X.mg X.base CX0 k f fd ps sp) (room : Room (k + 1) X.A) (binds : Binds X.K fd ps []) :
    CallR X (.builtin "len") (fun given H Q => ∃ (x dx : Addr) (fs : List (Str × V)), given = [.ref x] ∧ H x = some (.ins C dx fs) ∧ sp [.ref x] H (fun r H' => ∃ n : Nat, r = .int n ∧ (n : Int) < 2 ^ 63 ∧ Q (.int n) H') (fun _ _ _ => False)) := by
  intro pins s σ H given held Q inv rel ask
  obtain ⟨x, dx, fs, rfl, hx, ask⟩ := ask
  obtain ⟨u, rfl, rx⟩ := vals1 rel
  obtain rfl : u = Value.ref x := rx
  obtain ⟨_, O, _⟩ := ins_get inv.hok hx
  obtain ⟨od, inst, _⟩ := O.look
  obtain ⟨m, fr⟩ := inv.fr
  refine PySem.W.len_K fr inv.mod.kin inst at_ isF (own_under promise room binds inv ask ?_)
  rintro u s' ⟨v, H', inv', rv, n, rfl, small, q⟩
  obtain ⟨tok, rfl⟩ := rv
  exact ⟨⟨Int.natCast_nonneg n, small⟩, .int n, H', inv'.tok _, ⟨_, rfl⟩, q⟩
/-- repr(o) -/
theorem call_reprOwn (at_ : PySem.W.findIn X.K (.ref C) "__repr__" = some (some (.ref f))) (isF : PySem.W.isFn X.K (.ref f) = true) (promise : FnOk X.prog X.w X.K X.mg X.base CX0 k f fd ps sp) (room : Room (k + 1) X.A) (binds : Binds X.K fd ps []) :
    CallR X (.builtin "repr") (fun given H Q => ∃ (x dx : Addr) (fs : List (Str × V)), given = [.ref x] ∧ H x = some (.ins C dx fs) ∧ sp [.ref x] H (fun r H' => ∃ z : Str, r = .str z ∧ Q (.str z) H') (fun _ _ _ => False)) := by
  intro pins s σ H given held Q inv rel ask
  obtain ⟨x, dx, fs, rfl, hx, ask⟩ := ask
  obtain ⟨u, rfl, rx⟩ := vals1 rel
  obtain rfl : u = Value.ref x := rx
  obtain ⟨_, O, _⟩ := ins_get inv.hok hx
  obtain ⟨od, inst, _⟩ := O.look
  obtain ⟨m, fr⟩ := inv.fr
  have low : X.A.in1.units < cLine := by have := room.in1.un; omega
  refine PySem.W.repr_K low fr inv.mod.kin inst at_ isF (own_under promise room binds inv ask ?_)
  rintro u s' ⟨v, H', inv', rv, z, rfl, q⟩
  obtain ⟨tok, rfl⟩ := rv
  exact ⟨.str z, H', inv', ⟨_, rfl⟩, q⟩
end
end Tm

/-! in, by an own __contains__ -/
namespace Tm
open PySem PySem.Spec PyProof.Rows L2
section
variable {X : Cx} {CX : CXT} {C f : Addr} {fd : FuncData} {ps : List Str} {sp : Sp} {k : Nat}
def rOwnIn (C : Addr) (sp : Sp) (yes : Bool → Bool) : R2 := fun v o H Q => ∃ (x dx : Addr) (fs : List (Str × V)), o = .ref x ∧ H x = some (.ins C dx fs) ∧ sp [.ref x, v] H (fun r H' => ∃ b, r = .bl b ∧ Q (.bl (yes b)) H') (fun _ _ _ => False)
theorem own_asked {pins : List (Addr × Obj)} {s : Shared} {σ : L2.St} {H : Hp} {x : Addr} {v : V} {u : Value} {Q : VK} (yes : Bool → Bool) (promise : FnOk X.prog X.w X.K X.mg X.base CX k f fd ps sp) (room : Room k X.A) (binds : Binds X.K fd ps []) (pass : Passes CX X (fun _ _ _ => False))
    (I : Inv X pins σ H s) (rel : L2.RelV v u) (ask : sp [.ref x, v] H (fun r H' => ∃ b, r = .bl b ∧ Q (.bl (yes b)) H') (fun _ _ _ => False)) :
    wpAny (model X.prog X.w) X.A (call (.ref f) [.ref x, u]) (fun r s' => wpAny (model X.prog X.w) X.A (truthy r) (fun b => EP X pins σ Q (.bool (yes b))) X.xe s') X.xe s := by
  have run := run_fn (X := X) (us := [.ref x, u]) (vs := [.ref x, v]) (dvs := []) (ds := []) promise room binds .nil pass I (.cons rfl (.cons rel .nil)) ask
  refine thn run ?_
  rintro r s' ⟨w, H', I', rw_, b, rfl, q⟩
  obtain rfl : r = .bool b := rw_
  exact wpAny_truthy_bool ⟨.bl (yes b), H', I', rfl, q⟩
/-- v in o -/
theorem op_ownIn (at_ : PySem.W.findIn X.K (.ref C) "__contains__" = some (some (.ref f))) (isF : PySem.W.isFn X.K (.ref f) = true) (promise : FnOk X.prog X.w X.K X.mg X.base CX k f fd ps sp) (room : Room k X.A) (binds : Binds X.K fd ps []) (pass : Passes CX X (fun _ _ _ => False)) : OpR X (compareOp .In) (rOwnIn C sp id) := by
  intro pins s σ H v o u w Q I rv ro ask
  obtain ⟨x, dx, fs, rfl, hx, ask⟩ := ask
  obtain rfl : w = Value.ref x := ro
  obtain ⟨mA, O, _⟩ := ins_get I.hok hx
  obtain ⟨od, inst, _⟩ := O.look
  obtain ⟨m, fr⟩ := I.fr
  exact PySem.W.in_K fr I.mod.kin inst at_ isF (own_asked id promise room binds pass I rv ask)
/-- v not in o -/
theorem op_ownNot (at_ : PySem.W.findIn X.K (.ref C) "__contains__" = some (some (.ref f))) (isF : PySem.W.isFn X.K (.ref f) = true) (promise : FnOk X.prog X.w X.K X.mg X.base CX k f fd ps sp) (room : Room k X.A) (binds : Binds X.K fd ps []) (pass : Passes CX X (fun _ _ _ => False)) : OpR X (compareOp .NotIn) (rOwnIn C sp (!·)) := by
  intro pins s σ H v o u w Q I rv ro ask
  obtain ⟨x, dx, fs, rfl, hx, ask⟩ := ask
  obtain rfl : w = Value.ref x := ro
  obtain ⟨mA, O, _⟩ := ins_get I.hok hx
  obtain ⟨od, inst, _⟩ := O.look
  obtain ⟨m, fr⟩ := I.fr
  exact PySem.W.notIn_K fr I.mod.kin inst at_ isF (own_asked (!·) promise room binds pass I rv ask)
end
end Tm

/-! == and != of objects with an own __eq__ -/
namespace Tm
open PySem PySem.Spec PyProof.Rows L2
section
variable {prog : Program} {w : World} {A : Around} {E : Value → Shared → Prop} {s : Shared} {K : PySem.W.Frag} {x C L f : Addr} {h₀ : Heap} {m : Str → Option Value} {ox : Obj} {od : Option Obj} {b tb : Value}
/-- x.__ne__(b), the one that every class has: not x.__eq__(b) -/
theorem ne_asks {Q : Value → Shared → Prop} (low : A.units + 1 < cLine) (X : K.In s.heap) (I : PySem.W.InstAt s.heap x ox C od) (isO : PySem.W.subIn K (.ref C) (.type "object") = some true)
    (eq_ : PySem.W.findIn K (.ref C) "__eq__" = some (some (.ref f))) (isF : PySem.W.isFn K (.ref f) = true)
    (h : wpAny (model prog w) A.in1 (call (.ref f) [.ref x, b]) (fun v s' => ∃ r, v = .bool r ∧ Q (.bool (!r)) s') E s) : wpAny (model prog w) A (call (.builtin "object.__ne__") [.ref x, b]) Q E s := by
  apply wpAny_call
  apply codeAny_call_builtin F.cmp_object.ne.plain F.cmpEntry_ne
  apply PySem.W.check_slot F.cmpKind_ne F.cmpSplit_ne (I.type.andThen (PySem.W.looks_subIn X isO)) (F.cmpArgs_ne _ _)
  unfold Builtin.«object.__ne__»
  refine wpAny_bind (m := slotArgs "__ne__" 1 _) (wpAny_pure ?_)
  refine wpAny_bind (wpAny_cRoomFor low ?_)
  refine wpAny_bind (PySem.W.ifBound_K X I eq_ isF (wpAny_mono h (fun v s' hv => ?_) fun _ _ e => e))
  obtain ⟨r, rfl, q⟩ := hv
  refine wpAny_bind (wpAny_truthy_bool ?_)
  exact wpAny_pure q
theorem ne_own {Q : Value → Shared → Prop} (low : A.units + 1 < cLine) (F' : Fr h₀ L s.heap m) (X₀ : K.In h₀) (I : PySem.W.InstAt s.heap x ox C od) (hb : PySem.W.Looks (model prog w) s.heap (typeOf b) tb) (hn : PySem.W.notFirst K C tb = true) (isO : PySem.W.subIn K (.ref C) (.type "object") = some true)
    (ne_ : PySem.W.findIn K (.ref C) "__ne__" = some (some (.builtin "object.__ne__"))) (eq_ : PySem.W.findIn K (.ref C) "__eq__" = some (some (.ref f))) (isF : PySem.W.isFn K (.ref f) = true)
    (h : wpAny (model prog w) A.in1 (call (.ref f) [.ref x, b]) (fun v s' => ∃ r, v = .bool r ∧ Q (.bool (!r)) s') E s) : wpAny (model prog w) A (richCompare .NotEq (.ref x) b) Q E s := by
  have X := X₀.keeps F'.keep
  have low0 : A.units < cLine := Nat.lt_of_succ_lt low
  have asked : wpAny (model prog w) A (tryCompare (.ref x) (cmpInfo .NotEq).2.1 b) (fun r s' => ∃ v, r = some (.bool v) ∧ Q (.bool v) s') E s := by
    rw [cmpInfo_NotEq]
    have fin : wpAny (model prog w) A (callSpecialIfBound? (.ref x) "__ne__" [b]) (fun r s' => ∃ v, r = some (.bool v) ∧ Q (.bool v) s') E s := by
      have told : wpAny (model prog w) A (call (.builtin "object.__ne__") ([.ref x] ++ [b]) >>= fun v => pure (some v)) (fun r s' => ∃ v, r = some (.bool v) ∧ Q (.bool v) s') E s := by
        refine wpAny_bind (ne_asks (Q := fun v s' => wpAny (model prog w) A (pure (some v)) (fun r s' => ∃ v, r = some (.bool v) ∧ Q (.bool v) s') E s') low X I isO eq_ isF (wpAny_mono h (fun v s' hv => ?_) fun _ _ e => e))
        obtain ⟨r, rfl, q⟩ := hv
        exact ⟨r, rfl, wpAny_pure ⟨_, rfl, q⟩⟩
      have here : ∀ v, bindSpecial (.builtin "object.__ne__") v = pure (.builtin "object.__ne__", [v]) := F.cmp_object.ne.bind
      simp only [callSpecialIfBound?, bindSpecialIfBound?]
      apply wpAny_holding
      apply wpAny_bind
      apply wpAny_bind
      apply wpAny_bind
      apply I.type.here
      apply (PySem.W.looks_findIn X ne_).here
      apply wpAny_bind
      apply wpAny_askSetting
      apply wpAny_ite
      split
      · apply wpAny_bind
        rw [here]
        exact wpAny_pure (wpAny_pure told)
      · apply wpAny_tryCatch
        apply wpAny_bind
        rw [here]
        exact wpAny_pure (wpAny_pure told)
    unfold tryCompare
    apply wpAny_bind
    apply wpAny_mono fin _ fun _ _ e => e
    rintro r s' ⟨v, rfl, q⟩
    exact wpAny_pure ⟨_, rfl, q⟩
  have last : wpAny (model prog w) A (tryCompare (.ref x) (cmpInfo .NotEq).2.1 b) (fun r s' => ∃ v, r = some v ∧ Q v s') E s := by
    apply wpAny_mono asked _ fun _ _ e => e
    rintro r s' ⟨v, rfl, q⟩
    exact ⟨_, rfl, q⟩
  unfold richCompare
  simp only [oneThing_ref]
  apply wpAny_holding
  apply wpAny_bind
  apply wpAny_cRoomFor low0
  apply wpAny_bind
  apply I.type.here
  apply wpAny_bind
  apply hb.here
  split
  · rename_i other
    have less : PySem.W.subIn K tb (.ref C) = some false := by
      rcases Bool.or_eq_true_iff.mp hn with e | e
      · rw [beq_iff_eq.mp e] at other
        simp at other
      · exact beq_iff_eq.mp e
    apply wpAny_bind
    apply (PySem.W.looks_subIn X less).here
    simp only [Bool.false_eq_true, if_false]
    apply wpAny_bind
    apply wpAny_mono last _ fun _ _ e => e
    rintro r s' ⟨v, rfl, q⟩
    exact wpAny_pure q
  · apply wpAny_bind
    apply wpAny_pure
    simp only [Bool.false_eq_true, if_false]
    apply wpAny_bind
    apply wpAny_mono last _ fun _ _ e => e
    rintro r s' ⟨v, rfl, q⟩
    exact wpAny_pure q
end
end Tm

/-! == and != of two objects of one class, by its own __eq__ -/
namespace Tm
open PySem PySem.Spec PyProof.Rows L2
section
variable {X : Cx} {C f : Addr} {fd : FuncData} {ps : List Str} {sp : Sp} {k : Nat} {E : XK}
def rOwnCmp (C : Addr) (sp : Sp) (yes : Bool → Bool) : R2 := fun v o H Q => ∃ (x dx y dy : Addr) (fs gs : List (Str × V)), v = .ref x ∧ o = .ref y ∧ H x = some (.ins C dx fs) ∧ H y = some (.ins C dy gs) ∧ sp [.ref x, .ref y] H (fun r H' => ∃ b, r = .bl b ∧ Q (.bl (yes b)) H') (fun _ _ _ => False)
theorem own_under2 {pins : List (Addr × Obj)} {s : Shared} {σ : L2.St} {H : Hp} {x y : Addr} {Q : VK} {R E' : Value → Shared → Prop} (promise : FnOk X.prog X.w X.K X.mg X.base CX0 k f fd ps sp) (room : Room (k + 1) X.A) (binds : Binds X.K fd ps [])
    (inv : Inv X pins σ H s) (ask : sp [.ref x, .ref y] H Q E) (give : ∀ u s', EP X pins σ Q u s' → R u s') : wpAny (model X.prog X.w) X.A.in1 (call (.ref f) [.ref x, .ref y]) R E' s := by
  have long : ([Value.ref x, .ref y] ++ []).length = ps.length := by rw [← promise.len _ _ _ _ ask]; rfl
  apply wpAny_call
  apply codeAny_mono (promise.run X.A.in1 X.stack s H ⟨[.ref x, .ref y], []⟩ [.ref x, .ref y] [.ref x, .ref y] Q E room.in1 inv.env0.in1 (binds s [.ref x, .ref y] inv.kIn long) (.cons rfl (.cons rfl .nil)) ask)
  intro r s' end_
  cases r with
  | error _ => exact end_.elim
  | ok fl => cases fl with
    | ret u => exact give u s' (inv.after end_)
    | next => exact end_.elim
    | brk => exact end_.elim
    | cont => exact end_.elim
theorem self_first {K : PySem.W.Frag} {C : Addr} : PySem.W.notFirst K C (.ref C) = true := by
  unfold PySem.W.notFirst
  simp
/-- x == y -/
theorem op_ownEq (at_ : PySem.W.findIn X.K (.ref C) "__eq__" = some (some (.ref f))) (isF : PySem.W.isFn X.K (.ref f) = true) (promise : FnOk X.prog X.w X.K X.mg X.base CX0 k f fd ps sp) (room : Room (k + 1) X.A) (binds : Binds X.K fd ps []) : OpR X (compareOp .Eq) (rOwnCmp C sp id) := by
  intro pins s σ H v o u w Q I rv ro ask
  obtain ⟨x, dx, y, dy, fs, gs, rfl, rfl, hx, hy, ask⟩ := ask
  obtain rfl : u = Value.ref x := rv
  obtain rfl : w = Value.ref y := ro
  obtain ⟨_, O, _⟩ := ins_get I.hok hx
  obtain ⟨od, inst, _⟩ := O.look
  obtain ⟨_, O2, _⟩ := ins_get I.hok hy
  obtain ⟨od2, inst2, _⟩ := O2.look
  obtain ⟨m, fr⟩ := I.fr
  have low : X.A.units < cLine := by have := room.un; omega
  show wpAny _ _ (richCompare .Eq (.ref x) (.ref y)) _ _ _
  refine PySem.W.cmp_K (op := .Eq) low fr I.mod.kin inst inst2.type self_first at_ isF ?_
  have run := run_fn (X := X) (us := [.ref x, .ref y]) (vs := [.ref x, .ref y]) (dvs := []) (ds := []) promise (room.mono (Nat.le_succ _)) binds .nil pass0 I (.cons rfl (.cons rfl .nil)) ask
  refine thn run ?_
  rintro r s' ⟨z, H', I', rz, b, rfl, q⟩
  obtain rfl : r = .bool b := rz
  exact ⟨.bl b, H', I', rfl, q⟩
/-- x != y -/
theorem op_ownNe (at_ : PySem.W.findIn X.K (.ref C) "__eq__" = some (some (.ref f))) (isF : PySem.W.isFn X.K (.ref f) = true) (isO : PySem.W.subIn X.K (.ref C) (.type "object") = some true) (ne_ : PySem.W.findIn X.K (.ref C) "__ne__" = some (some (.builtin "object.__ne__")))
    (promise : FnOk X.prog X.w X.K X.mg X.base CX0 k f fd ps sp) (room : Room (k + 1) X.A) (binds : Binds X.K fd ps []) : OpR X (compareOp .NotEq) (rOwnCmp C sp (!·)) := by
  intro pins s σ H v o u w Q I rv ro ask
  obtain ⟨x, dx, y, dy, fs, gs, rfl, rfl, hx, hy, ask⟩ := ask
  obtain rfl : u = Value.ref x := rv
  obtain rfl : w = Value.ref y := ro
  obtain ⟨_, O, _⟩ := ins_get I.hok hx
  obtain ⟨od, inst, _⟩ := O.look
  obtain ⟨_, O2, _⟩ := ins_get I.hok hy
  obtain ⟨od2, inst2, _⟩ := O2.look
  obtain ⟨m, fr⟩ := I.fr
  have low : X.A.units + 1 < cLine := by have := room.un; omega
  show wpAny _ _ (richCompare .NotEq (.ref x) (.ref y)) _ _ _
  refine ne_own low fr I.mod.kin inst inst2.type self_first isO ne_ at_ isF (own_under2 promise room binds I ask ?_)
  rintro r s' ⟨z, H', I', rz, b, rfl, q⟩
  obtain rfl : r = .bool b := rz
  exact ⟨b, rfl, .bl (!b), H', I', rfl, q⟩
end
end Tm

/-! two-place operators and the minus of an own class -/
namespace Tm
open PySem PySem.Spec PyProof.Rows L2
section
variable {X : Cx} {CX : CXT} {C f : Addr} {fd : FuncData} {ps : List Str} {sp : Sp} {k : Nat} {E : XK} {op : Operator}
/-- x op y, two of one class, by its own method, which gives an object -/
def rOwnOp (C : Addr) (sp : Sp) (E : XK) : R2 := fun v o H Q => ∃ (x dx y dy : Addr) (fs gs : List (Str × V)), v = .ref x ∧ o = .ref y ∧ H x = some (.ins C dx fs) ∧ H y = some (.ins C dy gs) ∧ sp [.ref x, .ref y] H (fun r H' => ∃ z, r = .ref z ∧ Q (.ref z) H') E
theorem op_own (first : PySem.W.selfFirst X.K C = true) (at_ : PySem.W.findIn X.K (.ref C) (PySem.dunder op.info.2) = some (some (.ref f))) (isF : PySem.W.isFn X.K (.ref f) = true) (promise : FnOk X.prog X.w X.K X.mg X.base CX k f fd ps sp) (room : Room k X.A) (binds : Binds X.K fd ps []) (pass : Passes CX X E) : OpR X (binaryOp op) (rOwnOp C sp E) := by
  intro pins s σ H v o u w Q I rv ro ask
  obtain ⟨x, dx, y, dy, fs, gs, rfl, rfl, hx, hy, ask⟩ := ask
  obtain rfl : u = Value.ref x := rv
  obtain rfl : w = Value.ref y := ro
  obtain ⟨_, O, _⟩ := ins_get I.hok hx
  obtain ⟨od, inst, _⟩ := O.look
  obtain ⟨_, O2, _⟩ := ins_get I.hok hy
  obtain ⟨od2, inst2, _⟩ := O2.look
  obtain ⟨m, fr⟩ := I.fr
  refine PySem.W.binop_K fr I.mod.kin inst inst2.type first at_ isF ?_
  have run := run_fn (X := X) (us := [.ref x, .ref y]) (vs := [.ref x, .ref y]) (dvs := []) (ds := []) promise room binds .nil pass I (.cons rfl (.cons rfl .nil)) ask
  refine thn run ?_
  rintro r s' ⟨q, H', I', rq, z, rfl, given⟩
  obtain rfl : r = .ref z := rq
  exact ⟨.ref z, H', I', rfl, given⟩
/-- -x -/
def rOwnNeg (C : Addr) (sp : Sp) (E : XK) : V → Hp → VK → Prop := fun v H Q => ∃ (x dx : Addr) (fs : List (Str × V)), v = .ref x ∧ H x = some (.ins C dx fs) ∧ sp [.ref x] H Q E
theorem un_ownNeg (at_ : PySem.W.findIn X.K (.ref C) "__neg__" = some (some (.ref f))) (isF : PySem.W.isFn X.K (.ref f) = true) (promise : FnOk X.prog X.w X.K X.mg X.base CX k f fd ps sp) (room : Room k X.A) (binds : Binds X.K fd ps []) (pass : Passes CX X E) : UnR X (unaryOp .USub) (rOwnNeg C sp E) := by
  intro pins s σ H v u Q I rv ask
  obtain ⟨x, dx, fs, rfl, hx, ask⟩ := ask
  obtain rfl : u = Value.ref x := rv
  obtain ⟨_, O, _⟩ := ins_get I.hok hx
  obtain ⟨od, inst, _⟩ := O.look
  obtain ⟨m, fr⟩ := I.fr
  exact PySem.W.ksp_neg fr I.mod.kin inst at_ isF (run_fn (X := X) (us := [.ref x]) (vs := [.ref x]) (dvs := []) (ds := []) promise room binds .nil pass I (.cons rfl .nil) ask)
end
end Tm

/-! a value of a builtin type that is asked whether it equals an object with an own __eq__: the object is asked -/
namespace Tm
open PySem PySem.Spec PyProof.Rows L2
section
variable {prog : Program} {w : World} {A : Around} {E : Value → Shared → Prop} {s : Shared} {K : PySem.W.Frag} {x C L f : Addr} {h₀ : Heap} {m : Str → Option Value} {ox : Obj} {od : Option Obj} {a : Value} {T id : String} {B : Builtin}
theorem flip_own {Q : Value → Shared → Prop} (low : A.units < cLine) (F' : Fr h₀ L s.heap m) (X₀ : K.In h₀) (I : PySem.W.InstAt s.heap x ox C od) (hT : s.TypeIs a T) (slot : Slot T (cmpInfo .Eq).2.1 id) (entry : entryFor table id = some B) (args : argsOk id ⟨[a, .ref x], []⟩)
    (apart : oneThing? .Eq a (.ref x) = none) (less : PySem.W.subIn K (.ref C) (.type T) = some false) (declines : ∀ {Q' : PySem.Fin → Shared → Prop} {A' : Around} {E' : Value → Shared → Prop}, Q' (.done (.ret .notImplemented)) s → wpAny (model prog w) A' (B ⟨[a, .ref x], []⟩) Q' E' s)
    (eq_ : PySem.W.findIn K (.ref C) "__eq__" = some (some (.ref f))) (isF : PySem.W.isFn K (.ref f) = true)
    (h : wpAny (model prog w) A (call (.ref f) [.ref x, a]) (PySem.W.CmpBack Q) E s) : wpAny (model prog w) A (richCompare .Eq a (.ref x)) Q E s := by
  have X := X₀.keeps F'.keep
  have left : wpAny (model prog w) A (tryCompare a (cmpInfo .Eq).2.1 (.ref x)) (fun r s' => r = none ∧ s' = s) E s := by
    have asked : wpAny (model prog w) A (call (.builtin id) [a, .ref x]) (fun r s' => r = .notImplemented ∧ s' = s) E s := wpAny_call_entry slot hT entry (declines ⟨_, rfl, rfl, rfl⟩) args
    exact wpAny_tryCompare_declines hT slot (wpAny_mono asked (fun v s' told => ⟨told.1, rfl, told.2⟩) fun _ _ e => e)
  have right : wpAny (model prog w) A (tryCompare (.ref x) (cmpInfo .Eq).2.2 a) (fun r s' => ∃ v, r = some v ∧ Q v s') E s := by
    unfold tryCompare
    apply wpAny_bind
    apply PySem.W.ifBound_K X I eq_ isF
    apply wpAny_mono h _ fun _ _ e => e
    intro v s' hv
    cases v
    all_goals first | exact wpAny_pure ⟨_, rfl, hv⟩ | exact False.elim hv
  have other : ((Value.type T) != (Value.ref C)) = true := by simp [bne, BEq.beq]
  unfold richCompare
  simp only [apart]
  apply wpAny_holding
  apply wpAny_bind
  apply wpAny_cRoomFor low
  apply wpAny_bind
  apply wpAny_typeOf hT
  apply wpAny_bind
  apply I.type.here
  simp only [other, if_true]
  apply wpAny_bind
  apply (PySem.W.looks_subIn X less).here
  simp only [Bool.false_eq_true, if_false]
  apply wpAny_bind
  apply wpAny_mono left _ fun _ _ e => e
  rintro r s' ⟨rfl, rfl⟩
  simp only [Bool.not_false, if_true]
  apply wpAny_bind
  apply wpAny_mono right _ fun _ _ e => e
  rintro r s' ⟨v, rfl, q⟩
  exact wpAny_pure q
/-- == inside a builtin -/
theorem eq_foreign {Q : Bool → Shared → Prop} (shape : eqBool a (.ref x) = holding [a, .ref x] (richCompare .Eq a (.ref x) >>= truthOfDropped)) (h : wpAny (model prog w) A (richCompare .Eq a (.ref x)) (fun v s' => ∃ r, v = .bool r ∧ Q r s') E s) : wpAny (model prog w) A (eqBool a (.ref x)) Q E s := by
  rw [shape]
  apply wpAny_holding
  apply wpAny_bind
  apply wpAny_mono h _ fun _ _ e => e
  rintro v s' ⟨r, rfl, q⟩
  exact wpAny_truthy_bool q
theorem shape_str (z : Str) (t : Tok) : eqBool (.str z t) (.ref x) = holding [.str z t, .ref x] (richCompare .Eq (.str z t) (.ref x) >>= truthOfDropped) := rfl
theorem shape_int (i : Int) (t : Tok) : eqBool (.int i t) (.ref x) = holding [.int i t, .ref x] (richCompare .Eq (.int i t) (.ref x) >>= truthOfDropped) := rfl
theorem shape_none : eqBool .none (.ref x) = holding [.none, .ref x] (richCompare .Eq .none (.ref x) >>= truthOfDropped) := rfl
/-- a text, an int and None say nothing of such an object -/
theorem declines_str {z : Str} {t : Tok} {Q : PySem.Fin → Shared → Prop} (I : PySem.W.InstAt s.heap x ox C od) (plain : ox.data = .plain) (q : Q (.done (.ret .notImplemented)) s) : wpAny (model prog w) A (Builtin.«str.__eq__» ⟨[.str z t, .ref x], []⟩) Q E s := by
  obtain ⟨cls, dict, data, slots⟩ := ox
  have here := I.at_
  obtain rfl : data = .plain := plain
  unfold Builtin.«str.__eq__»
  wp_walk using wpAny_load here
  exact q
theorem declines_none {Q : PySem.Fin → Shared → Prop} (q : Q (.done (.ret .notImplemented)) s) : wpAny (model prog w) A (Builtin.«NoneType.__eq__» ⟨[.none, .ref x], []⟩) Q E s := by
  unfold Builtin.«NoneType.__eq__»
  wp_walk
  exact q
theorem declines_int {i : Int} {t : Tok} {Q : PySem.Fin → Shared → Prop} (I : PySem.W.InstAt s.heap x ox C od) (plain : ox.data = .plain) (q : Q (.done (.ret .notImplemented)) s) : wpAny (model prog w) A (Builtin.«int.__eq__» ⟨[.int i t, .ref x], []⟩) Q E s := by
  obtain ⟨cls, dict, data, slots⟩ := ox
  have here := I.at_
  obtain rfl : data = .plain := plain
  unfold Builtin.«int.__eq__»
  wp_walk using wpAny_load here
  exact q
end
end Tm

/-! an object with an own __eq__, looked for in a list whose items are none like it -/
namespace Tm
open PySem PySem.Spec PyProof.Rows L2
section
variable {P : Program} {ww : World} {Ar : Around} {R : Result → Shared → Prop}
/-- at each place the list is there, and what stands at the place is not the one that is looked for -/
def Never (P : Program) (ww : World) (Ar : Around) (E : Value → Shared → Prop) (l : Addr) (x : Value) (N : Nat) (J : Nat → Shared → Prop) : Prop :=
  ∀ i s, J i s → ∃ (items : Array Value) (n : Nat), s.heap.get? l = some { cls := .type "list", data := .seq items n } ∧ items.size = N ∧ ∀ h : i < items.size, wpAny (model P ww) Ar.in1 (eqBool items[i] x) (fun r s' => r = false ∧ J (i + 1) s') E s
theorem never_found {l : Addr} {x : Value} {N : Nat} {J : Nat → Shared → Prop} (never : Never P ww Ar (fun e s' => R (.error e) s') l x N J) (last : ∀ s, J N s → R (.ok (.ret (.bool false))) s) :
    ∀ (k i : Nat), N - i = k → i ≤ N → ∀ s, J i s → wpAny (model P ww) Ar.in1 (Builtin.«list.__contains__.loop» ⟨[.ref l, x, rawInt i], []⟩) (GQ.FinOf P ww Ar R) (fun e s' => R (.error e) s') s
  | 0, i, hk, hi, s, h => by
    obtain ⟨items, n, at_, size, _⟩ := never i s h
    have done_ : R (.ok (.ret (.bool false))) s := last s ((show i = N by omega) ▸ h)
    have out : items[((i : Nat) : Int).toNat]? = none := by simp; omega
    obtain ⟨hp, g, d, tk, os⟩ := s
    wp_walk using AutoSeq1.wpAny_loadPart' at_
    rw [out]
    wp_walk
    exact done_
  | k + 1, i, hk, hi, s, h => by
    obtain ⟨items, n, at_, size, turn⟩ := never i s h
    have lt : i < items.size := by omega
    have one := turn lt
    have here : items[((i : Nat) : Int).toNat]? = some items[i] := by simp [lt]
    have next : ((i : Int) + 1) = ((i + 1 : Nat) : Int) := by omega
    have go := fun s2 (h2 : J (i + 1) s2) => never_found never last k (i + 1) (by omega) (by omega) s2 h2
    obtain ⟨hp, g, d, tk, os⟩ := s
    wp_walk using AutoSeq1.wpAny_loadPart' at_
    rw [here]
    apply wpAny_bind
    apply wpAny_mono one _ fun _ _ e => e
    rintro r s2 ⟨rfl, h2⟩
    have go := go s2 h2
    obtain ⟨hp2, g2, d2, tk2, os2⟩ := s2
    wp_walk
    rw [next]
    refine ⟨plainId_quiet MeetsSeq.plain_contains_loop _, codeAny_builtin MeetsSeq.entry_contains_loop ?_⟩
    rw [Around.under_plainId MeetsSeq.plain_contains_loop _]
    exact go
theorem never_in {l : Addr} {x : Value} {N : Nat} {J : Nat → Shared → Prop} {s : Shared} {Q E : Value → Shared → Prop} (never : Never P ww Ar E l x N J) (last : ∀ s, J N s → Q (.bool false) s) (h : J 0 s) : wpAny (model P ww) Ar (compareOp .In x (.ref l)) Q E s := by
  obtain ⟨items, n, at_, size, _⟩ := never 0 s h
  have kind : s.TypeIs (.ref l) "list" := ⟨_, at_, rfl⟩
  have walked := never_found (R := wants (fun v s' => ∃ b, v = .bool b ∧ Q (.bool b) s') E) never (fun s' j => ⟨false, rfl, last s' j⟩) N 0 rfl (Nat.zero_le _) s h
  have called : wpAny (model P ww) Ar (call (.builtin "list.__contains__") [.ref l, x]) (fun v s' => ∃ b, v = .bool b ∧ Q (.bool b) s') E s := by
    apply GQ.call_here F.slot_list_contains kind F.entry_list_contains (F.args_list_contains_2 _ _)
    obtain ⟨hp, g, d, tk, os⟩ := s
    unfold Builtin.«list.__contains__»
    wp_walk
    refine ⟨plainId_quiet MeetsSeq.plain_contains_loop _, codeAny_builtin MeetsSeq.entry_contains_loop ?_⟩
    rw [Around.under_plainId MeetsSeq.plain_contains_loop _]
    exact walked
  show wpAny _ Ar (do return .bool (← contains (.ref l) x)) Q E s
  apply wpAny_bind
  apply wpAny_contains_slot kind F.slot_list_contains
  apply wpAny_mono called _ fun _ _ e => e
  rintro v s' ⟨b, rfl, q⟩
  exact wpAny_truthy_bool (wpAny_pure q)
end
section
variable {X : Cx} {C f : Addr} {fd : FuncData} {ps : List Str} {sp : Sp} {k : Nat} {E : XK}
theorem own_under3 {pins : List (Addr × Obj)} {s : Shared} {σ : L2.St} {H : Hp} {x : Addr} {v : V} {u : Value} {Q : VK} {R E' : Value → Shared → Prop} (promise : FnOk X.prog X.w X.K X.mg X.base CX0 k f fd ps sp) (room : Room (k + 1) X.A) (binds : Binds X.K fd ps [])
    (inv : Inv X pins σ H s) (rel : L2.RelV v u) (ask : sp [.ref x, v] H Q E) (give : ∀ u s', EP X pins σ Q u s' → R u s') : wpAny (model X.prog X.w) X.A.in1 (call (.ref f) [.ref x, u]) R E' s := by
  have long : ([Value.ref x, u] ++ []).length = ps.length := by rw [← promise.len _ _ _ _ ask]; rfl
  apply wpAny_call
  apply codeAny_mono (promise.run X.A.in1 X.stack s H ⟨[.ref x, u], []⟩ [.ref x, u] [.ref x, v] Q E room.in1 inv.env0.in1 (binds s [.ref x, u] inv.kIn long) (.cons rfl (.cons rel .nil)) ask)
  intro r s' end_
  cases r with
  | error _ => exact end_.elim
  | ok fl => cases fl with
    | ret u => exact give u s' (inv.after end_)
    | next => exact end_.elim
    | brk => exact end_.elim
    | cont => exact end_.elim
/-- a text, an int, None -/
def Strange : V → Prop
  | .str _ => True
  | .int _ => True
  | .non => True
  | _ => False
def rNoIn (K : PySem.W.Frag) (C : Addr) (sp : Sp) : R2 := fun v o H Q => ∃ (x dx p : Addr) (fs : List (Str × V)) (xs : List V), v = .ref x ∧ o = .ref p ∧ H x = some (.ins C dx fs) ∧ H p = some (.lst xs) ∧ (∀ y ∈ xs, Strange y ∧ ∀ H', Same H H' → sp [.ref x, y] H' (fun r H'' => r = .bl false ∧ Same H' H'') (fun _ _ _ => False)) ∧ ∀ H', Same H H' → Q (.bl false) H'
theorem op_noIn (at_ : PySem.W.findIn X.K (.ref C) "__eq__" = some (some (.ref f))) (isF : PySem.W.isFn X.K (.ref f) = true) (noS : PySem.W.subIn X.K (.ref C) (.type "str") = some false) (noI : PySem.W.subIn X.K (.ref C) (.type "int") = some false) (noN : PySem.W.subIn X.K (.ref C) (.type "NoneType") = some false)
    (promise : FnOk X.prog X.w X.K X.mg X.base CX0 k f fd ps sp) (room : Room (k + 1) X.A) (binds : Binds X.K fd ps []) : OpR X (compareOp .In) (rNoIn X.K C sp) := by
  intro pins s σ H v o u w Q I rv ro ask
  obtain ⟨x, dx, p, fs, xs, rfl, rfl, hx, hp, each, give⟩ := ask
  obtain rfl : u = Value.ref x := rv
  obtain rfl : w = Value.ref p := ro
  have low : X.A.in1.units < cLine := by have := room.in1.un; omega
  refine never_in (N := xs.length) (J := fun _ s' => ∃ H', Inv X pins σ H' s' ∧ Same H H') ?_ (fun s' ⟨H', I', sm⟩ => ⟨.bl false, H', I', rfl, give H' sm⟩) ⟨H, I, Same.refl _⟩
  rintro i s1 ⟨H1, I1, sm1⟩
  obtain ⟨_, its, n, r1, len, here⟩ := I1.lstM (sm1 _ _ hp)
  refine ⟨its.toArray, n, here, by rw [List.size_toArray]; omega, fun lt => ?_⟩
  have lt' : i < its.length := by rw [List.size_toArray] at lt; exact lt
  have ltx : i < xs.length := by omega
  obtain ⟨item, hi, rel⟩ := r1.get (List.getElem?_eq_getElem ltx)
  have same : its.toArray[i] = item := by
    rw [List.getElem?_eq_getElem lt'] at hi
    simpa using Option.some.inj hi
  rw [same]
  obtain ⟨kind, asks⟩ := each xs[i] (List.getElem_mem ltx)
  have ask1 := asks H1 sm1
  obtain ⟨_, O, _⟩ := ins_get I1.hok (sm1 _ _ hx)
  obtain ⟨od, inst, _⟩ := O.look
  obtain ⟨m, fr⟩ := I1.fr
  have told : ∀ u s', EP X pins σ (fun r H'' => r = .bl false ∧ Same H1 H'') u s' → PySem.W.CmpBack (fun v s' => ∃ r, v = .bool r ∧ r = false ∧ ∃ H', Inv X pins σ H' s' ∧ Same H H') u s' := by
    rintro u s' ⟨z, H', I', rz, rfl, sm⟩
    obtain rfl : u = .bool false := rz
    exact ⟨false, rfl, rfl, H', I', sm1.trans sm⟩
  generalize xs[i] = y at kind rel ask1
  cases y with
  | str z =>
    obtain ⟨t, rfl⟩ := rel
    exact eq_foreign (shape_str z t) (flip_own low fr I1.mod.kin inst (typeIs_str _ _ _) F.slot_str_eq F.entry_str_eq (F.args_str_eq_2 _ _) rfl noS (declines_str inst rfl) at_ isF (own_under3 (v := .str z) promise room binds I1 ⟨t, rfl⟩ ask1 told))
  | int z =>
    obtain ⟨t, rfl⟩ := rel
    exact eq_foreign (shape_int z t) (flip_own low fr I1.mod.kin inst (typeIs_int _ _ _) F.slot_int_eq F.entry_int_eq (F.args_int_eq_2 _ _) rfl noI (declines_int inst rfl) at_ isF (own_under3 (v := .int z) promise room binds I1 ⟨t, rfl⟩ ask1 told))
  | non =>
    obtain rfl : item = .none := rel
    exact eq_foreign shape_none (flip_own low fr I1.mod.kin inst (typeIs_none _) F.slot_NoneType_eq F.entry_NoneType_eq (F.args_NoneType_eq_2 _ _) rfl noN declines_none at_ isF (own_under3 (v := .non) promise room binds I1 rfl ask1 told))
  | _ => exact kind.elim
end
end Tm

/-! Signed strings as values. -/
namespace Tm
open PySem PySem.Spec PyProof.Rows L2
def strF (ts : List Nat) : List (Str × V) := putF "written" (tv ts) []
theorem strF_at (ts : List Nat) : (strF ts).lookup ("written" : Str) = some (tv ts) := by
  unfold strF
  rw [lookup_putF, if_pos rfl]
theorem strF_no {m : Str} (ts : List Nat) (h : ¬ m = "written") : (strF ts).lookup m = none := by
  unfold strF
  rw [lookup_putF, if_neg h]
  rfl
def StrAt (C : Addr) (H : Hp) (x : Addr) (ts : List Nat) : Prop := ∃ dx : Addr, H x = some (.ins C dx (strF ts)) ∧ isS ts = true ∧ ts.length ≤ 900
theorem StrAt.same {C : Addr} {H H' : Hp} {x : Addr} {ts : List Nat} (s : StrAt C H x ts) (k : Same H H') : StrAt C H' x ts := by
  obtain ⟨dx, h, rest⟩ := s
  exact ⟨dx, k _ _ h, rest⟩
def spSInit (CI C : Addr) : Sp := fun vs H Q E => ∃ (x dx : Addr) (ts : List Nat), vs = [.ref x, tv ts] ∧ H x = some (.ins C dx []) ∧ ts.length ≤ 900 ∧ (isS ts = true → ∀ H', Kp x H H' → H' x = some (.ins C dx (strF ts)) → Q .non H') ∧ (isS ts = false → Raised E CI (badS ts) H)
def spSEq (C : Addr) : Sp := fun vs H Q _ => ∃ (x : Addr) (ts : List Nat) (y : V), vs = [.ref x, y] ∧ StrAt C H x ts ∧ ((∃ (z : Addr) (us : List Nat), y = .ref z ∧ StrAt C H z us ∧ Q (.bl (decide (ts = us))) H) ∨ (Strange y ∧ Q (.bl false) H))
def spSLen (C : Addr) : Sp := fun vs H Q _ => ∃ (x : Addr) (ts : List Nat), vs = [.ref x] ∧ StrAt C H x ts ∧ Q (.int ((lettersL ts).length : Nat)) H
def sShown (ts : List Nat) : Str := (Str.ofString "SignedString(" ++ txt ts) ++ Str.ofString ")"
def spSRepr (C : Addr) : Sp := fun vs H Q _ => ∃ (x : Addr) (ts : List Nat), vs = [.ref x] ∧ StrAt C H x ts ∧ Q (.str (sShown ts)) H
def spSText (C : Addr) : Sp := fun vs H Q _ => ∃ (x : Addr) (ts : List Nat), vs = [.ref x] ∧ StrAt C H x ts ∧ Q (tv ts) H
def spSNeg (C : Addr) : Sp := fun vs H Q _ => ∃ (x : Addr) (ts : List Nat), vs = [.ref x] ∧ StrAt C H x ts ∧ ts.length < 900 ∧ ∀ H' y, Same H H' → StrAt C H' y (signedL (signL ts + 1) (lettersL ts)) → Q (.ref y) H'
def spSMul (CI CL C : Addr) : Sp := fun vs H Q E => ∃ (x y : Addr) (ts us : List Nat), vs = [.ref x, .ref y] ∧ StrAt C H x ts ∧ StrAt C H y us ∧ (∀ n, n < 900 → Sn n ts → Sn n us → ∀ H' z, Same H H' → StrAt C H' z (multL [ts, us]) → Q (.ref z) H') ∧ (¬ AllEq [ts, us] → Raised E CL badL H) ∧ (lettersL ts).length < 900
def spSIn (C : Addr) : Sp := fun vs H Q _ => ∃ (x : Addr) (ts zs : List Nat), vs = [.ref x, tv zs] ∧ StrAt C H x ts ∧ ∀ H', Same H H' → Q (.bl ((lettersL ts).any fun c => decide (zs = [c]))) H'
end Tm

namespace T77
open PySem PySem.Spec PyProof.Rows L2 Tm

abbrev sSInit : Stmt := inClass (topS 16) 0
abbrev sSEq : Stmt := inClass (topS 16) 1
abbrev sSLen : Stmt := inClass (topS 16) 2
abbrev sSRepr : Stmt := inClass (topS 16) 3
abbrev sSText : Stmt := inClass (topS 16) 7
theorem scSInit : FnScope ["self", "text"] ["self", "text"] (defScope sSInit) := ⟨rfl, rfl, rfl, by decide +kernel, rfl, by decide +kernel, by decide +kernel⟩
theorem scSEq : FnScope ["self", "other"] ["self", "other"] (defScope sSEq) := ⟨rfl, rfl, rfl, by decide +kernel, rfl, by decide +kernel, by decide +kernel⟩
theorem scSLen : FnScope ["self"] ["self"] (defScope sSLen) := ⟨rfl, rfl, rfl, by decide +kernel, rfl, by decide +kernel, by decide +kernel⟩
theorem scSRepr : FnScope ["self"] ["self"] (defScope sSRepr) := ⟨rfl, rfl, rfl, by decide +kernel, rfl, by decide +kernel, by decide +kernel⟩
theorem scSText : FnScope ["self"] ["self"] (defScope sSText) := ⟨rfl, rfl, rfl, by decide +kernel, rfl, by decide +kernel, by decide +kernel⟩
structure SST (K : PySem.W.Frag) (mg : Str → Option Value) (C : Addr) : Prop where
  cl : Cls K C
  nW : NoAttr K C "written"
  name : mg "SignedString" = some (.ref C)
  isi : mg "isinstance" = none
  self_ : PySem.W.kitOne K (.ref C) (.ref C) = some true
  noS : PySem.W.kitOne K (.type "str") (.ref C) = some false
  noI : PySem.W.kitOne K (.type "int") (.ref C) = some false
  noN : PySem.W.kitOne K (.type "NoneType") (.ref C) = some false
  kind : PySem.W.findIn K (.ref C) "__class__" = some (some (.builtin "object.__class__"))
  get_ : PySem.W.specialIn K (.builtin "object.__class__") "__get__" = some (some (.builtin "getset_descriptor.__get__"))
  take_ : PySem.W.takesIn K (.builtin "object.__class__") = some true
  mro_ : PySem.W.mroIn K C (.type "object") = some true
section
variable {P : Program} {w : World} {K : PySem.W.Frag} {mg : Str → Option Value} {base : Heap}
theorem ok_stext {f C : Addr} {fd : FuncData} (F : Fun K "text" "SignedString.text" sSText f fd) (U : SST K mg C) : FnOk P w K mg base CX0 1 f fd ["self"] (spSText C) := by
  refine F.ok scSText (fun vs H Q E h => ?_) (fun cdv A outer s H vs Q E hr h => ?_)
  · obtain ⟨x, ts, rfl, _⟩ := h
    rfl
  · obtain ⟨x, ts, rfl, ⟨dx, hx, _⟩, q⟩ := h
    refine ⟨_, pss_one (ps_ret (pe_fld (pv 0) rfl)), ?_⟩
    exact ⟨_, rfl, x, C, dx, _, _, rfl, hx, U.cl, U.nW, strF_at ts, q⟩
theorem ok_slen {f fL C : Addr} {fd fdL : FuncData} (F : Fun K "__len__" "SignedString.__len__" sSLen f fd) (FL : Fun K "letters_of" "letters_of" sLettersOf fL fdL) (bL : Binds K fdL ["text"] []) (gL : mg "letters_of" = some (.ref fL)) (U : SST K mg C) (ml : mg "len" = none) : FnOk P w K mg base CX0 2 f fd ["self"] (spSLen C) := by
  have GL : FnOk P w K mg base CX0 1 fL fdL ["text"] spLetters := ok_letters FL
  refine F.ok scSLen (fun vs H Q E h => ?_) (fun cdv A outer s H vs Q E hr h => ?_)
  · obtain ⟨x, ts, rfl, _⟩ := h
    rfl
  · obtain ⟨x, ts, rfl, ⟨dx, hx, _, short⟩, q⟩ := h
    refine ⟨_, pss_one (ps_ret (pe_callB call_len (by rfl) ml PySem.boot_len (pa_cons (pe_call GL hr (by rfl) gL FL.kp bL .nil pass0 (pa_cons (pe_fld (pv 0) rfl) pa_nil)) pa_nil))), ?_⟩
    refine ⟨_, rfl, x, C, dx, _, _, rfl, hx, U.cl, U.nW, strF_at ts, ts, rfl, ?_, _, _, rfl, ⟨?_, rfl⟩, ?_⟩
    · exact Nat.le_of_lt (small1000 (by omega))
    · rw [txt_len]
      have := lettersL_le ts
      exact Nat.le_of_lt (small1000 (by omega))
    · rw [txt_len]
      exact q
theorem ok_srepr {f C : Addr} {fd : FuncData} (F : Fun K "__repr__" "SignedString.__repr__" sSRepr f fd) (U : SST K mg C) : FnOk P w K mg base CX0 1 f fd ["self"] (spSRepr C) := by
  refine F.ok scSRepr (fun vs H Q E h => ?_) (fun cdv A outer s H vs Q E hr h => ?_)
  · obtain ⟨x, ts, rfl, _⟩ := h
    rfl
  · obtain ⟨x, ts, rfl, ⟨dx, hx, _, short⟩, q⟩ := h
    refine ⟨_, pss_one (ps_ret (pe_joined (.cons pe_str (.cons (pe_fmt (pe_fld (pv 0) rfl)) (.cons pe_str .nil))))), ?_⟩
    have w0 : Str.empty ++ Str.ofString "SignedString(" = Str.ofString "SignedString(" := by decide +kernel
    have z0 : (Str.ofString "SignedString(").length = 13 := by decide +kernel
    have z1 : (Str.ofString ")").length = 1 := by decide +kernel
    refine ⟨_, rfl, ?_, ?_⟩
    · rw [w0, z0, sizeLine_eq]; decide
    rw [w0]
    refine ⟨_, rfl, x, C, dx, _, _, rfl, hx, U.cl, U.nW, strF_at ts, .inl ⟨_, rfl, ?_, _, rfl, ?_, _, rfl, ?_, q⟩⟩
    · rw [txt_len]; exact Nat.le_of_lt (small1000 (by omega))
    · rw [Str.length_append, z0, txt_len, sizeLine_eq]; omega
    · rw [Str.length_append, Str.length_append, z0, z1, txt_len, sizeLine_eq]; omega
theorem ok_seq {f C : Addr} {fd : FuncData} (F : Fun K "__eq__" "SignedString.__eq__" sSEq f fd) (U : SST K mg C) : FnOk P w K mg base CX0 1 f fd ["self", "other"] (spSEq C) := by
  refine F.ok scSEq (fun vs H Q E h => ?_) (fun cdv A outer s H vs Q E hr h => ?_)
  · obtain ⟨x, ts, y, rfl, _⟩ := h
    rfl
  · obtain ⟨x, ts, y, rfl, ⟨dx, hx, _, short⟩, q⟩ := h
    refine ⟨_, pss_one (ps_ret (pe_and (pe_callB call_isi (by rfl) U.isi (by decide +kernel) (pa_cons (pv 1) (pa_cons (pe_glob (v := .ref C) (by rfl) U.name rfl) pa_nil))) (pe_one (pe_cmpR op_eq (pe_fld (pv 0) rfl) (pe_fld (pv 1) rfl) (nomark _))))), ?_⟩
    have own : ∀ {z d : Addr} {gs : List (Str × V)}, H z = some (.ins C d gs) → TyX K H (.ref z) (.ref C) := fun h => .base (.ins h U.cl U.kind U.get_ U.take_ U.mro_)
    rcases q with ⟨z, us, rfl, ⟨dz, hz, _⟩, q⟩ | ⟨strange, q⟩
    · refine ⟨_, rfl, _, .ref C, _, _, true, rfl, .own C, own hz, U.self_, _, rfl, iteT ?_⟩
      refine ⟨_, rfl, x, C, dx, _, _, rfl, hx, U.cl, U.nW, strF_at ts, _, rfl, z, C, dz, _, _, rfl, hz, U.cl, U.nW, strF_at us, ?_⟩
      have e : decide (tv ts = tv us) = decide (ts = us) := decide_eq_decide.mpr ⟨fun h => txt_inj (V.str.inj h), fun h => by rw [h]⟩
      refine ⟨rfl, ?_⟩
      show Q (.bl (decide (tv ts = tv us))) H
      rw [e]
      exact q
    · cases y with
      | str v => exact ⟨_, rfl, _, .ref C, _, _, false, rfl, .own C, .base (.str v), U.noS, _, rfl, iteF q⟩
      | int v => exact ⟨_, rfl, _, .ref C, _, _, false, rfl, .own C, .base (.int v), U.noI, _, rfl, iteF q⟩
      | non => exact ⟨_, rfl, _, .ref C, _, _, false, rfl, .own C, .base .non, U.noN, _, rfl, iteF q⟩
      | _ => exact strange.elim
theorem ok_sinit {f fC C CI : Addr} {fd fdC : FuncData} (F : Fun K "__init__" "SignedString.__init__" sSInit f fd) (GC : FnOk P w K mg base (L2.CX P w) 3 fC fdC ["text"] (spChkE CI)) (FC : Fun K "check_string" "check_string" sChkS fC fdC) (bC : Binds K fdC ["text"] []) (gC : mg "check_string" = some (.ref fC)) (U : SST K mg C) :
    FnOk P w K mg base (L2.CX P w) 5 f fd ["self", "text"] (spSInit CI C) := by
  refine F.okX scSInit (fun vs H Q E h => ?_) (fun cdv A outer s H vs Q E hr h => ?_)
  · obtain ⟨x, dx, ts, rfl, _⟩ := h
    rfl
  · obtain ⟨x, dx, ts, rfl, hx, short, good, bad⟩ := h
    have hr3 : Room 3 _ := hr.mono (by decide)
    refine ⟨_, pss_cons (ps_expr (pe_call GC hr3 (by rfl) gC FC.kp bC .nil (passes_call (takes_of rfl rfl rfl rfl) (fun _ _ _ _ h => h)) (pa_cons (pv 1) pa_nil))) (pss_one (ps_fld (pv 0) (pv 1) rfl)), ?_⟩
    refine ⟨_, rfl, ts, rfl, by omega, fun ok H1 s1 => ?_, bad⟩
    refine ⟨_, rfl, _, rfl, x, C, dx, [], rfl, s1 _ _ hx, U.cl, U.nW, (by show 0 < 1000; decide), ?_⟩
    exact good ok _ (fun q o nq hq => by rw [upd_ne nq]; exact s1 _ _ hq) upd_same
end
abbrev sSNeg : Stmt := inClass (topS 16) 5
abbrev sSIn : Stmt := inClass (topS 16) 6
theorem scSNeg : FnScope ["self"] ["self"] (defScope sSNeg) := ⟨rfl, rfl, rfl, by decide +kernel, rfl, by decide +kernel, by decide +kernel⟩
theorem scSIn : FnScope ["self", "x"] ["self", "x"] (defScope sSIn) := ⟨rfl, rfl, rfl, by decide +kernel, rfl, by decide +kernel, by decide +kernel⟩
section
variable {P : Program} {w : World} {K : PySem.W.Frag} {mg : Str → Option Value} {base : Heap}
theorem ok_sneg {f fI fL fO fS C CI : Addr} {fd fdI fdL fdO fdS : FuncData} (F : Fun K "__neg__" "SignedString.__neg__" sSNeg f fd) (M : Mk K C fI) (GI : FnOk P w K mg base (L2.CX P w) 5 fI fdI ["self", "text"] (spSInit CI C)) (bI : Binds K fdI ["self", "text"] [])
    (FL : Fun K "letters_of" "letters_of" sLettersOf fL fdL) (bL : Binds K fdL ["text"] []) (gL : mg "letters_of" = some (.ref fL)) (GO : FnOk P w K mg base CX0 2 fO fdO ["text"] spSignOf) (FO : Fun K "sign_of" "sign_of" sSignOf fO fdO) (bO : Binds K fdO ["text"] []) (gO : mg "sign_of" = some (.ref fO))
    (GS : FnOk P w K mg base CX0 1 fS fdS ["turns", "letters"] spSigned) (FS : Fun K "signed" "signed" sSigned fS fdS) (bS : Binds K fdS ["turns", "letters"] []) (gS : mg "signed" = some (.ref fS)) (U : SST K mg C) : FnOk P w K mg base CX0 7 f fd ["self"] (spSNeg C) := by
  have GL : FnOk P w K mg base CX0 1 fL fdL ["text"] spLetters := ok_letters FL
  refine F.ok scSNeg (fun vs H Q E h => ?_) (fun cdv A outer s H vs Q E hr h => ?_)
  · obtain ⟨x, ts, rfl, _⟩ := h
    rfl
  · obtain ⟨x, ts, rfl, ⟨dx, hx, good, _⟩, short, q⟩ := h
    have hr1 : Room 1 _ := hr.mono (by decide)
    have hr2 : Room 2 _ := hr.mono (by decide)
    have hr6 : Room 6 _ := hr.mono (by decide)
    refine ⟨_, pss_one (ps_ret (pe_make M GI hr6 (by rfl) U.name bI .nil passL (pa_cons (pe_call GS hr1 (by rfl) gS FS.kp bS .nil pass0 (pa_cons (pe_op op_add (pe_call GO hr2 (by rfl) gO FO.kp bO .nil pass0 (pa_cons (pe_fld (pv 0) rfl) pa_nil)) pe_int) (pa_cons (pe_call GL hr1 (by rfl) gL FL.kp bL .nil pass0 (pa_cons (pe_fld (pv 0) rfl) pa_nil)) pa_nil))) pa_nil))), ?_⟩
    have le := lettersL_le ts
    have fits : ts.length ≤ sizeLine := Nat.le_of_lt (small1000 (by omega))
    refine ⟨_, rfl, x, C, dx, _, _, rfl, hx, U.cl, U.nW, strF_at ts, ts, rfl, fits, _, _, rfl, rfl, _, rfl, x, C, dx, _, _, rfl, hx, U.cl, U.nW, strF_at ts, ts, rfl, fits, _, lettersL ts, rfl, small1000 (by omega), ?_⟩
    intro y dy ny ndy ney
    have s1 : Same H (upd (upd H dy (.own y)) y (.ins C dy [])) := fun b o e => by
      rw [upd_ne (ne_of_none e ny), upd_ne (ne_of_none e ndy)]
      exact e
    have ok : isS (signedL (signL ts + 1) (lettersL ts)) = true := by
      have al := isS_al good
      have e : ∀ (t : Int) (cs : List Nat), signedL t cs = wd (decide (t % 2 = 1)) cs := fun t cs => by
        unfold signedL wd
        by_cases c : t % 2 = 1
        · rw [if_pos c, if_pos (decide_eq_true c)]
        · rw [if_neg c, if_neg (by rw [decide_eq_false c]; decide)]
      refine al_isS ?_
      rw [e, letters_wd al.lt]
      exact al
    have len : (signedL (signL ts + 1) (lettersL ts)).length ≤ 900 := by
      unfold signedL
      split
      · rw [List.length_cons]; omega
      · omega
    refine ⟨y, dy, _, rfl, upd_same, len, fun _ H' kp hy => ⟨rfl, ?_⟩, fun no => absurd ok (by rw [no]; decide)⟩
    exact q H' y (fun b o e => kp b o (ne_of_none e ny) (s1 _ _ e)) ⟨dy, hy, ok, len⟩
theorem ok_sin {f fL C : Addr} {fd fdL : FuncData} (F : Fun K "__contains__" "SignedString.__contains__" sSIn f fd) (FL : Fun K "letters_of" "letters_of" sLettersOf fL fdL) (bL : Binds K fdL ["text"] []) (gL : mg "letters_of" = some (.ref fL)) (U : SST K mg C) (ml : mg "list" = none) : FnOk P w K mg base CX0 2 f fd ["self", "x"] (spSIn C) := by
  have GL : FnOk P w K mg base CX0 1 fL fdL ["text"] spLetters := ok_letters FL
  refine F.ok scSIn (fun vs H Q E h => ?_) (fun cdv A outer s H vs Q E hr h => ?_)
  · obtain ⟨x, ts, zs, rfl, _⟩ := h
    rfl
  · obtain ⟨x, ts, zs, rfl, ⟨dx, hx, _, short⟩, q⟩ := h
    have hr1 : Room 1 _ := hr.mono (by decide)
    have le := lettersL_le ts
    refine ⟨_, pss_one (ps_ret (pe_cmpR (show OpR _ _ (rIn K false) from op_in_seq) (pv 1) (pe_callTy (call_listS rfl) (by rfl) ml boot_list (pa_cons (pe_call GL hr1 (by rfl) gL FL.kp bL .nil pass0 (pa_cons (pe_fld (pv 0) rfl) pa_nil)) pa_nil)) (by rfl))), ?_⟩
    refine ⟨_, rfl, _, rfl, x, C, dx, _, _, rfl, hx, U.cl, U.nW, strF_at ts, ts, rfl, Nat.le_of_lt (small1000 (by omega)), _, rfl, ?_, fun l nl => ?_⟩
    · rw [txt_len]; exact Nat.le_of_lt (small1000 (by omega))
    · refine ⟨l, _, rfl, .inl (SqL.of upd_same), rfl, ?_, ?_⟩
      · exact List.all_eq_true.mpr fun v hv => by
          obtain ⟨c, _, rfl⟩ := List.mem_map.mp hv
          rfl
      · have s1 : Same H (upd H l (.lst ((txt (lettersL ts)).cps.toList.map sig))) := same_upd nl
        have e : inV (tv zs) ((txt (lettersL ts)).cps.toList.map sig) = (lettersL ts).any fun c => decide (zs = [c]) := by
          have l0 : (txt (lettersL ts)).cps.toList = lettersL ts := by simp [txt]
          rw [l0]
          unfold inV
          rw [List.any_map]
          congr 1
          funext c
          show eqV (sig c) (tv zs) = _
          show (txt [c] == txt zs) = decide (zs = [c])
          by_cases h : zs = [c]
          · rw [h, decide_eq_true rfl]
            simp
          · rw [decide_eq_false h]
            exact beq_eq_false_iff_ne.mpr fun z => h (txt_inj z).symm
        show Q (.bl (inV (tv zs) ((txt (lettersL ts)).cps.toList.map sig))) _
        rw [e]
        exact q _ s1
end
abbrev sSMul : Stmt := inClass (topS 16) 4
theorem scSMul : FnScope ["self", "other"] ["self", "other"] (defScope sSMul) := ⟨rfl, rfl, rfl, by decide +kernel, rfl, by decide +kernel, by decide +kernel⟩
section
variable {P : Program} {w : World} {K : PySem.W.Frag} {mg : Str → Option Value} {base : Heap}
theorem ok_smul {f fI fM C CI CL : Addr} {fd fdI : FuncData} (F : Fun K "__mul__" "SignedString.__mul__" sSMul f fd) (M : Mk K C fI) (GI : FnOk P w K mg base (L2.CX P w) 5 fI fdI ["self", "text"] (spSInit CI C)) (bI : Binds K fdI ["self", "text"] [])
    (GM : FnR P w K mg base (L2.CX P w) 4 fM (spMultE CI CL)) (kM : PySem.W.keepIn K (.ref fM) = true) (gM : mg "multiply" = some (.ref fM)) (U : SST K mg C) : FnOk P w K mg base (L2.CX P w) 7 f fd ["self", "other"] (spSMul CI CL C) := by
  refine F.okX scSMul (fun vs H Q E h => ?_) (fun cdv A outer s H vs Q E hr h => ?_)
  · obtain ⟨x, y, ts, us, rfl, _⟩ := h
    rfl
  · obtain ⟨x, y, ts, us, rfl, ⟨dx, hx, gx, lx⟩, ⟨dy, hy, gy, ly⟩, good, bad, shorter⟩ := h
    have hr4 : Room 4 _ := hr.mono (by decide)
    have hr6 : Room 6 _ := hr.mono (by decide)
    refine ⟨_, pss_cons (ps_if (pt_not (pt_val (pe_callB call_isi (by rfl) U.isi (by decide +kernel) (pa_cons (pv 1) (pa_cons (pe_glob (v := .ref C) (by rfl) U.name rfl) pa_nil))))) pss_never pss_nil)
      (pss_one (ps_ret (pe_make M GI hr6 (by rfl) U.name bI .nil (passes_call (takes_of rfl rfl rfl rfl) (fun _ _ _ _ h => h)) (pa_cons (pe_place GM hr4 kM (by rfl) gM (passes_call (takes_of rfl rfl rfl rfl) (fun _ _ _ _ h => h)) (pa_cons (pe_fld (pv 0) rfl) (pa_cons (pe_fld (pv 1) rfl) pa_nil))) pa_nil)))), ?_⟩
    have ty : TyX K H (.ref y) (.ref C) := .base (.ins hy U.cl U.kind U.get_ U.take_ U.mro_)
    refine ⟨_, rfl, _, .ref C, _, _, true, rfl, .own C, ty, U.self_, _, rfl, iteF ?_⟩
    refine ⟨_, rfl, x, C, dx, _, _, rfl, hx, U.cl, U.nW, strF_at ts, _, rfl, y, C, dy, _, _, rfl, hy, U.cl, U.nW, strF_at us, [ts, us], rfl, by show 2 ≤ 20; decide, ?_, ?_, ?_, ?_⟩
    · intro z hz
      rcases List.mem_cons.mp hz with rfl | hz
      · exact lx
      · rw [List.mem_singleton.mp hz]; exact ly
    · intro i z hz _ no
      have mem := List.mem_of_getElem? hz
      rcases List.mem_cons.mp mem with rfl | mem
      · rw [gx] at no; cases no
      · rw [List.mem_singleton.mp mem, gy] at no; cases no
    · intro _ ne
      exact bad ne
    · intro n all H1 s1
      have sx : Sn n ts := all ts (by simp)
      have sy : Sn n us := all us (by simp)
      have hn : n < 900 := by rw [← sx.len.2.1]; exact shorter
      have sm : Sn n (multL [ts, us]) := Sn.two sx sy
      have len : (multL [ts, us]).length ≤ 900 := by have := sm.len.1; omega
      have ok := sn_isS sm
      intro z dz nz ndz nez
      have s2 : Same H1 (upd (upd H1 dz (.own z)) z (.ins C dz [])) := fun b o e => by
        rw [upd_ne (ne_of_none e nz), upd_ne (ne_of_none e ndz)]
        exact e
      refine ⟨z, dz, _, rfl, upd_same, len, fun _ H' kp hz => ⟨rfl, ?_⟩, fun no => absurd ok (by rw [no]; decide)⟩
      exact good n hn sx sy H' z (fun b o e => kp b o (ne_of_none (s1 _ _ e) nz) (s2 _ _ (s1 _ _ e))) ⟨dz, hz, ok, len⟩
end


end T77

namespace T77
open PySem PySem.Spec PyProof.Rows L2 Tm
open LamX L2H
abbrev sLaw : Stmt := topS 30
theorem scLaw : FnScope ["_law_script", "_law_bag_here", "_law_turn", "_law_size", "_law_two", "_law_three", "_law_found", "_law_rear", "_law_due", "_law_same_here", "_law_told", "_law_signs", "_law_words", "_law_longer", "_law_one", "_law_texts", "_law_k", "_law_text", "_law_sign"] ["_law_script"] (defScope sLaw) := ⟨rfl, rfl, rfl, by decide +kernel, rfl, by decide +kernel, by decide +kernel⟩
def lamName : Str := (envOfC "law" (defScope sLaw) 0 0 .none).qual ++ "<lambda>"
section
variable {P : Program} {w : World} {K : PySem.W.Frag} {mg : Str → Option Value} {base : Heap}
theorem minus_two {n : Nat} {x y : List Nat} (hx : Sn n x) (hy : Sn n y) : multL [signedL ((signL x : Int) + 1) (lettersL x), signedL ((signL y : Int) + 1) (lettersL y)] = two x y := by
  obtain ⟨s, as, rfl, _, ha⟩ := hx
  obtain ⟨t, bs, rfl, _, hb⟩ := hy
  show two _ _ = _
  have e : ∀ (s : Bool) (cs : List Nat), Al4 cs → signedL ((signL (wd s cs) : Int) + 1) (lettersL (wd s cs)) = wd (!s) cs := fun s cs h => by
    rw [sign_wd h.lt, letters_wd h.lt, signed_wd]
    cases s <;> rfl
  rw [e s as ha, e t bs hb, two_wd ha hb, two_wd ha hb]
  congr 1
  refine od_eq ?_
  cases s <;> cases t <;> simp <;> omega
theorem minus_is {n : Nat} {x : List Nat} (hx : Sn n x) : ∃ s cs, Al4 cs ∧ x = wd s cs ∧ signedL ((signL x : Int) + 1) (lettersL x) = wd (!s) cs := by
  obtain ⟨s, as, rfl, _, ha⟩ := hx
  refine ⟨s, as, ha, rfl, ?_⟩
  rw [sign_wd ha.lt, letters_wd ha.lt, signed_wd]
  cases s <;> rfl
theorem minus_minus {n : Nat} {x : List Nat} (hx : Sn n x) : signedL ((signL (signedL ((signL x : Int) + 1) (lettersL x)) : Int) + 1) (lettersL (signedL ((signL x : Int) + 1) (lettersL x))) = x := by
  obtain ⟨s, cs, ha, rfl, e⟩ := minus_is hx
  rw [e, sign_wd ha.lt, letters_wd ha.lt, signed_wd]
  cases s <;> rfl
theorem minus_ne {n : Nat} {x : List Nat} (hx : Sn n x) : x ≠ signedL ((signL x : Int) + 1) (lettersL x) := by
  obtain ⟨s, cs, ha, rfl, e⟩ := minus_is hx
  rw [e]
  intro z
  have l := congrArg List.length z
  rw [wd_len, wd_len] at l
  cases s <;> simp at l
theorem in_letters (zs cs : List Nat) : inV (tv zs) ((txt cs).cps.toList.map sig) = cs.any fun c => decide (zs = [c]) := by
  have l0 : (txt cs).cps.toList = cs := txt_cps cs
  rw [l0]
  unfold inV
  rw [List.any_map]
  congr 1
  funext c
  show eqV (sig c) (tv zs) = _
  show (txt [c] == txt zs) = decide (zs = [c])
  by_cases h : zs = [c]
  · rw [h, decide_eq_true rfl]
    simp
  · rw [decide_eq_false h]
    exact beq_eq_false_iff_ne.mpr fun z => h (txt_inj z).symm
def asked (t : List Nat) : List (List Nat) := [[49], [88], [90], [87], [89], [45], [], [88, 90], t]
theorem asked_is (t : List Nat) : [V.str (Str.ofString "1"), .str (Str.ofString "X"), .str (Str.ofString "Z"), .str (Str.ofString "W"), .str (Str.ofString "Y"), .str (Str.ofString "-"), .str (Str.ofString ""), .str (Str.ofString "XZ"), tv t] = (asked t).map tv := by
  have e0 : V.str (Str.ofString "1") = tv [49] := congrArg V.str (by decide +kernel)
  have e1 : V.str (Str.ofString "X") = tv [88] := congrArg V.str (by decide +kernel)
  have e2 : V.str (Str.ofString "Z") = tv [90] := congrArg V.str (by decide +kernel)
  have e3 : V.str (Str.ofString "W") = tv [87] := congrArg V.str (by decide +kernel)
  have e4 : V.str (Str.ofString "Y") = tv [89] := congrArg V.str (by decide +kernel)
  have e5 : V.str (Str.ofString "-") = tv [45] := congrArg V.str (by decide +kernel)
  have e6 : V.str (Str.ofString "") = tv [] := congrArg V.str (by decide +kernel)
  have e7 : V.str (Str.ofString "XZ") = tv [88, 90] := congrArg V.str (by decide +kernel)
  rw [e0, e1, e2, e3, e4, e5, e6, e7]
  rfl
def isIn (t z : List Nat) : V := .bl ((lettersL t).any fun c => decide (z = [c]))
theorem sn_more {n : Nat} {x : List Nat} (h : Sn n x) : Sn (n + 1) (x ++ [90]) := by
  obtain ⟨s, cs, rfl, hl, al⟩ := h
  refine ⟨s, cs ++ [90], ?_, by rw [List.length_append, hl]; rfl, ?_⟩
  · cases s <;> rfl
  · intro c hc
    rcases List.mem_append.mp hc with hc | hc
    · exact al c hc
    · rw [List.mem_singleton.mp hc]; decide
theorem sn_bad {n : Nat} {x : List Nat} (h : Sn n x) : isS (x ++ [89]) = false := by
  obtain ⟨s, cs, rfl, _, al⟩ := h
  have e : wd s cs ++ [89] = wd s (cs ++ [89]) := by cases s <;> rfl
  have lt : Lt (cs ++ [89]) := fun c hc => by
    rcases List.mem_append.mp hc with hc | hc
    · exact al.lt c hc
    · rw [List.mem_singleton.mp hc]; decide
  unfold isS
  rw [e, letters_wd lt, List.all_append]
  have : ([89].all fun c => decide (c ∈ Al)) = false := by decide
  rw [this, Bool.and_false]
theorem str_ext {C : Addr} {H H' : Hp} {x : Addr} {ts : List Nat} (s : StrAt C H x ts) (e : ExtN H H') : StrAt C H' x ts := by
  obtain ⟨dx, h, rest⟩ := s
  exact ⟨dx, e _ _ h (fun ps z => by cases z), rest⟩
theorem shaped_two {m : Nat} {x : List Nat} (h : Lo m x) : SeqAt.shaped (.list [dLen, dBad x]) = true := by
  simp [SeqAt.shaped, dBad, dLen, dS, PyData.canLay0, PyData.canLayAll0, PyData.depth, PyData.depthAll, h.ok, code_inv, code_len]
theorem tellsS {CI CT CM : Addr} {x : List Nat} {H : Hp} {Q : VK} (x1 : PySem.W.exmOne K (.ref CI) (.ref CT) = some true) (xf : XfC K CI) (nc : PySem.W.findIn K (.ref CI) "code" = some none) (nv : PySem.W.findIn K (.ref CI) "value" = some none)
    (out : ∀ H' t, Same H H' → H' t = none → Q (.ref t) (upd H' t (.tup [.str "invalidstring", tv x]))) : Raised (wTried K CT CM Q) CI (badS x) H :=
  fun H' d s nd hd => ⟨true, x1, fun z => Bool.noConfusion z, _, _, exc_badS xf nc nv hd, fun H2 t s2 nt => out H2 t (s.trans s2) nt⟩
theorem tellsL {CL CT CM : Addr} {H : Hp} {Q : VK} (x1 : PySem.W.exmOne K (.ref CL) (.ref CT) = some true) (xf : XfC K CL) (nc : PySem.W.findIn K (.ref CL) "code" = some none)
    (out : ∀ H' t, Same H H' → H' t = none → Q (.ref t) (upd H' t (.tup [.str "lengthmismatch", .non]))) : Raised (wTried K CT CM Q) CL badL H :=
  fun H' d s nd hd => ⟨true, x1, fun z => Bool.noConfusion z, _, _, exc_badL xf nc hd, fun H2 t s2 nt => out H2 t (s.trans s2) nt⟩
set_option maxHeartbeats 2500000 in
theorem ok_law {f fB fP fS fSt fB0 fSg fTi fTa C CI CL CT CM fI fT fMu fNe fEq fLe fRe fIn fX fF c PT : Addr} {fd fdB fdP fdS fdSt fdB0 fdSg fdTi fdTa fdI fdT fdMu fdNe fdEq fdLe fdRe fdIn : FuncData} {kVX docX pmX cdX ctX ocX kVF docF pmF cdF ctF ocF : Value} {anX odX anF odF : Option Addr} {slX slF : Array (Option Value)}
    {oc kV dc pm ct : Value} {od an : Option Addr} {sl : Array (Option Value)}
    (lk : K.lookup f = some ⟨oc, od, .func (PySem.W.fnOf "law" "law" (defArgs sLaw) (defBody sLaw) (defScope sLaw) .none kV dc pm an (.ref c) ct), sl⟩) (cc : PySem.W.codeIn K (.ref c) "law" = true)
    (GB : FnOk P w K mg base CX0 1 fB fdB ["_law_script"] (spBag K)) (FB : Fun K "_law_bag" "_law_bag" sBag fB fdB) (bB : Binds K fdB ["_law_script"] []) (gB : mg "_law_bag" = some (.ref fB))
    (GP : FnOk P w K mg base CX0 1 fP fdP ["_law_bag_here", "_law_many"] spPull) (FP : Fun K "_law_pull" "_law_pull" sPull fP fdP) (bP : Binds K fdP ["_law_bag_here", "_law_many"] []) (gP : mg "_law_pull" = some (.ref fP))
    (GS : FnOk P w K mg base CX0 3 fS fdS ["_law_found", "_law_due"] (spSame 2)) (FS : Fun K "_law_same" "_law_same" sSame fS fdS) (bS : Binds K fdS ["_law_found", "_law_due"] []) (gS : mg "_law_same" = some (.ref fS))
    (GSt : FnOk P w K mg base CX0 3 fSt fdSt ["_law_bag_here", "_law_size"] spString) (FSt : Fun K "_law_string" "_law_string" sLString fSt fdSt) (bSt : Binds K fdSt ["_law_bag_here", "_law_size"] []) (gSt : mg "_law_string" = some (.ref fSt))
    (GB0 : FnOk P w K mg base CX0 1 fB0 fdB0 ["_law_text"] spLBody) (FB0 : Fun K "_law_body" "_law_body" sLBody fB0 fdB0) (bB0 : Binds K fdB0 ["_law_text"] []) (gB0 : mg "_law_body" = some (.ref fB0))
    (GSg : FnOk P w K mg base CX0 1 fSg fdSg ["_law_mturned", "_law_body_here"] spLSigned) (FSg : Fun K "_law_signed" "_law_signed" sLSigned fSg fdSg) (bSg : Binds K fdSg ["_law_mturned", "_law_body_here"] []) (gSg : mg "_law_signed" = some (.ref fSg))
    (GTi : FnOk P w K mg base CX0 2 fTi fdTi ["_law_first", "_law_last"] spTwo) (FTi : Fun K "_law_times" "_law_times" sLTimes fTi fdTi) (bTi : Binds K fdTi ["_law_first", "_law_last"] []) (gTi : mg "_law_times" = some (.ref fTi))
    (GTa : FnOk P w K mg base CX0 3 fTa fdTa ["_law_strings_in", "_law_size"] (spTAll K)) (FTa : Fun K "_law_times_all" "_law_times_all" sLTAll fTa fdTa) (bTa : Binds K fdTa ["_law_strings_in", "_law_size"] []) (gTa : mg "_law_times_all" = some (.ref fTa))
    (M_ : Mk K C fI) (GI : FnOk P w K mg base (L2.CX P w) 5 fI fdI ["self", "text"] (spSInit CI C)) (bI : Binds K fdI ["self", "text"] [])
    (GT : FnOk P w K mg base CX0 1 fT fdT ["self"] (spSText C)) (bT : Binds K fdT ["self"] []) (mT : Meth K C "text" fT)
    (GMu : FnOk P w K mg base (L2.CX P w) 7 fMu fdMu ["self", "other"] (spSMul CI CL C)) (bMu : Binds K fdMu ["self", "other"] []) (aMu : PySem.W.findIn K (.ref C) "__mul__" = some (some (.ref fMu))) (iMu : PySem.W.isFn K (.ref fMu) = true)
    (GNe : FnOk P w K mg base CX0 7 fNe fdNe ["self"] (spSNeg C)) (bNe : Binds K fdNe ["self"] []) (aNe : PySem.W.findIn K (.ref C) "__neg__" = some (some (.ref fNe))) (iNe : PySem.W.isFn K (.ref fNe) = true)
    (GEq : FnOk P w K mg base CX0 1 fEq fdEq ["self", "other"] (spSEq C)) (bEq : Binds K fdEq ["self", "other"] []) (aEq : PySem.W.findIn K (.ref C) "__eq__" = some (some (.ref fEq))) (iEq : PySem.W.isFn K (.ref fEq) = true)
    (GLe : FnOk P w K mg base CX0 2 fLe fdLe ["self"] (spSLen C)) (bLe : Binds K fdLe ["self"] []) (aLe : PySem.W.findIn K (.ref C) "__len__" = some (some (.ref fLe))) (iLe : PySem.W.isFn K (.ref fLe) = true)
    (GRe : FnOk P w K mg base CX0 1 fRe fdRe ["self"] (spSRepr C)) (bRe : Binds K fdRe ["self"] []) (aRe : PySem.W.findIn K (.ref C) "__repr__" = some (some (.ref fRe))) (iRe : PySem.W.isFn K (.ref fRe) = true)
    (GIn : FnOk P w K mg base CX0 2 fIn fdIn ["self", "x"] (spSIn C)) (bIn : Binds K fdIn ["self", "x"] []) (aIn : PySem.W.findIn K (.ref C) "__contains__" = some (some (.ref fIn))) (iIn : PySem.W.isFn K (.ref fIn) = true)
    (first : PySem.W.selfFirst K C = true) (isO : PySem.W.subIn K (.ref C) (.type "object") = some true) (aNq : PySem.W.findIn K (.ref C) "__ne__" = some (some (.builtin "object.__ne__"))) (noS : PySem.W.subIn K (.ref C) (.type "str") = some false) (noI : PySem.W.subIn K (.ref C) (.type "int") = some false) (noN : PySem.W.subIn K (.ref C) (.type "NoneType") = some false)
    (U : SST K mg C)
    (gX : mg "_law_tried" = some (.ref fX)) (kX : PySem.W.keepIn K (.ref fX) = true) (lX : K.lookup fX = some ⟨ocX, odX, .func (PySem.W.fnOf "_law_tried" "_law_tried" (defArgs sTried) (defBody sTried) (defScope sTried) .none kVX docX pmX anX cdX ctX), slX⟩) (cX : PySem.W.codeIn K cdX "_law_tried" = true)
    (bX : L2.Binds K (PySem.W.fnOf "_law_tried" "_law_tried" (defArgs sTried) (defBody sTried) (defScope sTried) .none kVX docX pmX anX cdX ctX) ["_law_ask"] [])
    (lF : K.lookup fF = some ⟨ocF, odF, .func (PySem.W.fnOf "_law_field" "_law_field" (defArgs sField) (defBody sField) (defScope sField) .none kVF docF pmF anF cdF ctF), slF⟩) (cF : PySem.W.codeIn K cdF "_law_field" = true)
    (bF : L2.Binds K (PySem.W.fnOf "_law_field" "_law_field" (defArgs sField) (defBody sField) (defScope sField) .none kVF docF pmF anF cdF ctF) ["_law_e"] []) (gF : mg "_law_field" = some (.ref fF)) (kF : PySem.W.keepIn K (.ref fF) = true)
    (gCT : mg "ThreadError" = some (.ref CT)) (gCM : mg "Missing" = some (.ref CM)) (xI : PySem.W.exmOne K (.ref CI) (.ref CT) = some true) (xfI : XfC K CI) (ncI : PySem.W.findIn K (.ref CI) "code" = some none) (nvI : PySem.W.findIn K (.ref CI) "value" = some none)
    (xL : PySem.W.exmOne K (.ref CL) (.ref CT) = some true) (xfL : XfC K CL) (ncL : PySem.W.findIn K (.ref CL) "code" = some none)
    (TB : TabB base mg c PT) (mr : mg "range" = none) (ml : mg "len" = none) (mre : mg "repr" = none) (mint : mg "int" = none) (mli : mg "list" = none) :
    FnOk P w K mg base CX0 13 f (PySem.W.fnOf "law" "law" (defArgs sLaw) (defBody sLaw) (defScope sLaw) .none kV dc pm an (.ref c) ct) ["_law_script"] (spLawT K PT) := by
  refine fn_of lk cc scLaw (fun vs H Q E h => ?_) (fun A outer s H vs Q E hr h => ?_)
  · obtain ⟨a, ns, rfl, _⟩ := h
    rfl
  · obtain ⟨a, ns, rfl, sa, few, tab0, hand⟩ := h
    have hr1 : Room 1 _ := hr.mono (by decide)
    have hr2 : Room 2 _ := hr.mono (by decide)
    have hr3 : Room 3 _ := hr.mono (by decide)
    have hr6 : Room 6 _ := hr.mono (by decide)
    have hr7 : Room 7 _ := hr.mono (by decide)
    have hr10 : Room 10 _ := hr.mono (by decide)
    have hr11 : Room 11 _ := hr.mono (by decide)
    refine ⟨_, PSs.nox (pss_cons (ps_set (i := 1) scLaw.nd rfl (.inr rfl) (pe_call GB hr1 (by rfl) gB FB.kp bB .nil pass0 (pa_cons (pv 0) pa_nil)))
      (pss_cons (ps_for PassesOwn.never rfl (pi_range1 (by rfl) mr (pa_cons pe_int pa_nil)) (pg_name (i := 2) scLaw.nd rfl (.inl rfl))
        (pss_cons (ps_set (i := 3) scLaw.nd rfl (.inr rfl) (pe_call GP hr1 (by rfl) gP FP.kp bP .nil pass0 (pa_cons (pv 1) (pa_cons pe_int pa_nil))))
        (pss_cons (ps_set (i := 15) scLaw.nd rfl (.inr rfl) (pe_lc (own := [("_law_k", 16)]) (g := gName 16) (tt := tYes) rfl scLaw.nd (pi_range1 (by rfl) mr (pa_cons pe_int pa_nil)) (blkOk_by (own := [("_law_k", 16)]) (N := ["_law_script", "_law_bag_here", "_law_turn", "_law_size", "_law_two", "_law_three", "_law_found", "_law_rear", "_law_due", "_law_same_here", "_law_told", "_law_signs", "_law_words", "_law_longer", "_law_one", "_law_texts", "_law_k", "_law_text", "_law_sign"]) (sc := defScope sLaw) (by decide +kernel)) (fun _ _ _ _ _ => pg_name (i := 16) scLaw.nd rfl (Or.inl rfl)) (fun _ _ _ _ _ => pts_nil) (fun _ _ _ _ _ => (pe_call GSt hr3 (by rfl) gSt FSt.kp bSt .nil pass0 (pa_cons (pv 1) (pa_cons (pv 3) pa_nil))))))
        (pss_cons (ps_asg (pe_lc (own := [("_law_text", 17)]) (g := gName 17) (tt := tYes) rfl scLaw.nd (pi_list (pv 15)) (blkOk_by (own := [("_law_text", 17)]) (N := ["_law_script", "_law_bag_here", "_law_turn", "_law_size", "_law_two", "_law_three", "_law_found", "_law_rear", "_law_due", "_law_same_here", "_law_told", "_law_signs", "_law_words", "_law_longer", "_law_one", "_law_texts", "_law_k", "_law_text", "_law_sign"]) (sc := defScope sLaw) (by decide +kernel)) (fun _ _ _ _ _ => pg_name (i := 17) scLaw.nd rfl (Or.inl rfl)) (fun _ _ _ _ _ => pts_nil) (fun _ _ _ _ _ => (pe_make M_ GI hr6 (by rfl) U.name bI .nil passL (pa_cons (pv 17) pa_nil)))) (pg_lst rfl (pgs_cons (pg_name (i := 14) scLaw.nd rfl (.inr rfl)) (pgs_cons (pg_name (i := 4) scLaw.nd rfl (.inl rfl)) (pgs_cons (pg_name (i := 5) scLaw.nd rfl (.inl rfl)) pgs_nil)))))
        (pss_cons (ps_set (i := 6) scLaw.nd rfl (.inl rfl) (pe_lst (pa_cons (pe_meth0 (pe_op (op_own (op := .Mult) first aMu iMu GMu hr7 bMu passL) (pv 14) (pv 4)) U.cl mT GT hr1 bT .nil pass0) (pa_cons (pe_meth0 (pe_un (un_ownNeg aNe iNe GNe hr7 bNe pass0) (pv 14)) U.cl mT GT hr1 bT .nil pass0) (pa_cons (pe_meth0 (pe_op (op_own (op := .Mult) first aMu iMu GMu hr7 bMu passL) (pe_op (op_own (op := .Mult) first aMu iMu GMu hr7 bMu passL) (pv 14) (pv 4)) (pv 5)) U.cl mT GT hr1 bT .nil pass0) pa_nil)))))
        (pss_cons (ps_set (i := 6) scLaw.nd rfl (.inl rfl) (pe_op op_cat (pv 6) (pe_lst (pa_cons (pe_meth0 (pe_op (op_own (op := .Mult) first aMu iMu GMu hr7 bMu passL) (pe_un (un_ownNeg aNe iNe GNe hr7 bNe pass0) (pv 14)) (pe_un (un_ownNeg aNe iNe GNe hr7 bNe pass0) (pv 4))) U.cl mT GT hr1 bT .nil pass0) (pa_cons (pe_callB (call_lenOwn aLe iLe GLe hr3 bLe) (by rfl) ml (by decide +kernel) (pa_cons (pv 14) pa_nil)) (pa_cons (pe_callB (call_reprOwn aRe iRe GRe hr2 bRe) (by rfl) mre (by decide +kernel) (pa_cons (pv 4) pa_nil)) pa_nil))))))
        (pss_cons (ps_set (i := 7) scLaw.nd rfl (.inl rfl) (pe_call GSg hr1 (by rfl) gSg FSg.kp bSg .nil pass0 (pa_cons (pe_op op_add pe_int (pe_callTy call_int1 (by rfl) mint boot_int (pa_cons (pe_cmpR op_eq (pe_slice sl_str (pe_ix ix_list (pv 15) pe_int (fun _ _ => rfl)) po_none (po_some pe_int)) pe_str (nomark _)) pa_nil))) (pa_cons (pe_call GB0 hr1 (by rfl) gB0 FB0.kp bB0 .nil pass0 (pa_cons (pe_ix ix_list (pv 15) pe_int (fun _ _ => rfl)) pa_nil)) pa_nil))))
        (pss_cons (ps_set (i := 8) scLaw.nd rfl (.inl rfl) (pe_lst (pa_cons (pe_call GTi hr2 (by rfl) gTi FTi.kp bTi .nil pass0 (pa_cons (pe_ix ix_list (pv 15) pe_int (fun _ _ => rfl)) (pa_cons (pe_ix ix_list (pv 15) pe_int (fun _ _ => rfl)) pa_nil))) (pa_cons (pv 7) (pa_cons (pe_call GTa hr3 (by rfl) gTa FTa.kp bTa .nil pass0 (pa_cons (pv 15) (pa_cons (pv 3) pa_nil))) pa_nil)))))
        (pss_cons (ps_set (i := 8) scLaw.nd rfl (.inl rfl) (pe_op op_cat (pv 8) (pe_lst (pa_cons (pe_ix ix_list (pv 8) pe_int (fun _ _ => rfl)) (pa_cons (pv 3) (pa_cons (pe_op op_add_str (pe_op op_add_str pe_str (pe_ix ix_list (pv 15) pe_int (fun _ _ => rfl))) pe_str) pa_nil))))))
        (pss_cons (ps_if (PW.pt (pw_or (pt_not (pt_val (pe_call GS hr3 (by rfl) gS FS.kp bS .nil pass0 (pa_cons (pv 6) (pa_cons (pv 8) pa_nil))))) (pw_or1 (pt_cmpR (op_neD hr.units) (pe_lst (pa_cons (pe_meth0 (pv 14) U.cl mT GT hr1 bT .nil pass0) (pa_cons (pe_meth0 (pv 4) U.cl mT GT hr1 bT .nil pass0) (pa_cons (pe_meth0 (pv 5) U.cl mT GT hr1 bT .nil pass0) pa_nil)))) (pv 15) (nomark _))))) pss_never pss_nil)
        (pss_cons (ps_set (i := 9) scLaw.nd rfl (.inl rfl) (pe_cmpR op_eq (pe_ix ix_list (pv 15) pe_int (fun _ _ => rfl)) (pe_ix ix_list (pv 15) pe_int (fun _ _ => rfl)) (nomark _)))
        (pss_cons (ps_set (i := 10) scLaw.nd rfl (.inl rfl) (pe_lst (pa_cons (pe_cmpR (op_ownEq aEq iEq GEq hr2 bEq) (pv 14) (pv 4) (nomark _)) (pa_cons (pe_cmpR (op_ownNe aEq iEq isO aNq GEq hr2 bEq) (pv 14) (pv 4) (nomark _)) (pa_cons (pe_cmpR (op_ownEq aEq iEq GEq hr2 bEq) (pv 14) (pe_make M_ GI hr6 (by rfl) U.name bI .nil passL (pa_cons (pe_ix ix_list (pv 15) pe_int (fun _ _ => rfl)) pa_nil)) (nomark _)) (pa_cons (pe_cmpR (op_ownEq aEq iEq GEq hr2 bEq) (pv 14) (pe_un (un_ownNeg aNe iNe GNe hr7 bNe pass0) (pe_un (un_ownNeg aNe iNe GNe hr7 bNe pass0) (pv 14))) (nomark _)) pa_nil))))))
        (pss_cons (ps_if (pt_not (pt_val (pe_call GS hr3 (by rfl) gS FS.kp bS .nil pass0 (pa_cons (pv 10) (pa_cons (pe_lst (pa_cons (pv 9) (pa_cons (pe_not (pv 9)) (pa_cons pe_bl (pa_cons pe_bl pa_nil))))) pa_nil))))) pss_never pss_nil)
        (pss_cons (ps_if (PW.pt (pw_or (pt_cmpR (op_noIn aEq iEq noS noI noN GEq hr2 bEq) (pv 14) (pe_lst (pa_cons (pe_ix ix_list (pv 15) pe_int (fun _ _ => rfl)) (pa_cons pe_non (pa_cons pe_int pa_nil)))) (by rfl)) (pw_or1 (pt_cmpR (op_ownEq aEq iEq GEq hr2 bEq) (pv 14) (pe_un (un_ownNeg aNe iNe GNe hr7 bNe pass0) (pv 14)) (nomark _))))) pss_never pss_nil)
        (pss_cons (ps_set (i := 11) scLaw.nd rfl (.inl rfl) (pe_lst (pa_cons pe_str (pa_cons pe_str (pa_cons pe_str (pa_cons pe_str (pa_cons pe_str (pa_cons pe_str (pa_cons pe_str (pa_cons pe_str (pa_cons (pe_ix ix_list (pv 15) pe_int (fun _ _ => rfl)) pa_nil)))))))))))
        (pss_cons (ps_setLc (i := 10) (own := [("_law_sign", 18)]) (g := gName 18) (tt := tYes) rfl scLaw.nd rfl rfl (sw_true rfl rfl rfl (by decide +kernel)) (pi_list (pv 11)) (blkOk_by (own := [("_law_sign", 18)]) (N := ["_law_script", "_law_bag_here", "_law_turn", "_law_size", "_law_two", "_law_three", "_law_found", "_law_rear", "_law_due", "_law_same_here", "_law_told", "_law_signs", "_law_words", "_law_longer", "_law_one", "_law_texts", "_law_k", "_law_text", "_law_sign"]) (sc := defScope sLaw) (by decide +kernel)) (fun _ _ _ _ _ => pg_name (i := 18) scLaw.nd rfl (Or.inl rfl)) (fun _ _ _ _ _ => pts_nil) (fun _ _ _ _ _ => (pe_cmpR (op_ownIn aIn iIn GIn hr2 bIn pass0) (pv 18) (pv 14) (by rfl))))
        (pss_cons (ps_if (pt_not (pt_val (pe_call GS hr3 (by rfl) gS FS.kp bS .nil pass0 (pa_cons (pv 10) (pa_cons (pe_lc (own := [("_law_sign", 18)]) (g := gName 18) (tt := tYes) rfl scLaw.nd (pi_list (pv 11)) (blkOk_by (own := [("_law_sign", 18)]) (N := ["_law_script", "_law_bag_here", "_law_turn", "_law_size", "_law_two", "_law_three", "_law_found", "_law_rear", "_law_due", "_law_same_here", "_law_told", "_law_signs", "_law_words", "_law_longer", "_law_one", "_law_texts", "_law_k", "_law_text", "_law_sign"]) (sc := defScope sLaw) (by decide +kernel)) (fun _ _ _ _ _ => pg_name (i := 18) scLaw.nd rfl (Or.inl rfl)) (fun _ _ _ _ _ => pts_nil) (fun _ _ _ _ _ => (pe_cmpR (show OpR _ _ (rIn K false) from op_in_seq) (pv 18) (pe_callTy (call_listS rfl) (by rfl) mli boot_list (pa_cons (pe_call GB0 hr1 (by rfl) gB0 FB0.kp bB0 .nil pass0 (pa_cons (pe_ix (r := rIxL K) ix_list (pv 15) pe_int (fun _ _ => rfl)) pa_nil)) pa_nil)) (by rfl)))) pa_nil))))) pss_never pss_nil)
        (pss_cons (ps_set (i := 13) scLaw.nd rfl (.inr rfl) (pe_make M_ GI hr6 (by rfl) U.name bI .nil passL (pa_cons (pe_op op_add_str (pe_ix ix_list (pv 15) pe_int (fun _ _ => rfl)) pe_str) pa_nil)))
        (pss_cons (ps_set (i := 12) scLaw.nd rfl (.inl rfl) (pe_lst (pa_cons (LamX.pe_lamcall (k := 8) (T := [(PT, lamName)]) (TT := TTried K CT CM) (by rfl) gX kX lX cX bX scTried rfl (.inl rfl) (tried_gives (k := 8) gCT gCM lF cF bF gF kF hr11) TB rfl (List.mem_singleton.mpr rfl) (fun p hp _ => by rw [List.mem_singleton.mp hp]; rfl) hr10 (show LamX.LamS (defScope sLaw) _ from LamX.lamS_by (by decide +kernel)) rfl (fun _ _ _ _ _ => rfl)
          (fun A' outer' s' H' E' f' c' room => (pe_op (op_own (op := .Mult) first aMu iMu GMu (room.mono (by decide)) bMu (passes_call (takes_of rfl rfl rfl rfl) (fun _ _ _ _ h => h))) (pv 14) (pv 13)))) (pa_cons (pe_lamD (k := 8) (own := "_law_a") (T := [(PT, lamName)]) (TT := TTried K CT CM) (by rfl) gX kX lX cX bX scTried rfl (.inl rfl) (tried_gives (k := 8) gCT gCM lF cF bF gF kF hr11) TB rfl (List.mem_singleton.mpr rfl) (fun p hp _ => by rw [List.mem_singleton.mp hp]; rfl) hr10 (show LamD ["_law_script", "_law_bag_here", "_law_turn", "_law_size", "_law_two", "_law_three", "_law_found", "_law_rear", "_law_due", "_law_same_here", "_law_told", "_law_signs", "_law_words", "_law_longer", "_law_one", "_law_texts", "_law_k", "_law_text", "_law_sign"] (defScope sLaw) _ from lamD_by (by decide +kernel)) rfl rfl pe_int (fun _ _ _ _ _ _ _ _ => ⟨_, rfl, rfl⟩) rfl
          (fun A' outer' s' H' E' f' c' room => (pe_make M_ GI (room.mono (by decide)) (by rfl) U.name bI .nil (passes_call (takes_of rfl rfl rfl rfl) (fun _ _ _ _ h => h)) (pa_cons (pe_op op_add_str (pe_ix (r := rIxL K) ix_list (pv 15) pe_int (fun _ _ => rfl)) pe_str) pa_nil)))) pa_nil))))
        (pss_one (ps_if (pt_cmpR (op_neD hr.units) (pv 12) (pe_lst (pa_cons (pe_tup (pa_cons pe_str (pa_cons pe_non pa_nil))) (pa_cons (pe_tup (pa_cons pe_str (pa_cons (pe_op op_add_str (pe_ix ix_list (pv 15) pe_int (fun _ _ => rfl)) pe_str) pa_nil))) pa_nil))) (nomark _)) pss_never pss_nil)))))))))))))))))))))
      (pss_one (ps_ret (pe_and (pe_cmpR op_eq (pe_callB (call_lenOwn aLe iLe GLe hr3 bLe) (by rfl) ml (by decide +kernel) (pa_cons (pe_make M_ GI hr6 (by rfl) U.name bI .nil passL (pa_cons pe_str pa_nil)) pa_nil)) pe_int (nomark _)) (pe_and (pe_cmpR op_eq (pe_meth0 (pe_un (un_ownNeg aNe iNe GNe hr7 bNe pass0) (pe_make M_ GI hr6 (by rfl) U.name bI .nil passL (pa_cons pe_str pa_nil))) U.cl mT GT hr1 bT .nil pass0) pe_str (nomark _)) (pe_one (pe_cmpR (op_ownNe aEq iEq isO aNq GEq hr2 bEq) (pe_make M_ GI hr6 (by rfl) U.name bI .nil passL (pa_cons pe_str pa_nil)) (pe_make M_ GI hr6 (by rfl) U.name bI .nil passL (pa_cons pe_str pa_nil)) (nomark _))))))))), ?_⟩
    refine ⟨_, rfl, a, ns, rfl, sa, fun Hb b l sb nb nl Bb => ?_⟩
    have tabB : Tabs [(PT, lamName)] Hb := tabs_same (tabs_first tab0) sb
    refine ⟨6, rfl, by decide, by decide, for_range (lo := 0) (n := 6) (fun i σ H' => ∃ y2 y3 y4 y5 y6 y7 y8 y9 y10 y11 y12 y13 y14 y15 : Option V, σ = [some (.ref a), some (.ref b), y2, y3, y4, y5, y6, y7, y8, y9, y10, y11, y12, y13, y14, y15, none, none, none] ∧ Bag H' b l ∧ Tabs [(PT, lamName)] H')
      ⟨none, none, none, none, none, none, none, none, none, none, none, none, none, none, rfl, Bb, tabB⟩ ?_ ?_⟩
    · rintro i σ H1 hi ⟨y2, y3, y4, y5, y6, y7, y8, y9, y10, y11, y12, y13, y14, y15, rfl, B1, T1⟩
      refine ⟨_, rfl, b, l, 9, rfl, B1, by decide, by decide, fun H2 dn k2 B2 n0 n1 => ?_⟩
      have T2 := tabs_keep T1 (bag_lst B1) k2
      obtain ⟨n, rfl⟩ : ∃ n : Nat, dn = (n : Nat) := ⟨dn.toNat, by omega⟩
      -- three texts
      refine ⟨3, rfl, by decide, by decide, fun D nD => ?_⟩
      have nDb : D ≠ b := B2.nb nD
      refine lc_range (lo := 0) (n := 3) (fun i J => Kp b H2 J ∧ Bag J b l ∧ ∃ xss : List (List Nat), J D = some (.lst (xss.map tv)) ∧ xss.length = i ∧ ∀ x ∈ xss, Sn n x) ⟨Kp.new nD, B2.new nD, [], upd_same, rfl, fun x hx => absurd hx List.not_mem_nil⟩ ?_ ?_
      · rintro j J hj ⟨kJ, BJ, xss, hD, hl, hx⟩
        refine ⟨rfl, ?_⟩
        refine ⟨_, rfl, _, rfl, b, l, n, rfl, BJ, by omega, fun J2 x kJ2 BJ2 sx => ?_⟩
        refine ⟨_, kJ2 _ _ nDb hD, by rw [List.length_map, hl]; exact small1000 (by omega), (kJ.trans kJ2).put nD, BJ2.put nDb (B2.nl nD), xss ++ [x], ?_, by rw [List.length_append, hl]; rfl, ?_⟩
        · rw [upd_same, List.map_append]
          rfl
        · intro z hz
          rcases List.mem_append.mp hz with hz | hz
          · exact hx _ hz
          · rw [List.mem_singleton.mp hz]; exact sx
      rintro H3 ⟨k3, B3, xss, hD, hl, hx⟩
      have T3 := tabs_keep T2 (bag_lst B2) k3
      obtain ⟨t0, t1, t2, rfl⟩ : ∃ t0 t1 t2, xss = [t0, t1, t2] := match xss, hl with
        | [t0, t1, t2], _ => ⟨t0, t1, t2, rfl⟩
      have sn0 : Sn n t0 := hx t0 (by simp)
      have sn1 : Sn n t1 := hx t1 (by simp)
      have sn2 : Sn n t2 := hx t2 (by simp)
      clear hx k2 k3 B1 B2 T1 T2
      -- the three as values
      have n8 : n ≤ 8 := by omega
      have short : ∀ {t : List Nat}, Sn n t → t.length ≤ 900 := fun h => by have := h.len.1; omega
      refine ⟨_, rfl, D, rfl, ⟨_, SqL.of hD⟩, fun D2 nD2 => ?_⟩
      have wk := walk_list (K := K) (a := D) (xs := [t0, t1, t2].map tv)
      refine lc_it wk (fun j J => Same H3 J ∧ ∃ os : List Addr, J D2 = some (.lst (os.map V.ref)) ∧ os.length = j ∧ ∀ (k : Nat) (o : Addr) (t : List Nat), os[k]? = some o → [t0, t1, t2][k]? = some t → StrAt C J o t)
        ⟨same_upd nD2, [], upd_same, rfl, fun k o t h => by cases h⟩ (fun j J _ hv => SqL.of (hv.1 _ _ hD)) ?_ ?_
      · rintro j v J9 J hj ⟨sJ, os, hD2, lo, each⟩ ⟨rfl, hv⟩
        have hj3 : j < 3 := hj
        rw [List.getElem?_map] at hv
        cases et : [t0, t1, t2][j]? with
        | none => rw [et] at hv; cases hv
        | some t =>
        rw [et] at hv
        cases hv
        have st : Sn n t := by
          have m := List.mem_of_getElem? et
          simp only [List.mem_cons, List.not_mem_nil, or_false] at m
          rcases m with rfl | rfl | rfl
          · exact sn0
          · exact sn1
          · exact sn2
        refine ⟨rfl, ?_⟩
        refine ⟨_, rfl, ?_⟩
        intro o dy no ndo neo
        have s1 : Same J (upd (upd J dy (.own o)) o (.ins C dy [])) := fun b o' e => by
          rw [upd_ne (ne_of_none e no), upd_ne (ne_of_none e ndo)]
          exact e
        refine ⟨o, dy, t, rfl, upd_same, short st, fun ok J2 kp ho => ⟨rfl, ?_⟩, fun bad => absurd (sn_isS st) (by rw [bad]; decide)⟩
        have s2 : Same J J2 := fun b o' e => kp b o' (ne_of_none e no) (s1 _ _ e)
        have noD : o ≠ D2 := fun z => by rw [z, hD2] at no; cases no
        refine ⟨_, s2 _ _ hD2, by rw [List.length_map, lo]; exact small1000 (by omega), same_put (sJ.trans s2) nD2, os ++ [o], ?_, by rw [List.length_append, lo]; rfl, ?_⟩
        · rw [upd_same, List.map_append]
          rfl
        · intro k o' t' h1 h2
          have stay : ∀ {z : Addr} {u : List Nat}, StrAt C J2 z u → StrAt C (upd J2 D2 (.lst (os.map V.ref ++ [.ref o]))) z u := fun {z u} h => by
            obtain ⟨d, hz, rest⟩ := h
            exact ⟨d, by rw [upd_ne (ne_of hz (s2 _ _ hD2) (by intro q; cases q))]; exact hz, rest⟩
          rcases Nat.lt_or_ge k os.length with lt | ge
          · rw [List.getElem?_append_left lt] at h1
            exact stay ((each k o' t' h1 h2).same s2)
          · rw [List.getElem?_append_right ge] at h1
            have z : k - os.length = 0 := by
              rcases Nat.eq_zero_or_pos (k - os.length) with z | z
              · exact z
              · rw [List.getElem?_eq_none (show [o].length ≤ k - os.length from z)] at h1
                cases h1
            rw [z] at h1
            cases h1
            have kj : k = j := by omega
            rw [kj, et] at h2
            cases h2
            exact stay ⟨dy, ho, sn_isS st, short st⟩
      rintro H4 ⟨s4, os, hD2, lo, each⟩
      obtain ⟨one, two', three, rfl⟩ : ∃ o0 o1 o2, os = [o0, o1, o2] := match os, lo with
        | [o0, o1, o2], _ => ⟨o0, o1, o2, rfl⟩
      have a0 : StrAt C H4 one t0 := each 0 _ _ rfl rfl
      have a1 : StrAt C H4 two' t1 := each 1 _ _ rfl rfl
      have a2 : StrAt C H4 three t2 := each 2 _ _ rfl rfl
      have B4 := B3.same s4
      have T4 := tabs_same T3 s4
      have hD4 := s4 _ _ hD
      clear each s4 B3 T3 hD
      refine ⟨D2, _, rfl, SqL.of hD2, rfl, ?_⟩
      clear hD2
      have sn_lt : ∀ {t : List Nat}, Sn n t → (lettersL t).length < 900 := fun h => by rw [h.len.2.1]; omega
      have ngood : ∀ {t : List Nat}, Sn n t → t.length < 900 := fun h => by have := h.len.1; omega
      have alike : ∀ {x y : List Nat}, Sn n x → Sn n y → AllEq [x, y] := fun hx hy => by
        unfold AllEq
        simp [hx.len.2.1, hy.len.2.1]
      -- products and the like
      obtain ⟨e0, he0, _⟩ := id a0
      obtain ⟨e1, he1, _⟩ := id a1
      obtain ⟨e2, he2, _⟩ := id a2
      refine ⟨_, _, rfl, _, _, rfl, _, _, rfl, rfl, ?_⟩
      refine ⟨_, rfl, _, rfl, one, e0, two', e1, _, _, rfl, rfl, he0, he1, one, two', t0, t1, rfl, a0, a1, ?_, fun ne => absurd (alike sn0 sn1) ne, sn_lt sn0⟩
      intro m _ m0 m1 H5 z s5 az
      obtain ⟨dz, hz, _⟩ := id az
      refine ⟨z, rfl, z, dz, _, rfl, hz, strF_no _ (by decide +kernel), z, _, rfl, az, ?_⟩
      refine ⟨_, rfl, one, e0, _, rfl, s5 _ _ he0, one, t0, rfl, a0.same s5, ngood sn0, fun H6 y s6 ay => ?_⟩
      obtain ⟨dy, hy, _⟩ := id ay
      refine ⟨y, dy, _, rfl, hy, strF_no _ (by decide +kernel), y, _, rfl, ay, ?_⟩
      have s56 := s5.trans s6
      refine ⟨_, rfl, _, rfl, one, e0, two', e1, _, _, rfl, rfl, s56 _ _ he0, s56 _ _ he1, one, two', t0, t1, rfl, a0.same s56, a1.same s56, ?_, fun ne => absurd (alike sn0 sn1) ne, sn_lt sn0⟩
      intro m2 _ _ _ H7 z2 s7 az2
      obtain ⟨dz2, hz2, _⟩ := id az2
      have s57 := s56.trans s7
      have sm : Sn n (multL [t0, t1]) := Sn.two sn0 sn1
      refine ⟨z2, rfl, _, rfl, z2, dz2, three, e2, _, _, rfl, rfl, hz2, s57 _ _ he2, z2, three, _, t2, rfl, az2, a2.same s57, ?_, fun ne => absurd (alike sm sn2) ne, sn_lt sm⟩
      intro m3 _ _ _ H8 z3 s8 az3
      obtain ⟨dz3, hz3, _⟩ := id az3
      have s58 := s57.trans s8
      refine ⟨z3, rfl, z3, dz3, _, rfl, hz3, strF_no _ (by decide +kernel), z3, _, rfl, az3, by show 3 ≤ sizeLine; decide, fun fl nfl => ?_⟩
      have s59 := s58.trans (same_upd (o := .lst [tv (multL [t0, t1]), tv (signedL (signL t0 + 1) (lettersL t0)), tv (multL [multL [t0, t1], t2])]) nfl)
      have hfl : (upd H8 fl (.lst [tv (multL [t0, t1]), tv (signedL (signL t0 + 1) (lettersL t0)), tv (multL [multL [t0, t1], t2])])) fl = some (.lst [tv (multL [t0, t1]), tv (signedL (signL t0 + 1) (lettersL t0)), tv (multL [multL [t0, t1], t2])]) := upd_same
      generalize upd H8 fl (.lst [tv (multL [t0, t1]), tv (signedL (signL t0 + 1) (lettersL t0)), tv (multL [multL [t0, t1], t2])]) = H9 at s59 hfl ⊢
      have snn : ∀ {t : List Nat} (k : Int), Sn n t → Sn n (signedL k (lettersL t)) := fun {t} k h => by
        refine ⟨decide (k % 2 = 1), lettersL t, ?_, h.len.2.1, h.len.2.2⟩
        unfold signedL wd
        by_cases c : k % 2 = 1
        · rw [if_pos c, if_pos (decide_eq_true c)]
        · rw [if_neg c, if_neg (by rw [decide_eq_false c]; decide)]
      have a0 := a0.same s59
      have a1 := a1.same s59
      have a2 := a2.same s59
      have B9 := B4.same s59
      have T9 := tabs_same T4 s59
      have hD9 := s59 _ _ hD4
      have he0 := s59 _ _ he0
      have he1 := s59 _ _ he1
      have he2 := s59 _ _ he2
      clear s5 s6 s7 s8 s56 s57 s58 s59 az az2 az3 ay hz hz2 hz3 hy B4 T4 hD4 nfl
      dsimp only [gName]
      simp only [List.set_cons_succ, List.set_cons_zero]
      -- and three more
      refine ⟨_, rfl, _, rfl, one, e0, _, rfl, he0, one, t0, rfl, a0, ngood sn0, fun Ha ya sa' aya => ?_⟩
      obtain ⟨da, hya, _⟩ := id aya
      refine ⟨_, rfl, two', e1, _, rfl, sa' _ _ he1, two', t1, rfl, a1.same sa', ngood sn1, fun Hc yb sb' ayb => ?_⟩
      obtain ⟨db, hyb, _⟩ := id ayb
      refine ⟨ya, da, yb, db, _, _, rfl, rfl, sb' _ _ hya, hyb, ya, yb, _, _, rfl, aya.same sb', ayb, ?_, fun ne => absurd (alike (snn _ sn0) (snn _ sn1)) ne, sn_lt (snn _ sn0)⟩
      intro m4 _ _ _ Hd zd sd azd
      obtain ⟨dzd, hzd, _⟩ := id azd
      have s10 := sa'.trans (sb'.trans sd)
      refine ⟨zd, rfl, zd, dzd, _, rfl, hzd, strF_no _ (by decide +kernel), zd, _, rfl, azd, ?_⟩
      refine ⟨_, rfl, one, e0, _, rfl, s10 _ _ he0, one, t0, rfl, a0.same s10, _, rfl, ?_, ?_⟩
      · have := sn_lt sn0
        omega
      refine ⟨_, rfl, two', e1, _, rfl, s10 _ _ he1, two', t1, rfl, a1.same s10, _, rfl, by show 3 ≤ sizeLine; decide, fun l2 nl2 => ?_⟩
      have le0 : (lettersL t0).length = n := sn0.len.2.1
      have s11 := s10.trans (same_upd (o := .lst [tv (multL [signedL (signL t0 + 1) (lettersL t0), signedL (signL t1 + 1) (lettersL t1)]), .int ((lettersL t0).length : Nat), .str (sShown t1)]) nl2)
      refine ⟨fl, l2, _, _, rfl, rfl, s11 _ _ hfl, upd_same, by show 3 + 3 ≤ sizeLine; decide, fun q2 nq2 => ?_⟩
      have s12 := s11.trans (same_upd (o := .lst ([tv (multL [t0, t1]), tv (signedL (signL t0 + 1) (lettersL t0)), tv (multL [multL [t0, t1], t2])] ++ [tv (multL [signedL (signL t0 + 1) (lettersL t0), signedL (signL t1 + 1) (lettersL t1)]), .int ((lettersL t0).length : Nat), .str (sShown t1)])) nq2)
      have hq2 := upd_same (H := upd Hd l2 (.lst [tv (multL [signedL (signL t0 + 1) (lettersL t0), signedL (signL t1 + 1) (lettersL t1)]), .int ((lettersL t0).length : Nat), .str (sShown t1)])) (a := q2) (o := .lst ([tv (multL [t0, t1]), tv (signedL (signL t0 + 1) (lettersL t0)), tv (multL [multL [t0, t1], t2])] ++ [tv (multL [signedL (signL t0 + 1) (lettersL t0), signedL (signL t1 + 1) (lettersL t1)]), .int ((lettersL t0).length : Nat), .str (sShown t1)]))
      generalize upd (upd Hd l2 (.lst [tv (multL [signedL (signL t0 + 1) (lettersL t0), signedL (signL t1 + 1) (lettersL t1)]), .int ((lettersL t0).length : Nat), .str (sShown t1)])) q2 (.lst ([tv (multL [t0, t1]), tv (signedL (signL t0 + 1) (lettersL t0)), tv (multL [multL [t0, t1], t2])] ++ [tv (multL [signedL (signL t0 + 1) (lettersL t0), signedL (signL t1 + 1) (lettersL t1)]), .int ((lettersL t0).length : Nat), .str (sShown t1)])) = HE at s12 hq2 ⊢
      have a0 := a0.same s12
      have a1 := a1.same s12
      have a2 := a2.same s12
      have BE := B9.same s12
      have TE := tabs_same T9 s12
      have hDE := s12 _ _ hD9
      have he0 := s12 _ _ he0
      have he1 := s12 _ _ he1
      have he2 := s12 _ _ he2
      clear s10 s11 s12 sa' sb' sd nl2 nq2 aya ayb azd hya hyb hzd B9 T9 hD9 hfl
      have zt : ∀ {t : List Nat}, Sn n t → (txt t).length ≤ sizeLine := fun h => by rw [txt_len]; have := h.len.1; exact Nat.le_of_lt (small1000 (by omega))
      -- the text with the other sign
      refine ⟨_, rfl, D, _, 0, tv t0, rfl, rfl, SqL.of hDE, atI_nat (j := 0) rfl, 1, rfl, _, rfl, zt sn0, rfl, .inr ⟨_, rfl, _, _, rfl, rfl, ?_⟩⟩
      have bit0 : (1 : Int) + (if decide (V.str (cutS (txt t0) none (some 1)) = V.str (Str.ofString "-")) = true then (1 : Int) else 0) = (signL t0 : Int) + 1 := by rw [first_is, bit_sign]; omega
      refine ⟨_, rfl, D, _, 0, tv t0, rfl, rfl, SqL.of hDE, atI_nat (j := 0) rfl, t0, rfl, by have := sn0.len.1; omega, _, lettersL t0, rfl, small1000 (by omega), ?_⟩
      rw [bit0]
      -- what is due
      refine ⟨_, rfl, D, _, 0, tv t0, rfl, rfl, SqL.of hDE, atI_nat (j := 0) rfl, _, rfl, D, _, 1, tv t1, rfl, rfl, SqL.of hDE, atI_nat (j := 1) rfl, n, t0, t1, rfl, by omega, sn0, sn1, fun HF sF => ?_⟩
      refine ⟨_, rfl, _, rfl, _, rfl, n, D, [t0, t1, t2], rfl, SqL.of (sF _ _ hDE), by omega, by show 3 ≤ 20; decide, ?_, fun HG sG => ⟨by show 3 ≤ sizeLine; decide, fun du ndu => ?_⟩⟩
      · intro x hx
        simp only [List.mem_cons, List.not_mem_nil, or_false] at hx
        rcases hx with rfl | rfl | rfl
        · exact sn0
        · exact sn1
        · exact sn2
      rw [all_mult _ sn0]
      have sH := (sF.trans sG).trans (same_upd (o := .lst [tv (two t0 t1), .str (txt (signedL ((signL t0 : Int) + 1) (lettersL t0))), tv (multL [t0, t1, t2])]) ndu)
      have hdu := upd_same (H := HG) (a := du) (o := .lst [tv (two t0 t1), .str (txt (signedL ((signL t0 : Int) + 1) (lettersL t0))), tv (multL [t0, t1, t2])])
      generalize upd HG du (.lst [tv (two t0 t1), .str (txt (signedL ((signL t0 : Int) + 1) (lettersL t0))), tv (multL [t0, t1, t2])]) = HI at sH hdu ⊢
      have zS0 : (Str.ofString "SignedString(").length = 13 := by decide +kernel
      have zS1 : (Str.ofString ")").length = 1 := by decide +kernel
      have lt1 : t1.length ≤ 9 := by have := sn1.len.1; omega
      refine ⟨_, rfl, _, rfl, du, _, 0, _, rfl, rfl, SqL.of hdu, rfl, _, rfl, _, rfl, D, _, 1, tv t1, rfl, rfl, SqL.of (sH _ _ hDE), atI_nat (j := 1) rfl, _, _, rfl, rfl, by rw [txt_len, zS0]; exact Nat.le_of_lt (small1000 (by omega)), _, _, rfl, rfl, by rw [Str.length_append, txt_len, zS0, zS1]; exact Nat.le_of_lt (small1000 (by omega)), by show 3 ≤ sizeLine; decide, fun d2 nd2 => ?_⟩
      refine ⟨du, d2, _, _, rfl, rfl, (same_upd nd2) _ _ hdu, upd_same, by show 3 + 3 ≤ sizeLine; decide, fun dd ndd => ?_⟩
      have sJ := (sH.trans (same_upd (o := .lst [tv (two t0 t1), .int (n : Nat), .str ((Str.ofString "SignedString(" ++ txt t1) ++ Str.ofString ")")]) nd2)).trans (same_upd (o := .lst ([tv (two t0 t1), .str (txt (signedL ((signL t0 : Int) + 1) (lettersL t0))), tv (multL [t0, t1, t2])] ++ [tv (two t0 t1), .int (n : Nat), .str ((Str.ofString "SignedString(" ++ txt t1) ++ Str.ofString ")")])) ndd)
      have hdd := upd_same (H := upd HI d2 (.lst [tv (two t0 t1), .int (n : Nat), .str ((Str.ofString "SignedString(" ++ txt t1) ++ Str.ofString ")")])) (a := dd) (o := .lst ([tv (two t0 t1), .str (txt (signedL ((signL t0 : Int) + 1) (lettersL t0))), tv (multL [t0, t1, t2])] ++ [tv (two t0 t1), .int (n : Nat), .str ((Str.ofString "SignedString(" ++ txt t1) ++ Str.ofString ")")]))
      generalize upd (upd HI d2 (.lst [tv (two t0 t1), .int (n : Nat), .str ((Str.ofString "SignedString(" ++ txt t1) ++ Str.ofString ")")])) dd (.lst ([tv (two t0 t1), .str (txt (signedL ((signL t0 : Int) + 1) (lettersL t0))), tv (multL [t0, t1, t2])] ++ [tv (two t0 t1), .int (n : Nat), .str ((Str.ofString "SignedString(" ++ txt t1) ++ Str.ofString ")")])) = HJ at sJ hdd ⊢
      have hq2 := sJ _ _ hq2
      have a0 := a0.same sJ
      have a1 := a1.same sJ
      have a2 := a2.same sJ
      have BJ := BE.same sJ
      have TJ := tabs_same TE sJ
      have hDJ := sJ _ _ hDE
      have he0 := sJ _ _ he0
      have he1 := sJ _ _ he1
      have he2 := sJ _ _ he2
      clear sF sG sH sJ ndu nd2 ndd BE TE hDE hdu
      have turned : multL [signedL ((signL t0 : Int) + 1) (lettersL t0), signedL ((signL t1 : Int) + 1) (lettersL t1)] = two t0 t1 := minus_two sn0 sn1
      dsimp only [gName]
      simp only [List.set_cons_succ, List.set_cons_zero]
      -- found is what is due
      refine ⟨_, rfl, _, rfl, _, _, rfl, .lst hq2 hdd rfl (by show 6 ≤ 10000; decide) (fun k v v' hv hv' => ?_), fun HK sK => ?_⟩
      · match k, hv, hv' with
        | 0, hv, hv' => cases hv; cases hv'; exact .str _ _
        | 1, hv, hv' => cases hv; cases hv'; exact .str _ _
        | 2, hv, hv' => cases hv; cases hv'; exact .str _ _
        | 3, hv, hv' => cases hv; cases hv'; rw [turned]; exact .str _ _
        | 4, hv, hv' => cases hv; cases hv'; rw [le0]; exact .int _ _
        | 5, hv, hv' => cases hv; cases hv'; exact .str _ _
        | k + 6, hv, _ => cases hv
      refine ⟨true, rfl, iteF ?_⟩
      have a0 := a0.same sK
      have a1 := a1.same sK
      have a2 := a2.same sK
      have hDK := sK _ _ hDJ
      have he0 := sK _ _ he0
      have he1 := sK _ _ he1
      have he2 := sK _ _ he2
      have BK := BJ.same sK
      have TK := tabs_same TJ sK
      clear hq2 hdd sK BJ TJ hDJ
      have los : ∀ x ∈ [t0, t1, t2], ∃ m, Lo m x := by
        intro x hx
        simp only [List.mem_cons, List.not_mem_nil, or_false] at hx
        rcases hx with rfl | rfl | rfl
        · exact ⟨_, sn0.lo (Nat.le_refl _)⟩
        · exact ⟨_, sn1.lo (Nat.le_refl _)⟩
        · exact ⟨_, sn2.lo (Nat.le_refl _)⟩
      refine ⟨_, rfl, one, e0, _, rfl, he0, strF_no _ (by decide +kernel), one, t0, rfl, a0, _, rfl, two', e1, _, rfl, he1, strF_no _ (by decide +kernel), two', t1, rfl, a1, _, rfl, three, e2, _, rfl, he2, strF_no _ (by decide +kernel), three, t2, rfl, a2, by show 3 ≤ sizeLine; decide, fun q3 nq3 => ?_⟩
      refine ⟨_, rfl, _, _, .lst (SqL.of upd_same) (dp_texts [t0, t1, t2]), .lst (SqL.of ((same_upd nq3) _ _ hDK)) (dp_texts [t0, t1, t2]), shaped_texts los, shaped_texts los, _, rfl, ?_⟩
      refine ifF (by rw [SeqAt.eqv_refl _ (SeqAt.canLay_of_shaped (shaped_texts los))]; rfl) ?_
      have sL := same_upd (o := .lst [tv t0, tv t1, tv t2]) nq3
      generalize upd HK q3 (.lst [tv t0, tv t1, tv t2]) = HL at sL ⊢
      have a0 := a0.same sL
      have a1 := a1.same sL
      have a2 := a2.same sL
      have hDL := sL _ _ hDK
      have he0 := sL _ _ he0
      have he1 := sL _ _ he1
      have BL := BK.same sL
      have TL := tabs_same TK sL
      clear sL nq3 BK TK hDK he2
      -- equal or not
      refine ⟨_, rfl, D, _, 0, tv t0, rfl, rfl, SqL.of hDL, atI_nat (j := 0) rfl, _, rfl, D, _, 1, tv t1, rfl, rfl, SqL.of hDL, atI_nat (j := 1) rfl, rfl, ?_⟩
      refine ⟨_, rfl, _, rfl, one, e0, two', e1, _, _, rfl, rfl, he0, he1, one, t0, _, rfl, a0, .inl ⟨two', t1, rfl, a1, _, rfl, ?_⟩⟩
      refine ⟨_, rfl, _, rfl, one, e0, two', e1, _, _, rfl, rfl, he0, he1, one, t0, _, rfl, a0, .inl ⟨two', t1, rfl, a1, _, rfl, ?_⟩⟩
      refine ⟨_, rfl, _, rfl, D, _, 0, tv t0, rfl, rfl, SqL.of hDL, atI_nat (j := 0) rfl, ?_⟩
      intro o do_ no ndo neo
      have sM : Same HL (upd (upd HL do_ (.own o)) o (.ins C do_ [])) := fun b o' e => by
        rw [upd_ne (ne_of_none e no), upd_ne (ne_of_none e ndo)]
        exact e
      refine ⟨o, do_, t0, rfl, upd_same, short sn0, fun ok HM kp ho => ⟨rfl, ?_⟩, fun bad => absurd (sn_isS sn0) (by rw [bad]; decide)⟩
      have sN : Same HL HM := fun b o' e => kp b o' (ne_of_none e no) (sM _ _ e)
      refine ⟨one, e0, o, do_, _, _, rfl, rfl, sN _ _ he0, ho, one, t0, _, rfl, a0.same sN, .inl ⟨o, t0, rfl, ⟨do_, ho, sn_isS sn0, short sn0⟩, _, rfl, ?_⟩⟩
      refine ⟨_, rfl, _, rfl, one, e0, _, rfl, sN _ _ he0, one, t0, rfl, a0.same sN, ngood sn0, fun HO_ yo so ayo => ?_⟩
      obtain ⟨dyo, hyo, _⟩ := id ayo
      refine ⟨yo, dyo, _, rfl, hyo, yo, _, rfl, ayo, ngood (snn _ sn0), fun HP yp sp_ ayp => ?_⟩
      obtain ⟨dyp, hyp, _⟩ := id ayp
      have sQ := (sN.trans so).trans sp_
      refine ⟨one, e0, yp, dyp, _, _, rfl, rfl, sQ _ _ he0, hyp, one, t0, _, rfl, a0.same sQ, .inl ⟨yp, _, rfl, ayp, _, rfl, ?_⟩⟩
      refine ⟨by show 4 ≤ sizeLine; decide, fun tl ntl => ?_⟩
      have twice : signedL ((signL (signedL ((signL t0 : Int) + 1) (lettersL t0)) : Int) + 1) (lettersL (signedL ((signL t0 : Int) + 1) (lettersL t0))) = t0 := minus_minus sn0
      generalize hG : upd HP tl _ = HR
      have hR : HR tl = some (.lst [.bl (decide (t0 = t1)), .bl (!decide (t0 = t1)), .bl (decide (t0 = t0)), .bl (decide (t0 = signedL ((signL (signedL ((signL t0 : Int) + 1) (lettersL t0)) : Int) + 1) (lettersL (signedL ((signL t0 : Int) + 1) (lettersL t0)))))]) := by rw [← hG]; exact upd_same
      have sR : Same HL HR := sQ.trans (hG ▸ same_upd ntl)
      clear hG
      have a0 := a0.same sR
      have a1 := a1.same sR
      have hDR := sR _ _ hDL
      have he0 := sR _ _ he0
      have he1 := sR _ _ he1
      have BR := BL.same sR
      have TR := tabs_same TL sR
      clear sR sQ sN sM so sp_ ntl hyo hyp ayo ayp kp ho BL TL hDL no ndo neo
      have tve : decide (tv t0 = tv t1) = decide (t0 = t1) := decide_eq_decide.mpr ⟨fun h => txt_inj (V.str.inj h), fun h => by rw [h]⟩
      rw [tve]
      refine ⟨_, rfl, _, rfl, _, rfl, _, rfl, by show 4 ≤ sizeLine; decide, fun q4 nq4 => ?_⟩
      refine ⟨_, _, rfl, .lst ((same_upd nq4) _ _ hR) upd_same rfl (by show 4 ≤ 10000; decide) (fun k v v' hv hv' => ?_), fun HS sS => ⟨true, rfl, iteF ?_⟩⟩
      · match k, hv, hv' with
        | 0, hv, hv' => cases hv; cases hv'; exact .bl _ _
        | 1, hv, hv' => cases hv; cases hv'; exact .bl _ _
        | 2, hv, hv' => cases hv; cases hv'; rw [decide_eq_true rfl]; exact .bl _ _
        | 3, hv, hv' => cases hv; cases hv'; rw [twice, decide_eq_true rfl]; exact .bl _ _
        | k + 4, hv, _ => cases hv
      have sS := (same_upd nq4).trans sS
      have a0 := a0.same sS
      have a1 := a1.same sS
      have hDS := sS _ _ hDR
      have he0 := sS _ _ he0
      have he1 := sS _ _ he1
      have BS := BR.same sS
      have TS := tabs_same TR sS
      clear sS BR TR hDR hR nq4
      -- nothing else
      refine ⟨_, rfl, _, rfl, D, _, 0, tv t0, rfl, rfl, SqL.of hDS, atI_nat (j := 0) rfl, by show 3 ≤ sizeLine; decide, fun q5 nq5 => ?_⟩
      have sT := same_upd (o := .lst [tv t0, .non, .int 0]) nq5
      refine ⟨one, e0, q5, _, _, rfl, rfl, sT _ _ he0, upd_same, ?_, fun HU sU => ?_⟩
      · intro y hy
        simp only [List.mem_cons, List.not_mem_nil, or_false] at hy
        have all : ∀ y, Strange y → ∀ H', Same (upd HS q5 (.lst [tv t0, .non, .int 0])) H' → spSEq C [.ref one, y] H' (fun r H'' => r = .bl false ∧ Same H' H'') (fun _ _ _ => False) := fun y sy H' s' => ⟨one, t0, y, rfl, (a0.same sT).same s', .inr ⟨sy, rfl, fun _ _ h => h⟩⟩
        rcases hy with rfl | rfl | rfl
        · exact ⟨trivial, all _ trivial⟩
        · exact ⟨trivial, all _ trivial⟩
        · exact ⟨trivial, all _ trivial⟩
      have sU := sT.trans sU
      have a0 := a0.same sU
      have a1 := a1.same sU
      have hDU := sU _ _ hDS
      have he0 := sU _ _ he0
      have he1 := sU _ _ he1
      have BU := BS.same sU
      have TU := tabs_same TS sU
      clear sU sT BS TS hDS nq5
      refine ⟨false, rfl, iteF ?_⟩
      refine ⟨_, rfl, _, rfl, one, e0, _, rfl, he0, one, t0, rfl, a0, ngood sn0, fun HV yv sv ayv => ?_⟩
      obtain ⟨dyv, hyv, _⟩ := id ayv
      refine ⟨one, e0, yv, dyv, _, _, rfl, rfl, sv _ _ he0, hyv, one, t0, _, rfl, a0.same sv, .inl ⟨yv, _, rfl, ayv, _, rfl, ?_⟩⟩
      refine ⟨_, rfl, ifF (decide_eq_false (minus_ne sn0)) ?_⟩
      refine ⟨_, rfl, D, _, 0, tv t0, rfl, rfl, SqL.of (sv _ _ hDU), atI_nat (j := 0) rfl, by show 9 ≤ sizeLine; decide, fun sg nsg => ?_⟩
      generalize hG : upd HV sg _ = HW
      have hsg : HW sg = some (.lst ((asked t0).map tv)) := by rw [← hG, ← asked_is]; exact upd_same
      have sW : Same HU HW := sv.trans (hG ▸ same_upd nsg)
      clear hG
      have a0 := a0.same sW
      have a1 := a1.same sW
      have hDW := sW _ _ hDU
      have he0 := sW _ _ he0
      have BW := BU.same sW
      have TW := tabs_same TU sW
      clear sW sv hyv ayv BU TU hDU nsg he1
      dsimp only [gName]
      simp only [List.set_cons_succ, List.set_cons_zero]
      -- each sign
      obtain ⟨SG, eSG, a9⟩ : ∃ SG, SG = asked t0 ∧ SG.length = 9 := ⟨_, rfl, rfl⟩
      rw [← eSG] at hsg
      clear eSG
      have aL : (SG.map tv).length = SG.length := List.length_map ..
      have at_ : ∀ {i : Nat} {v : V}, (SG.map tv)[i]? = some v → ∃ x, SG[i]? = some x ∧ v = tv x := by
        intro i v hv
        rw [List.getElem?_map] at hv
        cases ex : SG[i]? with
        | none => rw [ex] at hv; cases hv
        | some x =>
          rw [ex] at hv
          exact ⟨x, rfl, (Option.some.inj hv).symm⟩
      refine ⟨_, rfl, sg, rfl, ⟨_, SqL.of hsg⟩, fun W nW => ?_⟩
      refine lc_list (K := K) (a := sg) (xs := SG.map tv) (fun i J => Same HW J ∧ J W = some (.lst ((SG.take i).map (isIn t0)))) ⟨same_upd nW, upd_same⟩ (fun i J _ hv => SqL.of (hv.1 _ _ hsg)) ?_ ?_
      · rintro i v J hv ⟨sJ, hW⟩
        obtain ⟨x, ex, rfl⟩ := at_ hv
        refine ⟨rfl, ?_⟩
        refine ⟨_, rfl, _, rfl, one, e0, _, rfl, sJ _ _ he0, one, t0, x, rfl, a0.same sJ, fun J2 s2 => ⟨_, rfl, ?_⟩⟩
        refine ⟨_, s2 _ _ hW, ?_, same_put (sJ.trans s2) nW, ?_⟩
        · rw [List.length_map, List.length_take]
          exact small1000 (by omega)
        · rw [upd_same, List.take_succ, ex, List.map_append]
          rfl
      rintro HX ⟨sX, hW⟩
      rw [aL, List.take_length] at hW
      refine ⟨_, rfl, _, rfl, sg, rfl, ⟨_, SqL.of (sX _ _ hsg)⟩, fun W2 nW2 => ?_⟩
      refine lc_list (K := K) (a := sg) (xs := SG.map tv) (fun i J => Same HX J ∧ J W2 = some (.lst ((SG.take i).map (isIn t0)))) ⟨same_upd nW2, upd_same⟩ (fun i J _ hv => SqL.of (hv.1 _ _ (sX _ _ hsg))) ?_ ?_
      · rintro i v J hv ⟨sJ, hW⟩
        obtain ⟨x, ex, rfl⟩ := at_ hv
        have lt0 : t0.length ≤ 9 := by have := sn0.len.1; omega
        refine ⟨rfl, ?_⟩
        refine ⟨_, rfl, _, rfl, D, _, 0, tv t0, rfl, rfl, SqL.of (sJ _ _ (sX _ _ hDW)), atI_nat (j := 0) rfl, t0, rfl, by omega, _, rfl, by rw [txt_len, le0]; exact Nat.le_of_lt (small1000 (by omega)), fun l_ nl_ => ?_⟩
        refine ⟨l_, _, rfl, .inl (SqL.of upd_same), rfl, ?_, ?_⟩
        · exact List.all_eq_true.mpr fun v hv => by
            obtain ⟨c, _, rfl⟩ := List.mem_map.mp hv
            rfl
        rw [in_letters]
        refine ⟨_, (same_upd nl_) _ _ hW, ?_, same_put (sJ.trans (same_upd nl_)) nW2, ?_⟩
        · rw [List.length_map, List.length_take]
          exact small1000 (by omega)
        · rw [upd_same, List.take_succ, ex, List.map_append]
          rfl
      rintro HY ⟨sY, hW2⟩
      rw [aL, List.take_length] at hW2
      refine ⟨_, _, rfl, .lst (sY _ _ hW) hW2 rfl (by rw [List.length_map, a9]; decide) (fun k v v' hv hv' => ?_), fun HZ sZ => ⟨true, rfl, iteF ?_⟩⟩
      · rw [hv] at hv'
        cases hv'
        obtain ⟨j, _, rfl⟩ := List.mem_map.mp (List.mem_of_getElem? hv)
        exact .bl _ _
      have sZ := (sX.trans sY).trans sZ
      have a0 := a0.same sZ
      have hDZ := sZ _ _ hDW
      have BZ := BW.same sZ
      have TZ := tabs_same TW sZ
      clear sX sY sZ BW TW hDW hW hW2 hsg at_ aL a9 he0 a1
      simp only [List.set_cons_succ, List.set_cons_zero]
      -- a longer one
      have eZ : txt t1 ++ Str.ofString "Z" = txt (t1 ++ [90]) := by rw [show Str.ofString "Z" = txt [90] from by decide +kernel, txt_app]
      have eY : txt t0 ++ Str.ofString "Y" = txt (t0 ++ [89]) := by rw [show Str.ofString "Y" = txt [89] from by decide +kernel, txt_app]
      have lt0 : t0.length ≤ 9 := by have := sn0.len.1; omega
      have z1 : (Str.ofString "Z").length = 1 := by decide +kernel
      have y1 : (Str.ofString "Y").length = 1 := by decide +kernel
      have snm := sn_more sn1
      refine ⟨_, rfl, D, _, 1, tv t1, rfl, rfl, SqL.of hDZ, atI_nat (j := 1) rfl, _, _, rfl, rfl, by rw [txt_len, z1]; exact Nat.le_of_lt (small1000 (by omega)), ?_⟩
      rw [eZ]
      intro lo dlo nlo ndlo nelo
      have sA : Same HZ (upd (upd HZ dlo (.own lo)) lo (.ins C dlo [])) := fun b o' e => by
        rw [upd_ne (ne_of_none e nlo), upd_ne (ne_of_none e ndlo)]
        exact e
      have llo : (t1 ++ [90]).length ≤ 900 := by rw [List.length_append]; show t1.length + 1 ≤ 900; omega
      refine ⟨lo, dlo, t1 ++ [90], rfl, upd_same, llo, fun ok HM kp ho => ⟨rfl, ?_⟩, fun bad => absurd (sn_isS snm) (by rw [bad]; decide)⟩
      have sM : Same HZ HM := fun b o' e => kp b o' (ne_of_none e nlo) (sA _ _ e)
      have alo : StrAt C HM lo (t1 ++ [90]) := ⟨dlo, ho, sn_isS snm, llo⟩
      have a0 := a0.same sM
      have hDM := sM _ _ hDZ
      have BM := BZ.same sM
      have TM := tabs_same TZ sM
      clear sM sA kp BZ TZ hDZ nlo ndlo nelo ho
      simp only [List.set_cons_succ, List.set_cons_zero]
      -- what is raised
      refine ⟨TM, fun HB ext tabs => ?_⟩
      have a0 := str_ext a0 ext
      have alo := str_ext alo ext
      have hDB := ext _ _ hDM (fun ps z => by cases z)
      have BB := bag_ext BM ext
      obtain ⟨e0, he0, _⟩ := id a0
      obtain ⟨elo, helo, _⟩ := id alo
      have differ : ¬ AllEq [t0, t1 ++ [90]] := fun h => by
        have e := h t0 (by simp) (t1 ++ [90]) (by simp)
        rw [sn0.len.2.1, snm.len.2.1] at e
        omega
      refine ⟨_, rfl, _, rfl, one, e0, lo, elo, _, _, rfl, rfl, he0, helo, one, lo, t0, t1 ++ [90], rfl, a0, alo, ?_, fun ne => tellsL xL xfL ncL fun HN p1 sN np1 => ?_, sn_lt sn0⟩
      · intro m _ m0 m1
        have := sn0.len.2.1
        have := snm.len.2.1
        have := m0.len.2.1
        have := m1.len.2.1
        omega
      have h1 : (upd HN p1 (.tup [.str "lengthmismatch", .non])) p1 = some (.tup [.str "lengthmismatch", .non]) := upd_same
      have sP := sN.trans (same_upd (o := .tup [.str "lengthmismatch", .non]) np1)
      generalize upd HN p1 (.tup [.str "lengthmismatch", .non]) = HO_ at h1 sP ⊢
      refine ⟨tabs_same tabs sP, fun HP ext2 tabs2 => ?_⟩
      have hDP := ext2 _ _ (sP _ _ hDB) (fun ps z => by cases z)
      have h1 := ext2 _ _ h1 (fun ps z => by cases z)
      have BP := bag_ext (BB.same sP) ext2
      refine ⟨_, rfl, D, _, 0, tv t0, rfl, rfl, SqL.of hDP, atI_nat (j := 0) rfl, _, _, rfl, rfl, by rw [txt_len, y1]; exact Nat.le_of_lt (small1000 (by omega)), ?_⟩
      rw [eY]
      intro xo dxo nxo ndxo nexo
      have sQ : Same HP (upd (upd HP dxo (.own xo)) xo (.ins C dxo [])) := fun b o' e => by
        rw [upd_ne (ne_of_none e nxo), upd_ne (ne_of_none e ndxo)]
        exact e
      refine ⟨xo, dxo, t0 ++ [89], rfl, upd_same, by rw [List.length_append]; show t0.length + 1 ≤ 900; omega, fun ok => absurd (sn_bad sn0) (by rw [ok]; decide), fun bad => tellsS xI xfI ncI nvI fun HR p2 sR np2 => ?_⟩
      have h2 : (upd HR p2 (.tup [.str "invalidstring", tv (t0 ++ [89])])) p2 = some (.tup [.str "invalidstring", tv (t0 ++ [89])]) := upd_same
      have sS := (sQ.trans sR).trans (same_upd (o := .tup [.str "invalidstring", tv (t0 ++ [89])]) np2)
      have h1 := sS _ _ h1
      have hDS := sS _ _ hDP
      have BS := BP.same sS
      have TS := tabs_same tabs2 sS
      show tNil _ (upd HR p2 (.tup [.str "invalidstring", tv (t0 ++ [89])])) _
      generalize upd HR p2 (.tup [.str "invalidstring", tv (t0 ++ [89])]) = HT at h1 h2 hDS BS TS ⊢
      refine ⟨by show 2 ≤ sizeLine; decide, fun wl nwl => ?_⟩
      have sU := same_upd (o := .lst [.ref p1, .ref p2]) nwl
      have h1 := sU _ _ h1
      have h2 := sU _ _ h2
      have hDU := sU _ _ hDS
      have BU := BS.same sU
      have TU := tabs_same TS sU
      have hw : (upd HT wl (.lst [.ref p1, .ref p2])) wl = some (.lst [.ref p1, .ref p2]) := upd_same
      generalize upd HT wl (.lst [.ref p1, .ref p2]) = HU at h1 h2 hDU BU TU hw ⊢
      dsimp only [gName]
      simp only [List.set_cons_succ, List.set_cons_zero]
      refine ⟨_, rfl, by show 2 ≤ sizeLine; decide, fun u1 nu1 => ?_⟩
      refine ⟨_, rfl, D, _, 0, tv t0, rfl, rfl, SqL.of ((same_upd nu1) _ _ hDU), atI_nat (j := 0) rfl, _, _, rfl, rfl, by rw [txt_len, y1]; exact Nat.le_of_lt (small1000 (by omega)), by show 2 ≤ sizeLine; decide, fun u2 nu2 => ?_⟩
      rw [eY]
      refine ⟨by show 2 ≤ sizeLine; decide, fun l4 nl4 => ?_⟩
      have lo0 : Lo (n + 2) (t0 ++ [89]) := by
        obtain ⟨l0, al0⟩ := sn0.lo (Nat.le_refl (n + 1))
        refine ⟨by rw [List.length_append]; show t0.length + 1 ≤ n + 2; omega, fun c hc => ?_⟩
        rcases List.mem_append.mp hc with hc | hc
        · exact al0 c hc
        · rw [List.mem_singleton.mp hc]; decide
      have shp := shaped_two lo0
      have k6 := ((same_upd nu1).trans (same_upd nu2)).trans (same_upd (o := .lst [.ref u1, .ref u2]) nl4)
      have e1 := (same_upd (o := .lst [.ref u1, .ref u2]) nl4) _ _ ((same_upd nu2) _ _ upd_same)
      have e2 := (same_upd (o := .lst [.ref u1, .ref u2]) nl4) _ _ upd_same
      refine ⟨.list [dLen, dBad (t0 ++ [89])], .list [dLen, dBad (t0 ++ [89])], .lst (SqL.of (k6 _ _ hw)) (.cons (.tup (SqT.of (k6 _ _ h1)) (.cons (.str _) (.cons .non .nil))) (.cons (.tup (SqT.of (k6 _ _ h2)) (.cons (.str _) (.cons (.str _) .nil))) .nil)),
        .lst (SqL.of upd_same) (.cons (.tup (SqT.of e1) (.cons (.str _) (.cons .non .nil))) (.cons (.tup (SqT.of e2) (.cons (.str _) (.cons (.str _) .nil))) .nil)), shp, shp, _, rfl, ?_⟩
      refine ifF (by rw [SeqAt.eqv_refl _ (SeqAt.canLay_of_shaped shp)]; rfl) ?_
      exact ⟨_, _, _, _, _, _, _, _, _, _, _, _, _, _, rfl, BU.same k6, tabs_same TU k6⟩
    · rintro σ H1 ⟨y2, y3, y4, y5, y6, y7, y8, y9, y10, y11, y12, y13, y14, y15, rfl, B1, T1⟩
      rw [txt_minus, txt_empty, show Str.ofString "X" = txt [88] from by decide +kernel, show Str.ofString "-X" = txt [45, 88] from by decide +kernel]
      clear B1 T1
      intro o dy no ndo neo
      refine ⟨o, dy, [45], rfl, upd_same, by decide, fun ok H2 kp ho => ⟨rfl, ?_⟩, fun bad => absurd bad (by decide)⟩
      have aO : StrAt C H2 o [45] := ⟨dy, ho, by decide, by decide⟩
      refine ⟨o, dy, _, rfl, ho, o, [45], rfl, aO, _, rfl, by decide, ?_⟩
      refine ⟨rfl, _, rfl, ifT rfl ?_⟩
      intro o2 dy2 no2 ndo2 neo2
      refine ⟨o2, dy2, [], rfl, upd_same, by decide, fun ok H3 kp ho2 => ⟨rfl, ?_⟩, fun bad => absurd bad (by decide)⟩
      refine ⟨o2, dy2, _, rfl, ho2, o2, [], rfl, ⟨dy2, ho2, by decide, by decide⟩, by decide, fun H4 y sy ay => ?_⟩
      obtain ⟨dy3, hy, _⟩ := id ay
      refine ⟨y, dy3, _, rfl, hy, strF_no _ (by decide +kernel), y, _, rfl, ay, rfl, _, rfl, ifT (decide_eq_true (congrArg tv (show signedL ((signL [] : Int) + 1) (lettersL []) = [45] from by decide))) ?_⟩
      intro o4 dy4 no4 ndo4 neo4
      refine ⟨o4, dy4, [88], rfl, upd_same, by decide, fun ok H5 kp5 ho4 => ⟨rfl, ?_⟩, fun bad => absurd bad (by decide)⟩
      intro o5 dy5 no5 ndo5 neo5
      have s5 : Same H5 (upd (upd H5 dy5 (.own o5)) o5 (.ins C dy5 [])) := fun b o' e => by
        rw [upd_ne (ne_of_none e no5), upd_ne (ne_of_none e ndo5)]
        exact e
      refine ⟨o5, dy5, [45, 88], rfl, upd_same, by decide, fun ok H6 kp6 ho5 => ⟨rfl, ?_⟩, fun bad => absurd bad (by decide)⟩
      have ho6 := kp6 _ _ (ne_of_none ho4 no5) (s5 _ _ ho4)
      refine ⟨o4, dy4, o5, dy5, _, _, rfl, rfl, ho6, ho5, o4, [88], _, rfl, ⟨dy4, ho6, by decide, by decide⟩, .inl ⟨o5, [45, 88], rfl, ⟨dy5, ho5, by decide, by decide⟩, _, rfl, ?_⟩⟩
      exact hand H6
end


end T77

namespace T77
open PySem PySem.Spec PyProof.Rows L2 Tm
open LamX L2H
set_option maxHeartbeats 4000000 in
theorem all_mk {l : PySem.W.OpenLaw} {w : World} {K : PySem.W.Frag} {h : Heap} {mg : Str → Option Value} {fa CSv CLm CT CM C pd c fL fSg fSd fIs fCk fTw fMul fB fP fO fE fFi fTr fY fLs fTb fTi fTa fW flaw fXSv fXLm finit feq flen frep fmul fneg fhas ftxt : Addr} (PT : Addr) {nmSv qSv NSv bsSv bmSv snSv subSv abSv colSv ddSv k0Sv k1Sv k2Sv k3Sv k5Sv} {nmLm qLm NLm bsLm bmLm snLm subLm abLm colLm ddLm k0Lm k1Lm k2Lm k3Lm k5Lm} (X : K.In h) (G : h.Ns mainGlobals mg) (hfa : mg "law" = some (.ref fa))
    (empty : h.get? PT = some { cls := .none, data := .fields #[] })
    {odL odSg odSd odIs odCk odTw odMul odB odP odO odE odFi odTr odY odLs odTb odTi odTa odW odlaw odXSv odXLm odinit odeq odlen odrep odmul odneg odhas odtxt anL anSg anSd anIs anCk anTw anMul anB anP anO anE anFi anTr anY anLs anTb anTi anTa anW anlaw anXSv anXLm aninit aneq anlen anrep anmul anneg anhas antxt : Option Addr} {slL slSg slSd slIs slCk slTw slMul slB slP slO slE slFi slTr slY slLs slTb slTi slTa slW sllaw slXSv slXLm slinit sleq sllen slrep slmul slneg slhas sltxt : Array (Option Value)} {ocL ocSg ocSd ocIs ocCk ocTw ocMul ocB ocP ocO ocE ocFi ocTr ocY ocLs ocTb ocTi ocTa ocW oclaw ocXSv ocXLm ocinit oceq oclen ocrep ocmul ocneg ochas octxt kVL kVSg kVSd kVIs kVCk kVTw kVMul kVB kVP kVO kVE kVFi kVTr kVY kVLs kVTb kVTi kVTa kVW kVlaw kVXSv kVXLm kVinit kVeq kVlen kVrep kVmul kVneg kVhas kVtxt dcL dcSg dcSd dcIs dcCk dcTw dcMul dcB dcP dcO dcE dcFi dcTr dcY dcLs dcTb dcTi dcTa dcW dclaw dcXSv dcXLm dcinit dceq dclen dcrep dcmul dcneg dchas dctxt pmL pmSg pmSd pmIs pmCk pmTw pmMul pmB pmP pmO pmE pmFi pmTr pmY pmLs pmTb pmTi pmTa pmW pmlaw pmXSv pmXLm pminit pmeq pmlen pmrep pmmul pmneg pmhas pmtxt cdL cdSg cdSd cdIs cdCk cdTw cdMul cdB cdP cdO cdE cdFi cdTr cdY cdLs cdTb cdTi cdTa cdW cdXSv cdXLm cdinit cdeq cdlen cdrep cdmul cdneg cdhas cdtxt ctL ctSg ctSd ctIs ctCk ctTw ctMul ctB ctP ctO ctE ctFi ctTr ctY ctLs ctTb ctTi ctTa ctW ctlaw ctXSv ctXLm ctinit cteq ctlen ctrep ctmul ctneg cthas cttxt : Value} {es : Array DictEntry} {dn : Nat} {ta t0 t1 t2 t3 t4 t5 t6 t7 t8 t9 t10 t11 t12 t13 t14 t15 : Tok}  
    (aSv : PySem.W.nsIn K mainGlobals "InvalidString" = some (some (.ref CSv)))
    (aLm : PySem.W.nsIn K mainGlobals "LengthMismatch" = some (some (.ref CLm)))
    (aCT : PySem.W.nsIn K mainGlobals "ThreadError" = some (some (.ref CT)))
    (aCM : PySem.W.nsIn K mainGlobals "Missing" = some (some (.ref CM)))
    (aC0 : PySem.W.nsIn K mainGlobals "SignedString" = some (some (.ref C)))
    (aL : PySem.W.nsIn K mainGlobals "letters_of" = some (some (.ref fL)))
    (lL : K.lookup fL = some ⟨ocL, odL, .func (PySem.W.fnOf "letters_of" "letters_of" (defArgs sLettersOf) (defBody sLettersOf) (defScope sLettersOf) .none kVL dcL pmL anL cdL ctL), slL⟩)
    (cL : PySem.W.codeIn K cdL "letters_of" = true)
    (kL : PySem.W.keepIn K (.ref fL) = true)
    (aSg : PySem.W.nsIn K mainGlobals "sign_of" = some (some (.ref fSg)))
    (lSg : K.lookup fSg = some ⟨ocSg, odSg, .func (PySem.W.fnOf "sign_of" "sign_of" (defArgs sSignOf) (defBody sSignOf) (defScope sSignOf) .none kVSg dcSg pmSg anSg cdSg ctSg), slSg⟩)
    (cSg : PySem.W.codeIn K cdSg "sign_of" = true)
    (kSg : PySem.W.keepIn K (.ref fSg) = true)
    (aSd : PySem.W.nsIn K mainGlobals "signed" = some (some (.ref fSd)))
    (lSd : K.lookup fSd = some ⟨ocSd, odSd, .func (PySem.W.fnOf "signed" "signed" (defArgs sSigned) (defBody sSigned) (defScope sSigned) .none kVSd dcSd pmSd anSd cdSd ctSd), slSd⟩)
    (cSd : PySem.W.codeIn K cdSd "signed" = true)
    (kSd : PySem.W.keepIn K (.ref fSd) = true)
    (aIs : PySem.W.nsIn K mainGlobals "is_string" = some (some (.ref fIs)))
    (lIs : K.lookup fIs = some ⟨ocIs, odIs, .func (PySem.W.fnOf "is_string" "is_string" (defArgs sIsStr) (defBody sIsStr) (defScope sIsStr) .none kVIs dcIs pmIs anIs cdIs ctIs), slIs⟩)
    (cIs : PySem.W.codeIn K cdIs "is_string" = true)
    (kIs : PySem.W.keepIn K (.ref fIs) = true)
    (aCk : PySem.W.nsIn K mainGlobals "check_string" = some (some (.ref fCk)))
    (lCk : K.lookup fCk = some ⟨ocCk, odCk, .func (PySem.W.fnOf "check_string" "check_string" (defArgs sChkS) (defBody sChkS) (defScope sChkS) .none kVCk dcCk pmCk anCk cdCk ctCk), slCk⟩)
    (cCk : PySem.W.codeIn K cdCk "check_string" = true)
    (kCk : PySem.W.keepIn K (.ref fCk) = true)
    (aTw : PySem.W.nsIn K mainGlobals "product_of_two" = some (some (.ref fTw)))
    (lTw : K.lookup fTw = some ⟨ocTw, odTw, .func (PySem.W.fnOf "product_of_two" "product_of_two" (defArgs sTwo) (defBody sTwo) (defScope sTwo) .none kVTw dcTw pmTw anTw cdTw ctTw), slTw⟩)
    (cTw : PySem.W.codeIn K cdTw "product_of_two" = true)
    (kTw : PySem.W.keepIn K (.ref fTw) = true)
    (aMul : PySem.W.nsIn K mainGlobals "multiply" = some (some (.ref fMul)))
    (lMul : K.lookup fMul = some ⟨ocMul, odMul, .func (PySem.W.fnOf "multiply" "multiply" (defArgs sMult) (defBody sMult) (defScope sMult) .none kVMul dcMul pmMul anMul cdMul ctMul), slMul⟩)
    (cMul : PySem.W.codeIn K cdMul "multiply" = true)
    (kMul : PySem.W.keepIn K (.ref fMul) = true)
    (aB : PySem.W.nsIn K mainGlobals "_law_bag" = some (some (.ref fB)))
    (lB : K.lookup fB = some ⟨ocB, odB, .func (PySem.W.fnOf "_law_bag" "_law_bag" (defArgs sBag) (defBody sBag) (defScope sBag) .none kVB dcB pmB anB cdB ctB), slB⟩)
    (cB : PySem.W.codeIn K cdB "_law_bag" = true)
    (kB : PySem.W.keepIn K (.ref fB) = true)
    (aP : PySem.W.nsIn K mainGlobals "_law_pull" = some (some (.ref fP)))
    (lP : K.lookup fP = some ⟨ocP, odP, .func (PySem.W.fnOf "_law_pull" "_law_pull" (defArgs sPull) (defBody sPull) (defScope sPull) .none kVP dcP pmP anP cdP ctP), slP⟩)
    (cP : PySem.W.codeIn K cdP "_law_pull" = true)
    (kP : PySem.W.keepIn K (.ref fP) = true)
    (aO : PySem.W.nsIn K mainGlobals "_law_of" = some (some (.ref fO)))
    (lO : K.lookup fO = some ⟨ocO, odO, .func (PySem.W.fnOf "_law_of" "_law_of" (defArgs sOf) (defBody sOf) (defScope sOf) .none kVO dcO pmO anO cdO ctO), slO⟩)
    (cO : PySem.W.codeIn K cdO "_law_of" = true)
    (kO : PySem.W.keepIn K (.ref fO) = true)
    (aE : PySem.W.nsIn K mainGlobals "_law_same" = some (some (.ref fE)))
    (lE : K.lookup fE = some ⟨ocE, odE, .func (PySem.W.fnOf "_law_same" "_law_same" (defArgs sSame) (defBody sSame) (defScope sSame) .none kVE dcE pmE anE cdE ctE), slE⟩)
    (cE : PySem.W.codeIn K cdE "_law_same" = true)
    (kE : PySem.W.keepIn K (.ref fE) = true)
    (aFi : PySem.W.nsIn K mainGlobals "_law_field" = some (some (.ref fFi)))
    (lFi : K.lookup fFi = some ⟨ocFi, odFi, .func (PySem.W.fnOf "_law_field" "_law_field" (defArgs sField) (defBody sField) (defScope sField) .none kVFi dcFi pmFi anFi cdFi ctFi), slFi⟩)
    (cFi : PySem.W.codeIn K cdFi "_law_field" = true)
    (kFi : PySem.W.keepIn K (.ref fFi) = true)
    (aTr : PySem.W.nsIn K mainGlobals "_law_tried" = some (some (.ref fTr)))
    (lTr : K.lookup fTr = some ⟨ocTr, odTr, .func (PySem.W.fnOf "_law_tried" "_law_tried" (defArgs sTried) (defBody sTried) (defScope sTried) .none kVTr dcTr pmTr anTr cdTr ctTr), slTr⟩)
    (cTr : PySem.W.codeIn K cdTr "_law_tried" = true)
    (kTr : PySem.W.keepIn K (.ref fTr) = true)
    (aY : PySem.W.nsIn K mainGlobals "_law_body" = some (some (.ref fY)))
    (lY : K.lookup fY = some ⟨ocY, odY, .func (PySem.W.fnOf "_law_body" "_law_body" (defArgs sLBody) (defBody sLBody) (defScope sLBody) .none kVY dcY pmY anY cdY ctY), slY⟩)
    (cY : PySem.W.codeIn K cdY "_law_body" = true)
    (kY : PySem.W.keepIn K (.ref fY) = true)
    (aLs : PySem.W.nsIn K mainGlobals "_law_signed" = some (some (.ref fLs)))
    (lLs : K.lookup fLs = some ⟨ocLs, odLs, .func (PySem.W.fnOf "_law_signed" "_law_signed" (defArgs sLSigned) (defBody sLSigned) (defScope sLSigned) .none kVLs dcLs pmLs anLs cdLs ctLs), slLs⟩)
    (cLs : PySem.W.codeIn K cdLs "_law_signed" = true)
    (kLs : PySem.W.keepIn K (.ref fLs) = true)
    (aTb : PySem.W.nsIn K mainGlobals "_law_table_of_products" = some (some (.ref fTb)))
    (lTb : K.lookup fTb = some ⟨ocTb, odTb, .func (PySem.W.fnOf "_law_table_of_products" "_law_table_of_products" (defArgs sLTab) (defBody sLTab) (defScope sLTab) .none kVTb dcTb pmTb anTb cdTb ctTb), slTb⟩)
    (cTb : PySem.W.codeIn K cdTb "_law_table_of_products" = true)
    (kTb : PySem.W.keepIn K (.ref fTb) = true)
    (aTi : PySem.W.nsIn K mainGlobals "_law_times" = some (some (.ref fTi)))
    (lTi : K.lookup fTi = some ⟨ocTi, odTi, .func (PySem.W.fnOf "_law_times" "_law_times" (defArgs sLTimes) (defBody sLTimes) (defScope sLTimes) .none kVTi dcTi pmTi anTi cdTi ctTi), slTi⟩)
    (cTi : PySem.W.codeIn K cdTi "_law_times" = true)
    (kTi : PySem.W.keepIn K (.ref fTi) = true)
    (aTa : PySem.W.nsIn K mainGlobals "_law_times_all" = some (some (.ref fTa)))
    (lTa : K.lookup fTa = some ⟨ocTa, odTa, .func (PySem.W.fnOf "_law_times_all" "_law_times_all" (defArgs sLTAll) (defBody sLTAll) (defScope sLTAll) .none kVTa dcTa pmTa anTa cdTa ctTa), slTa⟩)
    (cTa : PySem.W.codeIn K cdTa "_law_times_all" = true)
    (kTa : PySem.W.keepIn K (.ref fTa) = true)
    (aW : PySem.W.nsIn K mainGlobals "_law_string" = some (some (.ref fW)))
    (lW : K.lookup fW = some ⟨ocW, odW, .func (PySem.W.fnOf "_law_string" "_law_string" (defArgs sLString) (defBody sLString) (defScope sLString) .none kVW dcW pmW anW cdW ctW), slW⟩)
    (cW : PySem.W.codeIn K cdW "_law_string" = true)
    (kW : PySem.W.keepIn K (.ref fW) = true)
    (alaw : PySem.W.nsIn K mainGlobals "law" = some (some (.ref flaw)))
    (llaw : K.lookup flaw = some ⟨oclaw, odlaw, .func (PySem.W.fnOf "law" "law" (defArgs sLaw) (defBody sLaw) (defScope sLaw) .none kVlaw dclaw pmlaw anlaw (.ref c) ctlaw), sllaw⟩)
    (claw : PySem.W.codeIn K (.ref c) "law" = true)
    (klaw : PySem.W.keepIn K (.ref flaw) = true)
    (aXSv : PySem.W.findIn K (.ref CSv) "__init__" = some (some (.ref fXSv)))
    (lXSv : K.lookup fXSv = some ⟨ocXSv, odXSv, .func (PySem.W.fnOf "__init__" "InvalidString.__init__" (defArgs sISt) (defBody sISt) (defScope sISt) .none kVXSv dcXSv pmXSv anXSv cdXSv ctXSv), slXSv⟩)
    (cXSv : PySem.W.codeIn K cdXSv "InvalidString.__init__" = true)
    (kXSv : PySem.W.keepIn K (.ref fXSv) = true)
    (tXSv : PySem.W.typeIn K (.ref fXSv) = some (.type "function"))
    (saSv : PySem.W.findIn K (.ref CSv) "__setattr__" = some (some (.builtin "object.__setattr__")))
    (exCSv : PySem.W.subIn K (.ref CSv) (.type "BaseException") = some true)
    (tyCSv : PySem.W.typeIn K (.ref CSv) = some (.type "type"))
    (kCSv : PySem.W.keepIn K (.ref CSv) = true)
    (clsSv : K.lookup CSv = some (excClassObj nmSv qSv CSv NSv bsSv bmSv true snSv subSv abSv colSv ddSv k0Sv k1Sv k2Sv k3Sv k5Sv "ValueError.__new__"))
    (rvSv : PySem.HandSPX.refsVE bmSv = true)
    (ncSv : PySem.W.findIn K (.ref CSv) "code" = some none)
    (x1Sv : PySem.W.exmOne K (.ref CSv) (.ref CT) = some true)
    (xmSv : PySem.W.exmOne K (.ref CSv) (.ref CM) = some false)
    (xfSv : xfB K CSv = true)
    (n_valueSv : PySem.W.findIn K (.ref CSv) "value" = some none)
    (aXLm : PySem.W.findIn K (.ref CLm) "__init__" = some (some (.ref fXLm)))
    (lXLm : K.lookup fXLm = some ⟨ocXLm, odXLm, .func (PySem.W.fnOf "__init__" "LengthMismatch.__init__" (defArgs sLMi) (defBody sLMi) (defScope sLMi) .none kVXLm dcXLm pmXLm anXLm cdXLm ctXLm), slXLm⟩)
    (cXLm : PySem.W.codeIn K cdXLm "LengthMismatch.__init__" = true)
    (kXLm : PySem.W.keepIn K (.ref fXLm) = true)
    (tXLm : PySem.W.typeIn K (.ref fXLm) = some (.type "function"))
    (saLm : PySem.W.findIn K (.ref CLm) "__setattr__" = some (some (.builtin "object.__setattr__")))
    (exCLm : PySem.W.subIn K (.ref CLm) (.type "BaseException") = some true)
    (tyCLm : PySem.W.typeIn K (.ref CLm) = some (.type "type"))
    (kCLm : PySem.W.keepIn K (.ref CLm) = true)
    (clsLm : K.lookup CLm = some (excClassObj nmLm qLm CLm NLm bsLm bmLm true snLm subLm abLm colLm ddLm k0Lm k1Lm k2Lm k3Lm k5Lm "ValueError.__new__"))
    (rvLm : PySem.HandSPX.refsVE bmLm = true)
    (ncLm : PySem.W.findIn K (.ref CLm) "code" = some none)
    (x1Lm : PySem.W.exmOne K (.ref CLm) (.ref CT) = some true)
    (xmLm : PySem.W.exmOne K (.ref CLm) (.ref CM) = some false)
    (xfLm : xfB K CLm = true)
    (hcode : PySem.W.codeHdIn K c PT = true)
    (noP : K.lookup PT = none)
    (slt : PySem.W.nsIn K mainGlobals "STRING_LETTERS" = some (some (.str (Str.ofString "1XZW") ta)))
    (d1 : PySem.W.nsIn K mainGlobals "PRODUCTS" = some (some (.ref pd)))
    (d2 : K.lookup pd = some ⟨.type "dict", none, .dict es dn, #[]⟩)
    (d3 : PySem.W.KeysLit w.params es.toList)
    (q0 : PySem.W.nsIn K pd (Str.ofString "11") = some (some (.str (Str.ofString "1") t0)))
    (q1 : PySem.W.nsIn K pd (Str.ofString "1X") = some (some (.str (Str.ofString "X") t1)))
    (q2 : PySem.W.nsIn K pd (Str.ofString "1Z") = some (some (.str (Str.ofString "Z") t2)))
    (q3 : PySem.W.nsIn K pd (Str.ofString "1W") = some (some (.str (Str.ofString "W") t3)))
    (q4 : PySem.W.nsIn K pd (Str.ofString "X1") = some (some (.str (Str.ofString "X") t4)))
    (q5 : PySem.W.nsIn K pd (Str.ofString "XX") = some (some (.str (Str.ofString "1") t5)))
    (q6 : PySem.W.nsIn K pd (Str.ofString "XZ") = some (some (.str (Str.ofString "W") t6)))
    (q7 : PySem.W.nsIn K pd (Str.ofString "XW") = some (some (.str (Str.ofString "Z") t7)))
    (q8 : PySem.W.nsIn K pd (Str.ofString "Z1") = some (some (.str (Str.ofString "Z") t8)))
    (q9 : PySem.W.nsIn K pd (Str.ofString "ZX") = some (some (.str (Str.ofString "-W") t9)))
    (q10 : PySem.W.nsIn K pd (Str.ofString "ZZ") = some (some (.str (Str.ofString "1") t10)))
    (q11 : PySem.W.nsIn K pd (Str.ofString "ZW") = some (some (.str (Str.ofString "-X") t11)))
    (q12 : PySem.W.nsIn K pd (Str.ofString "W1") = some (some (.str (Str.ofString "W") t12)))
    (q13 : PySem.W.nsIn K pd (Str.ofString "WX") = some (some (.str (Str.ofString "-Z") t13)))
    (q14 : PySem.W.nsIn K pd (Str.ofString "WZ") = some (some (.str (Str.ofString "X") t14)))
    (q15 : PySem.W.nsIn K pd (Str.ofString "WW") = some (some (.str (Str.ofString "-1") t15)))
    (ainit : PySem.W.findIn K (.ref C) "__init__" = some (some (.ref finit)))
    (iinit : PySem.W.isFn K (.ref finit) = true)
    (linit : K.lookup finit = some ⟨ocinit, odinit, .func (PySem.W.fnOf "__init__" "SignedString.__init__" (defArgs sSInit) (defBody sSInit) (defScope sSInit) .none kVinit dcinit pminit aninit cdinit ctinit), slinit⟩)
    (cinit : PySem.W.codeIn K cdinit "SignedString.__init__" = true)
    (kinit : PySem.W.keepIn K (.ref finit) = true)
    (aeq : PySem.W.findIn K (.ref C) "__eq__" = some (some (.ref feq)))
    (ieq : PySem.W.isFn K (.ref feq) = true)
    (leq : K.lookup feq = some ⟨oceq, odeq, .func (PySem.W.fnOf "__eq__" "SignedString.__eq__" (defArgs sSEq) (defBody sSEq) (defScope sSEq) .none kVeq dceq pmeq aneq cdeq cteq), sleq⟩)
    (ceq : PySem.W.codeIn K cdeq "SignedString.__eq__" = true)
    (keq : PySem.W.keepIn K (.ref feq) = true)
    (alen : PySem.W.findIn K (.ref C) "__len__" = some (some (.ref flen)))
    (ilen : PySem.W.isFn K (.ref flen) = true)
    (llen : K.lookup flen = some ⟨oclen, odlen, .func (PySem.W.fnOf "__len__" "SignedString.__len__" (defArgs sSLen) (defBody sSLen) (defScope sSLen) .none kVlen dclen pmlen anlen cdlen ctlen), sllen⟩)
    (clen : PySem.W.codeIn K cdlen "SignedString.__len__" = true)
    (klen : PySem.W.keepIn K (.ref flen) = true)
    (arep : PySem.W.findIn K (.ref C) "__repr__" = some (some (.ref frep)))
    (irep : PySem.W.isFn K (.ref frep) = true)
    (lrep : K.lookup frep = some ⟨ocrep, odrep, .func (PySem.W.fnOf "__repr__" "SignedString.__repr__" (defArgs sSRepr) (defBody sSRepr) (defScope sSRepr) .none kVrep dcrep pmrep anrep cdrep ctrep), slrep⟩)
    (crep : PySem.W.codeIn K cdrep "SignedString.__repr__" = true)
    (krep : PySem.W.keepIn K (.ref frep) = true)
    (amul : PySem.W.findIn K (.ref C) "__mul__" = some (some (.ref fmul)))
    (imul : PySem.W.isFn K (.ref fmul) = true)
    (lmul : K.lookup fmul = some ⟨ocmul, odmul, .func (PySem.W.fnOf "__mul__" "SignedString.__mul__" (defArgs sSMul) (defBody sSMul) (defScope sSMul) .none kVmul dcmul pmmul anmul cdmul ctmul), slmul⟩)
    (cmul : PySem.W.codeIn K cdmul "SignedString.__mul__" = true)
    (kmul : PySem.W.keepIn K (.ref fmul) = true)
    (aneg : PySem.W.findIn K (.ref C) "__neg__" = some (some (.ref fneg)))
    (ineg : PySem.W.isFn K (.ref fneg) = true)
    (lneg : K.lookup fneg = some ⟨ocneg, odneg, .func (PySem.W.fnOf "__neg__" "SignedString.__neg__" (defArgs sSNeg) (defBody sSNeg) (defScope sSNeg) .none kVneg dcneg pmneg anneg cdneg ctneg), slneg⟩)
    (cneg : PySem.W.codeIn K cdneg "SignedString.__neg__" = true)
    (kneg : PySem.W.keepIn K (.ref fneg) = true)
    (ahas : PySem.W.findIn K (.ref C) "__contains__" = some (some (.ref fhas)))
    (ihas : PySem.W.isFn K (.ref fhas) = true)
    (lhas : K.lookup fhas = some ⟨ochas, odhas, .func (PySem.W.fnOf "__contains__" "SignedString.__contains__" (defArgs sSIn) (defBody sSIn) (defScope sSIn) .none kVhas dchas pmhas anhas cdhas cthas), slhas⟩)
    (chas : PySem.W.codeIn K cdhas "SignedString.__contains__" = true)
    (khas : PySem.W.keepIn K (.ref fhas) = true)
    (atxt : PySem.W.findIn K (.ref C) "text" = some (some (.ref ftxt)))
    (itxt : PySem.W.isFn K (.ref ftxt) = true)
    (ltxt : K.lookup ftxt = some ⟨octxt, odtxt, .func (PySem.W.fnOf "text" "SignedString.text" (defArgs sSText) (defBody sSText) (defScope sSText) .none kVtxt dctxt pmtxt antxt cdtxt cttxt), sltxt⟩)
    (ctxt : PySem.W.codeIn K cdtxt "SignedString.text" = true)
    (ktxt : PySem.W.keepIn K (.ref ftxt) = true)
    (pg : PySem.W.plainGet K C Str.empty = true)
    (hd : PySem.W.hasDictIn K C = true)
    (po : PySem.W.plainOver K C = true)
    (sa : PySem.W.findIn K (.ref C) "__setattr__" = some (some (.builtin "object.__setattr__")))
    (mk : PySem.W.makesIn K C = true)
    (kc : PySem.W.keepIn K (.ref C) = true)
    (nW : PySem.W.findIn K (.ref C) "written" = some none)
    (kS : PySem.W.kitOne K (.ref C) (.ref C) = some true)
    (kT : PySem.W.kitOne K (.type "str") (.ref C) = some false)
    (kI : PySem.W.kitOne K (.type "int") (.ref C) = some false)
    (kN : PySem.W.kitOne K (.type "NoneType") (.ref C) = some false)
    (kind : PySem.W.findIn K (.ref C) "__class__" = some (some (.builtin "object.__class__")))
    (get_ : PySem.W.specialIn K (.builtin "object.__class__") "__get__" = some (some (.builtin "getset_descriptor.__get__")))
    (take_ : PySem.W.takesIn K (.builtin "object.__class__") = some true)
    (mro_ : PySem.W.mroIn K C (.type "object") = some true)
    (sf : PySem.W.selfFirst K C = true)
    (isO : PySem.W.subIn K (.ref C) (.type "object") = some true)
    (aNq : PySem.W.findIn K (.ref C) "__ne__" = some (some (.builtin "object.__ne__")))
    (uS : PySem.W.subIn K (.ref C) (.type "str") = some false)
    (uI : PySem.W.subIn K (.ref C) (.type "int") = some false)
    (uN : PySem.W.subIn K (.ref C) (.type "NoneType") = some false)
    (z_isinstance : PySem.W.nsIn K mainGlobals "isinstance" = some none)
    (z_dict : PySem.W.nsIn K mainGlobals "dict" = some none)
    (z_list : PySem.W.nsIn K mainGlobals "list" = some none)
    (z_tuple : PySem.W.nsIn K mainGlobals "tuple" = some none)
    (z_bool : PySem.W.nsIn K mainGlobals "bool" = some none)
    (z_int : PySem.W.nsIn K mainGlobals "int" = some none)
    (z_str : PySem.W.nsIn K mainGlobals "str" = some none)
    (z_len : PySem.W.nsIn K mainGlobals "len" = some none)
    (z_all : PySem.W.nsIn K mainGlobals "all" = some none)
    (z_zip : PySem.W.nsIn K mainGlobals "zip" = some none)
    (z_range : PySem.W.nsIn K mainGlobals "range" = some none)
    (z_sum : PySem.W.nsIn K mainGlobals "sum" = some none)
    (z_repr : PySem.W.nsIn K mainGlobals "repr" = some none)
    : LawAtS l w K CX0 13 63 "_law_script" mg fa h := by
  have e := hfa.symm.trans (PySem.W.mg_of X G alaw)
  cases e
  have FL := fun_mk (st := sLettersOf) lL cL kL
  have bL := FL.binds (ps := ["text"]) fun _ _ _ _ _ _ us hl => match us, hl with | [_], _ => rfl
  have FSg := fun_mk (st := sSignOf) lSg cSg kSg
  have bSg := FSg.binds (ps := ["text"]) fun _ _ _ _ _ _ us hl => match us, hl with | [_], _ => rfl
  have FSd := fun_mk (st := sSigned) lSd cSd kSd
  have bSd := FSd.binds (ps := ["turns", "letters"]) fun _ _ _ _ _ _ us hl => match us, hl with | [_, _], _ => rfl
  have FIs := fun_mk (st := sIsStr) lIs cIs kIs
  have bIs := FIs.binds (ps := ["text"]) fun _ _ _ _ _ _ us hl => match us, hl with | [_], _ => rfl
  have FCk := fun_mk (st := sChkS) lCk cCk kCk
  have bCk := FCk.binds (ps := ["text"]) fun _ _ _ _ _ _ us hl => match us, hl with | [_], _ => rfl
  have FTw := fun_mk (st := sTwo) lTw cTw kTw
  have bTw := FTw.binds (ps := ["one", "other"]) fun _ _ _ _ _ _ us hl => match us, hl with | [_, _], _ => rfl
  have FMul := fun_mk (st := sMult) lMul cMul kMul
  have FB := fun_mk (st := sBag) lB cB kB
  have bB := FB.binds (ps := ["_law_script"]) fun _ _ _ _ _ _ us hl => match us, hl with | [_], _ => rfl
  have FP := fun_mk (st := sPull) lP cP kP
  have bP := FP.binds (ps := ["_law_bag_here", "_law_many"]) fun _ _ _ _ _ _ us hl => match us, hl with | [_, _], _ => rfl
  have FO := fun_mk (st := sOf) lO cO kO
  have bO := FO.binds (ps := ["_law_bag_here", "_law_things"]) fun _ _ _ _ _ _ us hl => match us, hl with | [_, _], _ => rfl
  have FE := fun_mk (st := sSame) lE cE kE
  have bE := FE.binds (ps := ["_law_found", "_law_due"]) fun _ _ _ _ _ _ us hl => match us, hl with | [_, _], _ => rfl
  have FFi := fun_mk (st := sField) lFi cFi kFi
  have bFi := FFi.binds (ps := ["_law_e"]) fun _ _ _ _ _ _ us hl => match us, hl with | [_], _ => rfl
  have FTr := fun_mk (st := sTried) lTr cTr kTr
  have bTr := FTr.binds (ps := ["_law_ask"]) fun _ _ _ _ _ _ us hl => match us, hl with | [_], _ => rfl
  have FY := fun_mk (st := sLBody) lY cY kY
  have bY := FY.binds (ps := ["_law_text"]) fun _ _ _ _ _ _ us hl => match us, hl with | [_], _ => rfl
  have FLs := fun_mk (st := sLSigned) lLs cLs kLs
  have bLs := FLs.binds (ps := ["_law_mturned", "_law_body_here"]) fun _ _ _ _ _ _ us hl => match us, hl with | [_, _], _ => rfl
  have FTb := fun_mk (st := sLTab) lTb cTb kTb
  have bTb := FTb.binds (ps := []) fun _ _ _ _ _ _ us hl => match us, hl with | [], _ => rfl
  have FTi := fun_mk (st := sLTimes) lTi cTi kTi
  have bTi := FTi.binds (ps := ["_law_first", "_law_last"]) fun _ _ _ _ _ _ us hl => match us, hl with | [_, _], _ => rfl
  have FTa := fun_mk (st := sLTAll) lTa cTa kTa
  have bTa := FTa.binds (ps := ["_law_strings_in", "_law_size"]) fun _ _ _ _ _ _ us hl => match us, hl with | [_, _], _ => rfl
  have FW := fun_mk (st := sLString) lW cW kW
  have bW := FW.binds (ps := ["_law_bag_here", "_law_size"]) fun _ _ _ _ _ _ us hl => match us, hl with | [_, _], _ => rfl
  have FXSv := fun_mk (st := sISt) lXSv cXSv kXSv
  have bXSv := FXSv.binds (ps := ["self", "value"]) fun _ _ _ _ _ _ us hl => match us, hl with | [_, _], _ => rfl
  have FXLm := fun_mk (st := sLMi) lXLm cXLm kXLm
  have bXLm := FXLm.binds (ps := ["self"]) fun _ _ _ _ _ _ us hl => match us, hl with | [_], _ => rfl
  have Finit := fun_mk (st := sSInit) linit cinit kinit
  have binit := Finit.binds (ps := ["self", "text"]) fun _ _ _ _ _ _ us hl => match us, hl with | [_, _], _ => rfl
  have Feq := fun_mk (st := sSEq) leq ceq keq
  have beq := Feq.binds (ps := ["self", "other"]) fun _ _ _ _ _ _ us hl => match us, hl with | [_, _], _ => rfl
  have Flen := fun_mk (st := sSLen) llen clen klen
  have blen := Flen.binds (ps := ["self"]) fun _ _ _ _ _ _ us hl => match us, hl with | [_], _ => rfl
  have Frep := fun_mk (st := sSRepr) lrep crep krep
  have brep := Frep.binds (ps := ["self"]) fun _ _ _ _ _ _ us hl => match us, hl with | [_], _ => rfl
  have Fmul := fun_mk (st := sSMul) lmul cmul kmul
  have bmul := Fmul.binds (ps := ["self", "other"]) fun _ _ _ _ _ _ us hl => match us, hl with | [_, _], _ => rfl
  have Fneg := fun_mk (st := sSNeg) lneg cneg kneg
  have bneg := Fneg.binds (ps := ["self"]) fun _ _ _ _ _ _ us hl => match us, hl with | [_], _ => rfl
  have Fhas := fun_mk (st := sSIn) lhas chas khas
  have bhas := Fhas.binds (ps := ["self", "x"]) fun _ _ _ _ _ _ us hl => match us, hl with | [_, _], _ => rfl
  have Ftxt := fun_mk (st := sSText) ltxt ctxt ktxt
  have btxt := Ftxt.binds (ps := ["self"]) fun _ _ _ _ _ _ us hl => match us, hl with | [_], _ => rfl
  have gL := PySem.W.mg_of X G aL
  have gSg := PySem.W.mg_of X G aSg
  have gSd := PySem.W.mg_of X G aSd
  have gIs := PySem.W.mg_of X G aIs
  have gCk := PySem.W.mg_of X G aCk
  have gTw := PySem.W.mg_of X G aTw
  have gMul := PySem.W.mg_of X G aMul
  have gB := PySem.W.mg_of X G aB
  have gP := PySem.W.mg_of X G aP
  have gO := PySem.W.mg_of X G aO
  have gE := PySem.W.mg_of X G aE
  have gFi := PySem.W.mg_of X G aFi
  have gTr := PySem.W.mg_of X G aTr
  have gY := PySem.W.mg_of X G aY
  have gLs := PySem.W.mg_of X G aLs
  have gTb := PySem.W.mg_of X G aTb
  have gTi := PySem.W.mg_of X G aTi
  have gTa := PySem.W.mg_of X G aTa
  have gW := PySem.W.mg_of X G aW
  have gSv := PySem.W.mg_of X G aSv
  have gLm := PySem.W.mg_of X G aLm
  have gCT := PySem.W.mg_of X G aCT
  have gCM := PySem.W.mg_of X G aCM
  have m_isinstance := PySem.W.mg_none_of X G z_isinstance
  have m_dict := PySem.W.mg_none_of X G z_dict
  have m_list := PySem.W.mg_none_of X G z_list
  have m_tuple := PySem.W.mg_none_of X G z_tuple
  have m_bool := PySem.W.mg_none_of X G z_bool
  have m_int := PySem.W.mg_none_of X G z_int
  have m_str := PySem.W.mg_none_of X G z_str
  have m_len := PySem.W.mg_none_of X G z_len
  have m_all := PySem.W.mg_none_of X G z_all
  have m_zip := PySem.W.mg_none_of X G z_zip
  have m_range := PySem.W.mg_none_of X G z_range
  have m_sum := PySem.W.mg_none_of X G z_sum
  have m_repr := PySem.W.mg_none_of X G z_repr
  have gA0 := PySem.W.mg_of X G slt
  have gD := PySem.W.mg_of X G d1
  have KD := kd_all d2 d3 (fun p hp => by simp only [ptab, List.mem_cons, List.not_mem_nil, or_false] at hp; rcases hp with rfl | rfl | rfl | rfl | rfl | rfl | rfl | rfl | rfl | rfl | rfl | rfl | rfl | rfl | rfl | rfl; all_goals first | exact ⟨_, q0⟩ | exact ⟨_, q1⟩ | exact ⟨_, q2⟩ | exact ⟨_, q3⟩ | exact ⟨_, q4⟩ | exact ⟨_, q5⟩ | exact ⟨_, q6⟩ | exact ⟨_, q7⟩ | exact ⟨_, q8⟩ | exact ⟨_, q9⟩ | exact ⟨_, q10⟩ | exact ⟨_, q11⟩ | exact ⟨_, q12⟩ | exact ⟨_, q13⟩ | exact ⟨_, q14⟩ | exact ⟨_, q15⟩)
  have gC0 := PySem.W.mg_of X G aC0
  have U : SST K mg C := ⟨⟨pg, hd, po, sa⟩, nW, gC0, m_isinstance, kS, kT, kI, kN, kind, get_, take_, mro_⟩
  have M : Mk K C finit := ⟨mk, ainit, iinit, kc⟩
  have TSv : OexC K CSv := ⟨⟨_, _, _, _, _, _, _, _, _, _, _, _, _, _, _, clsSv, rvSv⟩, saSv, exCSv, tyCSv, kCSv⟩
  have TLm : OexC K CLm := ⟨⟨_, _, _, _, _, _, _, _, _, _, _, _, _, _, _, clsLm, rvLm⟩, saLm, exCLm, tyCLm, kCLm⟩
  refine ⟨PySem.W.fnOf "law" "law" (defArgs sLaw) (defBody sLaw) (defScope sLaw) .none kVlaw dclaw pmlaw anlaw (.ref c) ctlaw, [(c, PT)], spLawT K PT, ?_, ?_, ?_, fun s v => .of_eq rfl, ?_, fun base _ _ tabs => ?_⟩
  · intro p hp
    rw [List.mem_singleton.mp hp]
    exact empty
  · intro p hp
    rw [List.mem_singleton.mp hp]
    exact noP
  · intro p hp
    rw [List.mem_singleton.mp hp]
    exact PySem.W.codeHd_of_K X hcode
  · intro H a ns hl _ hT hS
    exact ⟨a, ns, rfl, hS, hl, hT (c, PT) List.mem_cons_self, fun _ => rfl⟩
  have TB : TabB base mg c PT := tabs (c, PT) List.mem_cons_self
  clear tabs empty hcode noP d3 d2
  have ST : SameT mg := ⟨m_isinstance, m_dict, m_list, m_tuple, m_bool, m_int, m_str, m_len, m_all, m_zip⟩
  have GC := ok_chke (P := l.prog) (w := w) (base := base) FCk FIs bIs gIs FL bL gL gA0 m_all FXSv bXSv TSv aXSv tXSv ncSv n_valueSv gSv
  have RM := ok_multe (P := l.prog) (w := w) (base := base) FMul GC FCk bCk gCk FTw bTw gTw FL bL gL FSg bSg gSg FSd bSd gSd gD KD m_len m_sum m_zip FXLm bXLm TLm aXLm tXLm ncLm gLm
  have GP := ok_pull (P := l.prog) (w := w) (base := base) FP m_len
  have GW := ok_lstring (P := l.prog) (w := w) (base := base) FW FP bP gP FO bO gO FLs bLs gLs m_len m_range
  have GE := ok_same (P := l.prog) (w := w) (base := base) FE ST gE bE 2
  have GTi := ok_ltimes (P := l.prog) (w := w) (base := base) FTi FTb bTb gTb FY bY gY FLs bLs gLs m_int m_zip
  have GTa := ok_ltall (P := l.prog) (w := w) (base := base) FTa FTi bTi gTi FTb bTb gTb FY bY gY FLs bLs gLs m_int m_zip
  have GI := ok_sinit (P := l.prog) (w := w) (base := base) Finit GC FCk bCk gCk U
  have GMu := ok_smul (P := l.prog) (w := w) (base := base) Fmul M GI binit RM kMul gMul U
  have GNe := ok_sneg (P := l.prog) (w := w) (base := base) Fneg M GI binit FL bL gL (ok_signof FSg FL bL gL m_len) FSg bSg gSg (ok_signed FSd) FSd bSd gSd U
  exact ok_law (fd := PySem.W.fnOf "law" "law" (defArgs sLaw) (defBody sLaw) (defScope sLaw) .none kVlaw dclaw pmlaw anlaw (.ref c) ctlaw) llaw claw (ok_bag FB m_list) FB bB gB GP FP bP gP GE FE bE gE GW FW bW gW (ok_lbody FY) FY bY gY (ok_lsigned FLs) FLs bLs gLs GTi FTi bTi gTi GTa FTa bTa gTa
    M GI binit (ok_stext Ftxt U) btxt ⟨atxt, itxt, ktxt⟩ GMu bmul amul imul GNe bneg aneg ineg (ok_seq Feq U) beq aeq ieq (ok_slen Flen FL bL gL U m_len) blen alen ilen (ok_srepr Frep U) brep arep irep (ok_sin Fhas FL bL gL U m_list) bhas ahas ihas
    sf isO aNq uS uI uN U gTr kTr lTr cTr bTr lFi cFi bFi gFi kFi gCT gCM x1Sv (xfB_ok xfSv) ncSv n_valueSv x1Lm (xfB_ok xfLm) ncLm TB m_range m_len m_repr m_int m_list


end T77


open PySem PySem.W PyProof.Rows in
set_option maxRecDepth 100000 in
set_option maxHeartbeats 0 in
theorem PySem.Challenge.cw_threadmark_k77_strings_as_values_holds : PySem.Challenge.rw_threadmark_k77_strings_as_values.Holds := by
  w_on; o_law; k_head; (case hw => w_witness2)
  k_fill
  refine LamX.walk_ofTs (l := PySem.Challenge.rw_threadmark_k77_strings_as_values) (n := 63) (k := 13) (x := "_law_script") (CX := fun _ => L2.CX0) rfl (by decide) rfl ⟨rfl, by decide, by decide⟩ (fun w h Y => PySem.W.km_in_of Y) ?F (fun _ _ _ _ _ h => h)
  case F =>
    intro w mg fa h Y KX G hmg
    have tb := PySem.W.km_tabs_of Y 288 (by decide)
    have hm2 : mg "law" = some (.ref fa) := hmg
    clear Y hmg
    refine' T77.all_mk 288 KX G hm2 tb ?aSv ?aLm ?aCT ?aCM ?aC0 ?aL ?lL ?cL ?kL ?aSg ?lSg ?cSg ?kSg ?aSd ?lSd ?cSd ?kSd ?aIs ?lIs ?cIs ?kIs ?aCk ?lCk ?cCk ?kCk ?aTw ?lTw ?cTw ?kTw ?aMul ?lMul ?cMul ?kMul ?aB ?lB ?cB ?kB ?aP ?lP ?cP ?kP ?aO ?lO ?cO ?kO ?aE ?lE ?cE ?kE ?aFi ?lFi ?cFi ?kFi ?aTr ?lTr ?cTr ?kTr ?aY ?lY ?cY ?kY ?aLs ?lLs ?cLs ?kLs ?aTb ?lTb ?cTb ?kTb ?aTi ?lTi ?cTi ?kTi ?aTa ?lTa ?cTa ?kTa ?aW ?lW ?cW ?kW ?alaw ?llaw ?claw ?klaw ?aXSv ?lXSv ?cXSv ?kXSv ?tXSv ?saSv ?exCSv ?tyCSv ?kCSv ?clsSv ?rvSv ?ncSv ?x1Sv ?xmSv ?xfSv ?n_valueSv ?aXLm ?lXLm ?cXLm ?kXLm ?tXLm ?saLm ?exCLm ?tyCLm ?kCLm ?clsLm ?rvLm ?ncLm ?x1Lm ?xmLm ?xfLm ?hcode ?noP ?slt ?d1 ?d2 ?d3 ?q0 ?q1 ?q2 ?q3 ?q4 ?q5 ?q6 ?q7 ?q8 ?q9 ?q10 ?q11 ?q12 ?q13 ?q14 ?q15 ?ainit ?iinit ?linit ?cinit ?kinit ?aeq ?ieq ?leq ?ceq ?keq ?alen ?ilen ?llen ?clen ?klen ?arep ?irep ?lrep ?crep ?krep ?amul ?imul ?lmul ?cmul ?kmul ?aneg ?ineg ?lneg ?cneg ?kneg ?ahas ?ihas ?lhas ?chas ?khas ?atxt ?itxt ?ltxt ?ctxt ?ktxt ?pg ?hd ?po ?sa ?mk ?kc ?nW ?kS ?kT ?kI ?kN ?kind ?get_ ?take_ ?mro_ ?sf ?isO ?aNq ?uS ?uI ?uN ?z_isinstance ?z_dict ?z_list ?z_tuple ?z_bool ?z_int ?z_str ?z_len ?z_all ?z_zip ?z_range ?z_sum ?z_repr
    (case aSv => k_is)
    (case aLm => k_is)
    (case aCT => k_is)
    (case aCM => k_is)
    (case aC0 => k_is)
    (case aL => k_is)
    (case lL => k_is)
    (case cL => k_is)
    (case kL => k_is)
    (case aSg => k_is)
    (case lSg => k_is)
    (case cSg => k_is)
    (case kSg => k_is)
    (case aSd => k_is)
    (case lSd => k_is)
    (case cSd => k_is)
    (case kSd => k_is)
    (case aIs => k_is)
    (case lIs => k_is)
    (case cIs => k_is)
    (case kIs => k_is)
    (case aCk => k_is)
    (case lCk => k_is)
    (case cCk => k_is)
    (case kCk => k_is)
    (case aTw => k_is)
    (case lTw => k_is)
    (case cTw => k_is)
    (case kTw => k_is)
    (case aMul => k_is)
    (case lMul => k_is)
    (case cMul => k_is)
    (case kMul => k_is)
    (case aB => k_is)
    (case lB => k_is)
    (case cB => k_is)
    (case kB => k_is)
    (case aP => k_is)
    (case lP => k_is)
    (case cP => k_is)
    (case kP => k_is)
    (case aO => k_is)
    (case lO => k_is)
    (case cO => k_is)
    (case kO => k_is)
    (case aE => k_is)
    (case lE => k_is)
    (case cE => k_is)
    (case kE => k_is)
    (case aFi => k_is)
    (case lFi => k_is)
    (case cFi => k_is)
    (case kFi => k_is)
    (case aTr => k_is)
    (case lTr => k_is)
    (case cTr => k_is)
    (case kTr => k_is)
    (case aY => k_is)
    (case lY => k_is)
    (case cY => k_is)
    (case kY => k_is)
    (case aLs => k_is)
    (case lLs => k_is)
    (case cLs => k_is)
    (case kLs => k_is)
    (case aTb => k_is)
    (case lTb => k_is)
    (case cTb => k_is)
    (case kTb => k_is)
    (case aTi => k_is)
    (case lTi => k_is)
    (case cTi => k_is)
    (case kTi => k_is)
    (case aTa => k_is)
    (case lTa => k_is)
    (case cTa => k_is)
    (case kTa => k_is)
    (case aW => k_is)
    (case lW => k_is)
    (case cW => k_is)
    (case kW => k_is)
    (case alaw => k_is)
    (case llaw => k_is)
    (case claw => k_is)
    (case klaw => k_is)
    (case aXSv => k_is)
    (case lXSv => k_is)
    (case cXSv => k_is)
    (case kXSv => k_is)
    (case tXSv => k_is)
    (case saSv => k_is)
    (case exCSv => k_is)
    (case tyCSv => k_is)
    (case kCSv => k_is)
    (case clsSv => k_is)
    (case rvSv => first | k_is | rfl | kernel_rfl | decide +kernel)
    (case ncSv => k_is)
    (case x1Sv => first | k_is | rfl | kernel_rfl | decide +kernel)
    (case xmSv => first | k_is | rfl | kernel_rfl | decide +kernel)
    (case xfSv => first | k_is | rfl | kernel_rfl | decide +kernel)
    (case n_valueSv => k_is)
    (case aXLm => k_is)
    (case lXLm => k_is)
    (case cXLm => k_is)
    (case kXLm => k_is)
    (case tXLm => k_is)
    (case saLm => k_is)
    (case exCLm => k_is)
    (case tyCLm => k_is)
    (case kCLm => k_is)
    (case clsLm => k_is)
    (case rvLm => first | k_is | rfl | kernel_rfl | decide +kernel)
    (case ncLm => k_is)
    (case x1Lm => first | k_is | rfl | kernel_rfl | decide +kernel)
    (case xmLm => first | k_is | rfl | kernel_rfl | decide +kernel)
    (case xfLm => first | k_is | rfl | kernel_rfl | decide +kernel)
    (case hcode => first | k_is | rfl | kernel_rfl | decide +kernel)
    (case noP => first | k_is | rfl | kernel_rfl | decide +kernel)
    (case slt => k_is)
    (case d1 => k_is)
    (case d2 => k_is)
    (case d3 => exact ⟨⟨_, _, rfl, rfl⟩, ⟨_, _, rfl, rfl⟩, ⟨_, _, rfl, rfl⟩, ⟨_, _, rfl, rfl⟩, ⟨_, _, rfl, rfl⟩, ⟨_, _, rfl, rfl⟩, ⟨_, _, rfl, rfl⟩, ⟨_, _, rfl, rfl⟩, ⟨_, _, rfl, rfl⟩, ⟨_, _, rfl, rfl⟩, ⟨_, _, rfl, rfl⟩, ⟨_, _, rfl, rfl⟩, ⟨_, _, rfl, rfl⟩, ⟨_, _, rfl, rfl⟩, ⟨_, _, rfl, rfl⟩, ⟨_, _, rfl, rfl⟩, trivial⟩)
    (case q0 => k_is)
    (case q1 => k_is)
    (case q2 => k_is)
    (case q3 => k_is)
    (case q4 => k_is)
    (case q5 => k_is)
    (case q6 => k_is)
    (case q7 => k_is)
    (case q8 => k_is)
    (case q9 => k_is)
    (case q10 => k_is)
    (case q11 => k_is)
    (case q12 => k_is)
    (case q13 => k_is)
    (case q14 => k_is)
    (case q15 => k_is)
    (case ainit => k_is)
    (case iinit => k_is)
    (case linit => k_is)
    (case cinit => k_is)
    (case kinit => k_is)
    (case aeq => k_is)
    (case ieq => k_is)
    (case leq => k_is)
    (case ceq => k_is)
    (case keq => k_is)
    (case alen => k_is)
    (case ilen => k_is)
    (case llen => k_is)
    (case clen => k_is)
    (case klen => k_is)
    (case arep => k_is)
    (case irep => k_is)
    (case lrep => k_is)
    (case crep => k_is)
    (case krep => k_is)
    (case amul => k_is)
    (case imul => k_is)
    (case lmul => k_is)
    (case cmul => k_is)
    (case kmul => k_is)
    (case aneg => k_is)
    (case ineg => k_is)
    (case lneg => k_is)
    (case cneg => k_is)
    (case kneg => k_is)
    (case ahas => k_is)
    (case ihas => k_is)
    (case lhas => k_is)
    (case chas => k_is)
    (case khas => k_is)
    (case atxt => k_is)
    (case itxt => k_is)
    (case ltxt => k_is)
    (case ctxt => k_is)
    (case ktxt => k_is)
    (case pg => first | k_is | rfl | kernel_rfl | decide +kernel)
    (case hd => first | k_is | rfl | kernel_rfl | decide +kernel)
    (case po => first | k_is | rfl | kernel_rfl | decide +kernel)
    (case sa => first | k_is | rfl | kernel_rfl | decide +kernel)
    (case mk => first | k_is | rfl | kernel_rfl | decide +kernel)
    (case kc => first | k_is | rfl | kernel_rfl | decide +kernel)
    (case nW => first | k_is | rfl | kernel_rfl | decide +kernel)
    (case kS => first | k_is | rfl | kernel_rfl | decide +kernel)
    (case kT => first | k_is | rfl | kernel_rfl | decide +kernel)
    (case kI => first | k_is | rfl | kernel_rfl | decide +kernel)
    (case kN => first | k_is | rfl | kernel_rfl | decide +kernel)
    (case kind => first | k_is | rfl | kernel_rfl | decide +kernel)
    (case get_ => first | k_is | rfl | kernel_rfl | decide +kernel)
    (case take_ => first | k_is | rfl | kernel_rfl | decide +kernel)
    (case mro_ => first | k_is | rfl | kernel_rfl | decide +kernel)
    (case sf => first | k_is | rfl | kernel_rfl | decide +kernel)
    (case isO => first | k_is | rfl | kernel_rfl | decide +kernel)
    (case aNq => first | k_is | rfl | kernel_rfl | decide +kernel)
    (case uS => first | k_is | rfl | kernel_rfl | decide +kernel)
    (case uI => first | k_is | rfl | kernel_rfl | decide +kernel)
    (case uN => first | k_is | rfl | kernel_rfl | decide +kernel)
    (case z_isinstance => k_is)
    (case z_dict => k_is)
    (case z_list => k_is)
    (case z_tuple => k_is)
    (case z_bool => k_is)
    (case z_int => k_is)
    (case z_str => k_is)
    (case z_len => k_is)
    (case z_all => k_is)
    (case z_zip => k_is)
    (case z_range => k_is)
    (case z_sum => k_is)
    (case z_repr => k_is)


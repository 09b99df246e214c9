import PyProof.Rows.All
import Wide.All
import OpenK.AllK
import Wide.FinOn
import HandS.ForMost
import HandS.Flow
import HandS.Style
import HandS.StrMore
import HandS.IsInst
import HandS.Zip
import HandS.Conv
import HandS.Walk
import PyProof.Rows.StrRev
import HandS.Star
import HandS.TryOnly
import KE.GoesNew
import KE.GoesMore
import HandS.SetBool
import HandS.Strs
import KE.GoesComp
import HandS.More
import HandS.TupAny
import PyProof.StrBlock2
import PyProof.Rows.StrCountLaw
import PySem.Challenge.RW_threadmark_k23_whole_products_of_strings
set_option Elab.async false
set_option linter.all false
set_option maxRecDepth 100000
/-! The part that every law of this program shares: heaps, the bag, a few rules. -/
namespace Tm
open PySem PySem.Spec PyProof.Rows L2

/-! ### heaps: all but the object at b is as it was -/
def Kp (b : Addr) (H H' : Hp) : Prop := ∀ p o, p ≠ b → H p = some o → H' p = some o
theorem Kp.refl (b : Addr) (H : Hp) : Kp b H H := fun _ _ _ h => h
theorem Kp.trans {b : Addr} {H H1 H2 : Hp} (x : Kp b H H1) (y : Kp b H1 H2) : Kp b H H2 := fun p o n h => y p o n (x p o n h)
theorem Kp.of_same {b : Addr} {H H' : Hp} (s : Same H H') : Kp b H H' := fun p o _ h => s p o h
theorem Kp.set {b : Addr} {H : Hp} {o : HO} : Kp b H (upd H b o) := fun p u n h => by rw [upd_ne n]; exact h
theorem Kp.new {b q : Addr} {H : Hp} {o : HO} (h : H q = none) : Kp b H (upd H q o) := fun p u _ e => by
  rw [upd_ne (ne_of_none e h)]; exact e
/-- a store to an object that was not there at the start -/
theorem Kp.put {b q : Addr} {H H' : Hp} {o : HO} (k : Kp b H H') (h : H q = none) : Kp b H (upd H' q o) := fun p u n e => by
  rw [upd_ne (ne_of_none e h)]; exact k p u n e
theorem same_upd {H : Hp} {p : Addr} {o : HO} (h : H p = none) : Same H (upd H p o) := fun b x e => by
  rw [upd_ne (ne_of_none e h)]; exact e
theorem same_put {q : Addr} {H H' : Hp} {o : HO} (k : Same H H') (h : H q = none) : Same H (upd H' q o) := fun p u e => by
  rw [upd_ne (ne_of_none e h)]; exact k p u e
theorem Kp.free {b : Addr} {H H' : Hp} (e : Kp b H H') {l : Addr} (hb : ∃ o, H' b = some o) (h : H' l = none) : H l = none := by
  obtain ⟨o, hb⟩ := hb
  have n : l ≠ b := fun z => by rw [z, hb] at h; cases h
  cases q : H l with
  | none => rfl
  | some o => rw [e l o n q] at h; cases h
theorem Kp.seq {K : PySem.W.Frag} {b : Addr} {H H' : Hp} {a : Addr} {xs : List V} (e : Kp b H H') (n : a ≠ b) (h : SqL K H a xs) : SqL K H' a xs :=
  h.imp (fun seen => seen.imp (e a _ n) (fun ⟨ob, at_a⟩ => ⟨ob, e a _ n at_a⟩)) id

/-! ### the bag of the draws -/
def Bag (H : Hp) (b l : Addr) : Prop := ∃ (xs : List Int) (i n s : Int), H b = some (.lst [.ref l, .int i, .int n, .int s]) ∧ H l = some (.lst (xs.map V.int)) ∧ 0 ≤ i ∧ 0 ≤ n ∧ 0 ≤ s ∧ s < 2147483549
theorem bag_ne {H : Hp} {b l : Addr} {xs : List Int} {u v w : V} {a : Addr} (h : H b = some (.lst [.ref a, u, v, w])) (hl : H l = some (.lst (xs.map V.int))) : l ≠ b := ne_of hl h (by
  intro e
  have e2 := HO.lst.inj e
  cases xs with
  | nil => cases e2
  | cons x r => cases e2)
theorem Bag.hb {H : Hp} {b l : Addr} (B : Bag H b l) : ∃ o, H b = some o := by
  obtain ⟨xs, i, n, s, h, _⟩ := B
  exact ⟨_, h⟩
theorem Bag.hl {H : Hp} {b l : Addr} (B : Bag H b l) : ∃ o, H l = some o := by
  obtain ⟨xs, i, n, s, _, h, _⟩ := B
  exact ⟨_, h⟩
theorem Bag.nb {H : Hp} {b l q : Addr} (B : Bag H b l) (h : H q = none) : q ≠ b := fun e => by
  obtain ⟨o, hb⟩ := B.hb
  rw [e, hb] at h; cases h
theorem Bag.nl {H : Hp} {b l q : Addr} (B : Bag H b l) (h : H q = none) : q ≠ l := fun e => by
  obtain ⟨o, hb⟩ := B.hl
  rw [e, hb] at h; cases h
/-- a store elsewhere -/
theorem Bag.put {H : Hp} {b l q : Addr} {o : HO} (B : Bag H b l) (n1 : q ≠ b) (n2 : q ≠ l) : Bag (upd H q o) b l := by
  obtain ⟨xs, i, n, s, hb, hl, r⟩ := B
  exact ⟨xs, i, n, s, by rw [upd_ne n1.symm]; exact hb, by rw [upd_ne n2.symm]; exact hl, r⟩
theorem Bag.new {H : Hp} {b l q : Addr} {o : HO} (B : Bag H b l) (h : H q = none) : Bag (upd H q o) b l := B.put (B.nb h) (B.nl h)
theorem Bag.same {H H' : Hp} {b l : Addr} (B : Bag H b l) (k : Same H H') : Bag H' b l := by
  obtain ⟨xs, i, n, s, hb, hl, r⟩ := B
  exact ⟨xs, i, n, s, k _ _ hb, k _ _ hl, r⟩

/-! ### list(text) -/
def sig (c : Nat) : V := .str ⟨#[c]⟩
/-- two lists, place by place -/
theorem placewise {α β : Type} {R : α → β → Prop} : ∀ (as : List α) (bs : List β), as.length = bs.length → (∀ (j : Nat) (a : α) (b : β), as[j]? = some a → bs[j]? = some b → R a b) → Paired R as bs
  | [], [], _, _ => .nil
  | a :: as, b :: bs, hl, h => .cons (h 0 a b rfl rfl) (placewise as bs (Nat.succ.inj hl) fun j x y hx hy => h (j + 1) x y hx hy)
/-- the cells that the machine drew out of a text are its signs -/
theorem signs_drawn (z : Str) (cells : Array Value) (drawn : ItemsOf (SignAt z) cells z.cps.size) : Vals (z.cps.toList.map sig) cells.toList := by
  apply placewise
  · simp [drawn.1]
  · intro j v u hv hu
    rw [Array.getElem?_toList] at hu
    rcases drawn.2 j u hu with ⟨code, tok, there, rfl⟩
    have same : v = sig code := by
      rw [List.getElem?_map, Array.getElem?_toList, there] at hv
      exact (Option.some.inj hv).symm
    rw [same]
    exact ⟨tok, rfl⟩
theorem call_listS {X : Cx} (calm : X.calm = true) : CallR X (.type "list") (fun given H Q => ∃ z : Str, given = [.str z] ∧ z.length ≤ sizeLine ∧ ∀ l, H l = none → Q (.ref l) (upd H l (.lst (z.cps.toList.map sig)))) :=
  fun pins s σ H given held Q inv rel ask => by
    rcases ask with ⟨z, rfl, short, hand⟩
    match held, rel with
    | [_], .cons ⟨tok, rfl⟩ .nil =>
      apply PySem.call_list_str (inv.ok.hd calm) z tok (hn := short)
      intro heap toks cells ver kept made drawn
      have long : (z.cps.toList.map sig).length ≤ sizeLine := by
        rw [List.length_map, Array.length_toList]
        exact short
      have stands : Inv X pins σ (upd H s.heap.objs.size (.lst (z.cps.toList.map sig))) { s with heap := heap, toks := toks } :=
        inv.laid kept (Nat.le_refl _) ⟨long, cells.toList, ver, signs_drawn z cells drawn, made⟩
      exact ⟨V.ref s.heap.objs.size, _, stands, rfl, hand _ (inv.hok.fresh (Nat.le_refl _))⟩

/-! ### small things -/
theorem cut {t1 t2 : TS} {D : Ends} {σ : L2.St} {H : Hp} (Pv : L2.St → Hp → Prop) (h2 : ∀ σ' H', Pv σ' H' → t2 D σ' H') (h1 : ∀ N : L2.St → Hp → Prop, (∀ σ' H', Pv σ' H' → N σ' H') → t1 { D with nx := N } σ H) : tSeq t1 t2 D σ H := h1 _ h2
theorem cut_ints (ns : List Int) (lo hi : Option Int) : ∃ ms : List Int, cutV (ns.map V.int) lo hi = ms.map V.int := by
  unfold cutV
  rw [← List.map_drop, ← List.map_take]
  exact ⟨_, rfl⟩
theorem cut_int {ns : List Int} {lo hi : Option Int} {i : Nat} {y : V} (h : (cutV (ns.map V.int) lo hi)[i]? = some y) : ∃ u, y = V.int u := by
  obtain ⟨ms, e⟩ := cut_ints ns lo hi
  rw [e, List.getElem?_map] at h
  cases e2 : ms[i]? with
  | none => rw [e2] at h; cases h
  | some u => rw [e2] at h; exact ⟨u, (Option.some.inj h).symm⟩

/-! ### what the helpers promise -/
def spBag (K : PySem.W.Frag) : Sp := fun vs H Q _ => ∃ (a : Addr) (ns : List Int), vs = [.ref a] ∧ SqL K H a (ns.map V.int) ∧ ∀ H' b l, Same H H' → H b = none → H l = none → Bag H' b l → Q (.ref b) H'
def spPull : Sp := fun vs H Q _ => ∃ (b l : Addr) (m : Int), vs = [.ref b, .int m] ∧ Bag H b l ∧ 0 < m ∧ m < 1073741824 ∧ ∀ H' (d : Int), Kp b H H' → Bag H' b l → 0 ≤ d → d < m → Q (.int d) H'

/-! ### equal data -/
inductive Eqv (H : Hp) : Nat → V → V → Prop where
  | non (n : Nat) : Eqv H n .non .non
  | bl (n : Nat) (b : Bool) : Eqv H n (.bl b) (.bl b)
  | int (n : Nat) (i : Int) : Eqv H n (.int i) (.int i)
  | str (n : Nat) (z : Str) : Eqv H n (.str z) (.str z)
  | lst {n : Nat} {p q : Addr} {xs ys : List V} (hp : H p = some (.lst xs)) (hq : H q = some (.lst ys)) (hl : xs.length = ys.length) (hz : xs.length ≤ 10000) (h : ∀ (i : Nat) (x y : V), xs[i]? = some x → ys[i]? = some y → Eqv H n x y) : Eqv H (n + 1) (.ref p) (.ref q)
  | tup {n : Nat} {p q : Addr} {xs ys : List V} (hp : H p = some (.tup xs)) (hq : H q = some (.tup ys)) (hl : xs.length = ys.length) (hz : xs.length ≤ 10000) (h : ∀ (i : Nat) (x y : V), xs[i]? = some x → ys[i]? = some y → Eqv H n x y) : Eqv H (n + 1) (.ref p) (.ref q)
theorem Eqv.same {H H' : Hp} (s : Same H H') {n : Nat} {x y : V} (e : Eqv H n x y) : Eqv H' n x y := by
  induction e with
  | non n => exact .non n
  | bl n b => exact .bl n b
  | int n i => exact .int n i
  | str n z => exact .str n z
  | lst hp hq hl hz h ih => exact .lst (s _ _ hp) (s _ _ hq) hl hz ih
  | tup hp hq hl hz h ih => exact .tup (s _ _ hp) (s _ _ hq) hl hz ih
def spSame (n : Nat) : Sp := fun vs H Q _ => ∃ (x y : V), vs = [x, y] ∧ Eqv H n x y ∧ ∀ H', Same H H' → Q (.bl true) H'
/-- the type of a flat value -/
theorem kit_list {K : PySem.W.Frag} {a : String} {r : Bool} (h : kitB a "list" = some r) (h2 : r = false → kitB a "tuple" = some false) : PySem.W.kitAny K (.type a) [.type "list", .type "tuple"] = some r := by
  refine kitAny_cons (kit_ty h) (fun e => ?_) (fun e => e)
  subst e
  exact kitAny_cons (kit_ty (h2 rfl)) (fun _ => kitAny_nil) (fun e => by cases e)
theorem kit_tup {K : PySem.W.Frag} : PySem.W.kitAny K (.type "tuple") [.type "list", .type "tuple"] = some true :=
  kitAny_cons (b := false) (kit_ty (by decide +kernel)) (fun _ => kitAny_cons (b := true) (kit_ty (by decide +kernel)) (fun e => by cases e) (fun _ => rfl)) (fun e => by cases e)
/-- zip of two tuples, walked to the end of the shorter -/
theorem zip_tuples {K : PySem.W.Frag} {a b : Addr} {xs ys : List V} (hl : xs.length = ys.length) : Walk (RZ.ItzT K a b) xs.length (fun H => SqT K H a xs ∧ SqT K H b ys) (YPair (fun i => xs[i]?) (fun i => ys[i]?)) where
  goes := fun i H lt both => ⟨xs, ys, xs[i], ys[i]'(by omega), both.1, both.2, List.getElem?_eq_getElem lt, List.getElem?_eq_getElem (by omega)⟩
  stops := fun H both => ⟨xs, ys, both.1, both.2, .inl (Nat.le_refl _)⟩
  yields := fun i H v H' _ both ⟨T, x, y, e, new, after, at_x, at_y⟩ => ⟨T, x, y, e, new, after, at_x xs both.1, at_y ys both.2⟩
def spOf (K : PySem.W.Frag) : Sp := fun vs H Q _ => ∃ (b l : Addr) (t : V) (xs : List V), vs = [.ref b, t] ∧ Bag H b l ∧
  ((∃ a, t = .ref a ∧ a ≠ b ∧ SqL K H a xs) ∨ (∃ z : Str, t = .str z ∧ z.length ≤ sizeLine ∧ xs = z.cps.toList.map sig)) ∧ 0 < xs.length ∧ xs.length < 1073741824 ∧ ∀ H' x, Kp b H H' → Bag H' b l → x ∈ xs → Q x H'
def spMixed (K : PySem.W.Frag) : Sp := fun vs H Q _ => ∃ (b l a : Addr) (xs : List V), vs = [.ref b, .ref a] ∧ Bag H b l ∧ a ≠ b ∧ SqL K H a xs ∧ xs.length ≤ 1000 ∧
  ∀ H' p ys, Kp b H H' → Bag H' b l → H p = none → H' p = some (.lst ys) → ys.Perm xs → Q (.ref p) H'
theorem erasePm {α : Type} : ∀ (l : List α) (i : Nat) (h : i < l.length), (l[i] :: l.eraseIdx i).Perm l
  | [], i, h => absurd h (Nat.not_lt_zero _)
  | x :: r, 0, h => .refl _
  | x :: r, i + 1, h => by
    have hr : i < r.length := Nat.lt_of_succ_lt_succ h
    show (r[i] :: x :: r.eraseIdx i).Perm (x :: r)
    exact (List.Perm.swap x _ _).trans ((erasePm r i hr).cons x)
theorem ifF {c : Bool} {A B : Prop} (h : c = false) (hb : B) : if c = true then A else B := by rw [h]; exact iteF hb
theorem ifT {c : Bool} {A B : Prop} (h : c = true) (ha : A) : if c = true then A else B := by rw [h]; exact iteT ha




/-! ### texts as lists of signs -/
def txt (cs : List Nat) : Str := ⟨cs.toArray⟩
theorem txt_len (cs : List Nat) : (txt cs).length = cs.length := by show cs.toArray.size = _; simp
theorem txt_cps (cs : List Nat) : (txt cs).cps.toList = cs := by show cs.toArray.toList = _; simp
theorem txt_of (z : Str) : txt z.cps.toList = z := by show (⟨z.cps.toList.toArray⟩ : Str) = z; simp
theorem txt_app (a b : List Nat) : txt a ++ txt b = txt (a ++ b) := by
  show (⟨a.toArray ++ b.toArray⟩ : Str) = ⟨(a ++ b).toArray⟩
  simp
theorem txt_inj {a b : List Nat} (h : txt a = txt b) : a = b := by rw [← txt_cps a, ← txt_cps b, h]
theorem txt_minus : Str.ofString "-" = txt [45] := by decide +kernel
theorem txt_empty : Str.ofString "" = txt [] := by decide +kernel
theorem sig_txt (c : Nat) : sig c = .str (txt [c]) := rfl
def lettersL : List Nat → List Nat
  | [] => []
  | c :: r => if c = 45 then r else c :: r
def signL : List Nat → Nat
  | [] => 0
  | c :: r => if c = 45 then 1 else 0
def signedL (t : Int) (cs : List Nat) : List Nat := if t % 2 = 1 then 45 :: cs else cs
theorem letters_len (ts : List Nat) : (lettersL ts).length + signL ts = ts.length := by
  cases ts with
  | nil => rfl
  | cons c r =>
    show (if c = 45 then r else c :: r).length + (if c = 45 then 1 else 0) = r.length + 1
    by_cases h : c = 45
    · rw [if_pos h, if_pos h]
    · rw [if_neg h, if_neg h, List.length_cons]
theorem remove_minus (ts : List Nat) : Txt.removeprefix (txt ts) (Str.ofString "-") = txt (lettersL ts) := by
  rw [txt_minus]
  unfold Txt.removeprefix
  cases ts with
  | nil => rfl
  | cons c r =>
    have e : Builtin.Str.subAt (txt (c :: r)) (txt [45]) 0 = decide (c = 45) := by
      unfold Builtin.Str.subAt
      show ((c :: r).toArray.extract 0 (0 + 1) == #[45]) = _
      have e2 : (c :: r).toArray.extract 0 (0 + 1) = #[c] := by simp
      rw [e2]
      by_cases h : c = 45
      · subst h; rfl
      · rw [decide_eq_false h]
        simp [h]
    rw [e]
    show _ = txt (if c = 45 then r else c :: r)
    by_cases h : c = 45
    · rw [decide_eq_true h, if_pos rfl, if_pos h]
      unfold Txt.affix
      have e3 : ((txt (c :: r)).length - (txt [45]).length == (txt (c :: r)).length) = false := by
        rw [txt_len, txt_len]
        simp
      show (if ((txt (c :: r)).length - (txt [45]).length == (txt (c :: r)).length) = true then _ else _) = _
      rw [e3, if_neg Bool.false_ne_true]
      show (⟨(c :: r).toArray.extract 1 (c :: r).toArray.size⟩ : Str) = ⟨r.toArray⟩
      simp
    · rw [decide_eq_false h, if_neg Bool.false_ne_true, if_neg h]
      rfl
theorem join_txt : ∀ (xs : List (List Nat)), Txt.join (Str.ofString "") (xs.map txt) = txt xs.flatten := by
  intro xs
  show Builtin.Str.glued _ _ = _
  rw [StrLaws.glued_eq_join, txt_empty]
  induction xs with
  | nil => rfl
  | cons x r ih =>
    cases r with
    | nil => show txt x = txt (x ++ []); rw [List.append_nil]
    | cons y r =>
      show txt x ++ txt [] ++ Str.join (txt []) ((y :: r).map txt) = _
      rw [ih, txt_app, txt_app, List.append_nil]
      rfl
theorem flat_ones (cs : List Nat) : (cs.map fun c => [c]).flatten = cs := by
  induction cs with
  | nil => rfl
  | cons c r ih => show c :: (r.map fun c => [c]).flatten = _; rw [ih]
theorem join_sigs (cs : List Nat) : Txt.join (Str.ofString "") (cs.map fun c => txt [c]) = txt cs := by
  have e : (cs.map fun c => txt [c]) = (cs.map fun c => [c]).map txt := by rw [List.map_map]; rfl
  rw [e, join_txt, flat_ones]
theorem len_ones (cs : List Nat) : ((cs.map fun c => txt [c]).map (·.length)).sum = cs.length := by
  induction cs with
  | nil => rfl
  | cons c r ih =>
    show (txt [c]).length + ((r.map fun c => txt [c]).map (·.length)).sum = _
    rw [ih, txt_len, List.length_cons]
    simp [Nat.add_comm]
/-- a word: its sign, its letters (none is the sign) -/
def wd (s : Bool) (cs : List Nat) : List Nat := if s then 45 :: cs else cs
def Lt (cs : List Nat) : Prop := ∀ c ∈ cs, c ≠ 45
theorem letters_wd {s : Bool} {cs : List Nat} (h : Lt cs) : lettersL (wd s cs) = cs := by
  cases s with
  | true => rfl
  | false =>
    cases cs with
    | nil => rfl
    | cons c r =>
      show (if c = 45 then r else c :: r) = c :: r
      rw [if_neg (h c List.mem_cons_self)]
theorem sign_wd {s : Bool} {cs : List Nat} (h : Lt cs) : signL (wd s cs) = s.toNat := by
  cases s with
  | true => rfl
  | false =>
    cases cs with
    | nil => rfl
    | cons c r =>
      show (if c = 45 then 1 else 0) = 0
      rw [if_neg (h c List.mem_cons_self)]
theorem signed_wd (t : Int) (cs : List Nat) : signedL t cs = wd (decide (t % 2 = 1)) cs := by
  unfold signedL wd
  by_cases h : t % 2 = 1
  · rw [if_pos h, decide_eq_true h]; rfl
  · rw [if_neg h, decide_eq_false h]; rfl
theorem wd_len (s : Bool) (cs : List Nat) : (wd s cs).length = cs.length + s.toNat := by cases s <;> rfl
def spLetters : Sp := fun vs H Q _ => ∃ ts : List Nat, vs = [.str (txt ts)] ∧ ts.length ≤ sizeLine ∧ Q (.str (txt (lettersL ts))) H
def spSignOf : Sp := fun vs H Q _ => ∃ ts : List Nat, vs = [.str (txt ts)] ∧ ts.length ≤ sizeLine ∧ Q (.int (signL ts)) H
def spSigned : Sp := fun vs H Q _ => ∃ (t : Int) (cs : List Nat), vs = [.int t, .str (txt cs)] ∧ cs.length < sizeLine ∧ Q (.str (txt (signedL t cs))) H

/-! ### cancelling -/
def stp (rs : List Nat) (c : Nat) : List Nat := match rs with
  | [] => [c]
  | d :: r => if d = c then r else c :: d :: r
def noAdj : List Nat → Prop
  | a :: b :: r => a ≠ b ∧ noAdj (b :: r)
  | _ => True
theorem noAdj.tail {a : Nat} {r : List Nat} (h : noAdj (a :: r)) : noAdj r := by
  cases r with
  | nil => trivial
  | cons b r => exact h.2
theorem stp_noAdj {rs : List Nat} (c : Nat) (h : noAdj rs) : noAdj (stp rs c) := by
  cases rs with
  | nil => trivial
  | cons d r =>
    unfold stp
    dsimp only
    by_cases e : d = c
    · rw [if_pos e]; exact h.tail
    · rw [if_neg e]; exact ⟨fun z => e z.symm, h⟩
theorem stp_stp {rs : List Nat} (c : Nat) (h : noAdj rs) : stp (stp rs c) c = rs := by
  cases rs with
  | nil => show (if c = c then [] else _) = _; rw [if_pos rfl]
  | cons d r =>
    by_cases e : d = c
    · subst e
      have e1 : stp (d :: r) d = r := if_pos rfl
      rw [e1]
      cases r with
      | nil => rfl
      | cons b r =>
        show (if b = d then r else d :: b :: r) = _
        rw [if_neg (fun z => h.1 z.symm)]
    · have e1 : stp (d :: r) c = c :: d :: r := if_neg e
      rw [e1]
      show (if c = c then d :: r else _) = _
      rw [if_pos rfl]
def redR (cs : List Nat) : List Nat := cs.foldl stp []
def redL (cs : List Nat) : List Nat := (redR cs).reverse
theorem fold_noAdj : ∀ (cs rs : List Nat), noAdj rs → noAdj (cs.foldl stp rs)
  | [], _, h => h
  | c :: r, rs, h => fold_noAdj r (stp rs c) (stp_noAdj c h)
theorem redR_snoc (cs : List Nat) (c : Nat) : redR (cs ++ [c]) = stp (redR cs) c := by
  unfold redR
  rw [List.foldl_append]
  rfl
theorem red_cancel (a b : List Nat) (c : Nat) : redL (a ++ c :: c :: b) = redL (a ++ b) := by
  unfold redL redR
  rw [List.foldl_append, List.foldl_append]
  show (b.foldl stp (stp (stp (a.foldl stp []) c) c)).reverse = _
  rw [stp_stp c (fold_noAdj a [] trivial)]
theorem stp_mem {rs : List Nat} {c x : Nat} (h : x ∈ stp rs c) : x = c ∨ x ∈ rs := by
  cases rs with
  | nil => exact .inl (List.mem_singleton.mp h)
  | cons d r =>
    by_cases e : d = c
    · have e1 : stp (d :: r) c = r := if_pos e
      rw [e1] at h
      exact .inr (List.mem_cons_of_mem _ h)
    · have e1 : stp (d :: r) c = c :: d :: r := if_neg e
      rw [e1] at h
      exact (List.mem_cons.mp h)
theorem stp_len (rs : List Nat) (c : Nat) : (stp rs c).length ≤ rs.length + 1 := by
  cases rs with
  | nil => exact Nat.le_refl _
  | cons d r =>
    by_cases e : d = c
    · have e1 : stp (d :: r) c = r := if_pos e
      rw [e1, List.length_cons]; omega
    · have e1 : stp (d :: r) c = c :: d :: r := if_neg e
      rw [e1]; exact Nat.le_refl _
def still (cs : List Nat) : Prop := ∀ (i : Nat) (a b : Nat), cs[i]? = some a → cs[i + 1]? = some b → a ≠ b
theorem redR_take {cs : List Nat} (h : still cs) : ∀ k, k ≤ cs.length → redR (cs.take k) = (cs.take k).reverse
  | 0, _ => rfl
  | k + 1, hk => by
    have hk1 : k < cs.length := hk
    rw [List.take_succ_eq_append_getElem hk1, redR_snoc, redR_take h k (by omega), List.reverse_append]
    cases k with
    | zero => rfl
    | succ j =>
      have hj : j < cs.length := by omega
      rw [List.take_succ_eq_append_getElem hj, List.reverse_append]
      show (if cs[j] = cs[j + 1] then _ else cs[j + 1] :: cs[j] :: (cs.take j).reverse) = cs[j + 1] :: cs[j] :: (cs.take j).reverse
      rw [if_neg (h j _ _ (List.getElem?_eq_getElem hj) (List.getElem?_eq_getElem hk1))]
theorem red_still {cs : List Nat} (h : still cs) : redL cs = cs := by
  have e := redR_take h cs.length (Nat.le_refl _)
  rw [List.take_length] at e
  unfold redL
  rw [e, List.reverse_reverse]
theorem redR_len (cs : List Nat) : (redR cs).length ≤ cs.length := by
  have : ∀ (cs rs : List Nat), (cs.foldl stp rs).length ≤ rs.length + cs.length := by
    intro cs
    induction cs with
    | nil => intro rs; exact Nat.le_refl _
    | cons c r ih =>
      intro rs
      have h1 := ih (stp rs c)
      have h2 := stp_len rs c
      show (r.foldl stp (stp rs c)).length ≤ rs.length + (r.length + 1)
      omega
  have h := this cs []
  rw [List.length_nil, Nat.zero_add] at h
  exact h
def spReduced : Sp := fun vs H Q _ => ∃ ts : List Nat, vs = [.str (txt ts)] ∧ ts.length ≤ 1000 ∧ ∀ H', Same H H' → Q (.str (txt (signedL (signL ts) (redL (lettersL ts))))) H'

/-! ### slices of texts; lists of ints as data -/
theorem cutS_take (cs : List Nat) (k : Nat) : cutS (txt cs) none (some (k : Int)) = txt (cs.take k) := by
  unfold cutS
  rw [txt_cps, HT.sIx_none, HT.sIx_nat, txt_len]
  show txt _ = txt _
  congr 1
  rw [List.drop_zero, Nat.sub_zero]
  by_cases h : k ≤ cs.length
  · rw [Nat.min_eq_left h]
  · rw [Nat.min_eq_right (by omega), List.take_length, List.take_of_length_le (by omega)]
theorem cutS_drop (cs : List Nat) (k : Nat) : cutS (txt cs) (some (k : Int)) none = txt (cs.drop k) := by
  unfold cutS
  rw [txt_cps, HT.sIx_none, HT.sIx_nat, txt_len]
  show txt _ = txt _
  congr 1
  by_cases h : k ≤ cs.length
  · rw [Nat.min_eq_left h]
    exact List.take_of_length_le (by rw [List.length_drop]; exact Nat.le_refl _)
  · rw [Nat.min_eq_right (by omega), List.drop_of_length_le (Nat.le_refl _), List.drop_of_length_le (l := cs) (by omega)]
    exact List.take_nil
theorem cutV_take (xs : List V) (k : Nat) : cutV xs none (some (k : Int)) = xs.take k := by
  unfold cutV
  rw [HT.sIx_none, HT.sIx_nat, List.drop_zero, Nat.sub_zero]
  by_cases h : k ≤ xs.length
  · rw [Nat.min_eq_left h]
  · rw [Nat.min_eq_right (by omega), List.take_length, List.take_of_length_le (by omega)]
theorem dp_ints {K : PySem.W.Frag} {H : Hp} : ∀ ns : List Int, DpAll K H (ns.map V.int) (ns.map PyData.int)
  | [] => .nil
  | n :: r => .cons (.int n) (dp_ints r)
theorem shaped_ints' (ns : List Int) : SeqAt.shaped (.list (ns.map PyData.int)) = true := PySem.W.ke_shaped_ints ns
theorem signed_wd0 {s : Bool} (cs : List Nat) : signedL ((s.toNat : Nat) : Int) cs = wd s cs := by cases s <;> rfl
def spLSigned : Sp := spSigned
def spLets : Sp := fun vs H Q _ => vs = [] ∧ Q (.str (Str.ofString "abcdefghijklmnopqrstuvwx")) H
def alpha : List Nat := [97, 98, 99, 100, 101, 102, 103, 104, 105, 106, 107, 108, 109, 110, 111, 112, 113, 114, 115, 116, 117, 118, 119, 120]
theorem txt_alpha : Str.ofString "abcdefghijklmnopqrstuvwx" = txt alpha := by decide +kernel
theorem alpha_lt {c : Nat} (h : c ∈ alpha) : c ≠ 45 := by
  intro e
  subst e
  exact absurd h (by decide)
theorem perm_sigs {ys : List V} {cs : List Nat} (h : ys.Perm (cs.map sig)) : ∃ ds : List Nat, ys = ds.map sig ∧ ds.Perm cs := by
  refine ⟨ys.map (fun v => match v with | .str z => z.cps.toList.headD 0 | _ => 0), ?_, ?_⟩
  · rw [List.map_map]
    have : ∀ y ∈ ys, (sig ∘ fun v => match v with | .str z => z.cps.toList.headD 0 | _ => 0) y = y := by
      intro y hy
      obtain ⟨c, _, rfl⟩ := List.mem_map.mp (h.mem_iff.mp hy)
      rfl
    rw [List.map_congr_left this, List.map_id']
  · have h2 := h.map (fun v => match v with | .str z => z.cps.toList.headD 0 | _ => 0)
    rw [List.map_map] at h2
    have e : ((fun v => match v with | V.str z => z.cps.toList.headD 0 | _ => 0) ∘ sig) = id := by funext c; rfl
    rw [e, List.map_id] at h2
    exact h2
def spLaw (K : PySem.W.Frag) : Sp := fun vs H Q _ => ∃ (a : Addr) (ns : List Int), vs = [.ref a] ∧ SqL K H a (ns.map V.int) ∧ ns.length ≤ 63 ∧ ∀ H', Q (.bl true) H'
end Tm

/-! a text backwards -/
namespace Tm
open PySem PySem.Spec PyProof.Rows L2
def tBackS (te : TE) : TE := fun σ H Q => te σ H fun v H1 => ∃ cs : List Nat, v = .str (txt cs) ∧ cs.length ≤ sizeLine ∧ Q (.str (txt cs.reverse)) H1
theorem back_txt (cs : List Nat) (u : Tok) : Txt.sliceBy (txt cs) none none (-1, u) = txt cs.reverse := by
  have same : (Txt.sliceBy (txt cs) none none (-1, u)).cps.toList = cs.reverse := by
    rw [step_rev_list]
    apply List.ext_getElem
    · simp [txt_len]
    · intro j hj hk
      have hj2 : j < cs.length := by simpa using hk
      rw [List.getElem_map, List.getElem_range, List.getElem_reverse, txt_len]
      show cs.toArray.getD (cs.length - 1 - j) 0 = _
      rw [Array.getD_eq_getD_getElem?, List.getElem?_toArray, List.getElem?_eq_getElem (by omega)]
      rfl
  rw [← txt_of (Txt.sliceBy (txt cs) none none (-1, u)), same]
theorem text_stays (e : Expr) (z : Str) (t : Tok) (r : Value) : letTemporaryGo e (.str z t) r = pure () := by cases e <;> rfl
theorem pe_back {X : Cx} {e : Expr} {te : TE} {k : Nat} {p1 p2 p3 pos : Pos} (he : PE X e te) :
    PE X (.Subscript e (.Slice none none (some (.UnaryOp .USub (.Constant (.int 1) k p1) p2)) p3) pos) (tBackS te) where
  run pins s σ H Q inv ask := by
    have minus : PE X (.UnaryOp .USub (.Constant (.int 1) k p1) p2) _ := pe_un un_neg pe_int
    apply PyProof.Rows.Subscript_
    apply wpAny_mono (he.run pins s σ H _ inv ask) _ (fun _ _ raised => raised)
    rintro v s1 ⟨x, H1, inv1, rel, cs, rfl, short, hand⟩
    rcases rel with ⟨tok, rfl⟩
    apply wpAny_Slice
    rw [evalPart_none, evalPart_some]
    apply wpAny_pure
    apply wpAny_pure
    apply wpAny_mono (minus.run pins s1 σ H1 (fun y H2 => y = .int (-1) ∧ H2 = H1) inv1 ?ask) _ (fun _ _ raised => raised)
    case ask => exact ⟨_, rfl, rfl, rfl⟩
    rintro v s2 ⟨y, H2, inv2, rel, rfl, rfl⟩
    rcases rel with ⟨unit, rfl⟩
    apply subscriptTail_builtin (T := "str") (typeIs_str _ _ _) F.slot_str_getitem.lookup (ht := text_stays e _ _)
    apply wpAny_getItem_str_slice (l := none) (u := none) (st := some (-1, unit)) ⟨_, Heap.get?_push_size _ rfl, rfl, rfl⟩ rfl
    apply post_val_or_str
    refine ⟨?_, fun tok2 ct => ⟨.str (txt cs.reverse), H2, ?_, ⟨tok2, ?_⟩, hand⟩⟩
    · exact Nat.le_trans (Txt.sliceBy_le (txt cs) none none (-1, unit) (by show (-1 : Int) ≠ 0; decide)) (by rw [txt_len]; exact short)
    · exact inv2.kept (t' := ct) fun b o there => Heap.get?_push_of_some _ there
    · exact congrArg (fun z => Value.str z tok2) (back_txt cs unit)
end Tm

/-! a call by place of a def that takes a star; products of words -/
namespace Tm
open PySem PySem.Spec PyProof.Rows L2
section
variable {X : Cx} {CX : CXT} {k : Nat} {f : Addr} {sp : Sp} {E : XK} {x : Str} {p pos : Pos}
theorem pe_place {e : Expr} {es : List Expr} {ta : TA} (promise : FnR X.prog X.w X.K X.mg X.base CX k f sp) (room : Room k X.A) (kept : PySem.W.keepIn X.K (.ref f) = true) (glob : Gl X x) (found : X.mg x = some (.ref f)) (pass : Passes CX X E) (args : PA X (e :: es) ta)
    (nodebug : (x == ("__debug__" : Str)) = false := by decide) (first : starEach (e :: es) X.env = (false, eval e X.env) :: starEach es X.env := by rfl) (plain : (backTo pos (starEach es X.env)).any (·.1) = false := by rfl) :
    PE X (.Call (.Name x p) (e :: es) [] pos) (fun σ H Q => ta σ H fun given H1 => sp given H1 Q E) where
  run pins s σ H Q inv ask := by
    apply wpAny_Call_Name_kw
    apply ld_glob inv glob found _ nodebug
    apply PySem.W.callWith_K (h₀ := X.base) inv.ok.mod.kin kept _ first plain
    apply wpAny_mono (args.run pos pins s σ H _ inv ask) _ (fun _ _ raised => raised)
    rintro held s1 ⟨given, H1, inv1, rel, meets⟩
    exact ⟨inv1.kIn, wpAny_call (run_fnR promise room pass inv1 rel meets)⟩
theorem pe_place0 (promise : FnR X.prog X.w X.K X.mg X.base CX k f sp) (room : Room k X.A) (kept : PySem.W.keepIn X.K (.ref f) = true) (glob : Gl X x) (found : X.mg x = some (.ref f)) (pass : Passes CX X E)
    (nodebug : (x == ("__debug__" : Str)) = false := by decide) : PE X (.Call (.Name x p) [] [] pos) (fun _ H Q => sp [] H Q E) where
  run pins s σ H Q inv ask := by
    apply wpAny_Call_Name_kw
    apply ld_glob inv glob found _ nodebug
    apply PySem.W.callWith_K0 inv.kIn kept
    exact wpAny_call (run_fnR (us := []) promise room pass inv .nil ask)
end
def tv (cs : List Nat) : V := .str (txt cs)
/-- the sum of the signs, the letters one behind the other -/
def signsL (xss : List (List Nat)) : Nat := (xss.map signL).sum
def allL (xss : List (List Nat)) : List Nat := (xss.map lettersL).flatten
def joinL (xss : List (List Nat)) : List Nat := signedL (signsL xss : Nat) (allL xss)
def Few (xss : List (List Nat)) : Prop := xss.length ≤ 10 ∧ ∀ x ∈ xss, x.length ≤ 1000
def spProd : Sp := fun vs H Q _ => ∃ xss : List (List Nat), vs = xss.map tv ∧ Few xss ∧ ∀ H', Same H H' → Q (tv (joinL xss)) H'
def spProdT : Sp := fun vs H Q _ => ∃ (p : Addr) (xss : List (List Nat)), vs = [.ref p] ∧ H p = some (.tup (xss.map tv)) ∧ Few xss ∧ ∀ H', Same H H' → Q (tv (joinL xss)) H'
def invL (ts : List Nat) : List Nat := signedL (signL ts) (lettersL ts).reverse
def spInv : Sp := fun vs H Q _ => ∃ ts : List Nat, vs = [.str (txt ts)] ∧ ts.length ≤ 1000 ∧ Q (tv (invL ts)) H
def spLBody : Sp := fun vs H Q _ => ∃ ts : List Nat, vs = [.str (txt ts)] ∧ ts.length ≤ 1000 ∧ Q (.str (txt (lettersL ts))) H
def spJoined (K : PySem.W.Frag) : Sp := fun vs H Q _ => ∃ (p : Addr) (xss : List (List Nat)), vs = [.ref p] ∧ SqL K H p (xss.map tv) ∧ Few xss ∧ ∀ H', Same H H' → Q (tv (joinL xss)) H'
theorem lettersL_le (ts : List Nat) : (lettersL ts).length ≤ ts.length := by have e := letters_len ts; omega
theorem allL_le : ∀ {xss : List (List Nat)} {m : Nat}, (∀ x ∈ xss, x.length ≤ m) → (allL xss).length ≤ xss.length * m
  | [], _, _ => Nat.zero_le _
  | x :: r, m, h => by
    have e1 : (allL (x :: r)).length = (lettersL x).length + (allL r).length := by
      show (lettersL x ++ allL r).length = _
      rw [List.length_append]
    have e2 := allL_le (xss := r) (m := m) fun y hy => h y (List.mem_cons_of_mem _ hy)
    have e3 := h x List.mem_cons_self
    have e4 := lettersL_le x
    rw [e1, List.length_cons, Nat.succ_mul]
    omega
theorem Few.all {xss : List (List Nat)} (h : Few xss) : (allL xss).length ≤ 10000 := by
  have e := allL_le h.2
  have e2 : xss.length * 1000 ≤ 10 * 1000 := Nat.mul_le_mul_right _ h.1
  omega
theorem allL_snoc (xss : List (List Nat)) (x : List Nat) : allL (xss ++ [x]) = allL xss ++ lettersL x := by
  unfold allL
  rw [List.map_append, List.flatten_append]
  simp
theorem signsL_snoc (xss : List (List Nat)) (x : List Nat) : signsL (xss ++ [x]) = signsL xss + signL x := by
  unfold signsL
  rw [List.map_append, List.sum_append]
  simp
theorem sum_int (ns : List Nat) : (ns.map fun n : Nat => (n : Int)).sum = ((ns.sum : Nat) : Int) := by
  induction ns with
  | nil => rfl
  | cons n r ih => rw [List.map_cons, List.sum_cons, List.sum_cons, ih]; omega
theorem lens_txt (xss : List (List Nat)) : ((xss.map txt).map (·.length)).sum = xss.flatten.length := by
  induction xss with
  | nil => rfl
  | cons x r ih => rw [List.map_cons, List.map_cons, List.sum_cons, ih, txt_len, List.flatten_cons, List.length_append]
theorem bit_sign (ts : List Nat) : (if decide (signL ts = 1) = true then (1 : Int) else 0) = ((signL ts : Nat) : Int) := by
  cases ts with
  | nil => rfl
  | cons c r =>
    by_cases h : c = 45
    · rw [show signL (c :: r) = 1 from if_pos h]
      rfl
    · rw [show signL (c :: r) = 0 from if_neg h]
      rfl
theorem lt_rev {cs : List Nat} (h : Lt cs) : Lt cs.reverse := fun c hc => h c (List.mem_reverse.mp hc)
theorem lt_app {as bs : List Nat} (h : Lt as) (h2 : Lt bs) : Lt (as ++ bs) := fun c hc => (List.mem_append.mp hc).elim (h c) (h2 c)
theorem inv_wd {s : Bool} {cs : List Nat} (h : Lt cs) : invL (wd s cs) = wd s cs.reverse := by
  unfold invL
  rw [letters_wd h, sign_wd h, signed_wd0]
theorem inv_inv {s : Bool} {cs : List Nat} (h : Lt cs) : invL (invL (wd s cs)) = wd s cs := by
  rw [inv_wd h, inv_wd (lt_rev h), List.reverse_reverse]
/-- letters and the same backwards cancel, whatever stands around -/
theorem red_back : ∀ (cs as bs : List Nat), redL (as ++ (cs ++ cs.reverse) ++ bs) = redL (as ++ bs)
  | [], as, bs => by simp
  | c :: r, as, bs => by
    have e : as ++ ((c :: r) ++ (c :: r).reverse) ++ bs = (as ++ [c]) ++ (r ++ r.reverse) ++ (c :: bs) := by simp
    have e2 : as ++ [c] ++ (c :: bs) = as ++ c :: c :: bs := by simp
    rw [e, red_back r, e2, red_cancel]
theorem join_back {s : Bool} {cs : List Nat} (h : Lt cs) : joinL [wd s cs, invL (wd s cs)] = cs ++ cs.reverse := by
  have hr := lt_rev h
  have e : signsL [wd s cs, wd s cs.reverse] = s.toNat + s.toNat := by
    show signL (wd s cs) + (signL (wd s cs.reverse) + 0) = _
    rw [sign_wd h, sign_wd hr]
    omega
  have e2 : allL [wd s cs, wd s cs.reverse] = cs ++ cs.reverse := by
    show lettersL (wd s cs) ++ (lettersL (wd s cs.reverse) ++ []) = _
    rw [letters_wd h, letters_wd hr, List.append_nil]
  rw [inv_wd h]
  unfold joinL
  rw [e, e2]
  cases s <;> rfl
theorem red_gone {s : Bool} {cs : List Nat} (h : Lt cs) : signedL (signL (joinL [wd s cs, invL (wd s cs)])) (redL (lettersL (joinL [wd s cs, invL (wd s cs)]))) = [] := by
  have hb : Lt (cs ++ cs.reverse) := lt_app h (lt_rev h)
  have e1 : signL (cs ++ cs.reverse) = 0 := sign_wd (s := false) hb
  have e2 : lettersL (cs ++ cs.reverse) = cs ++ cs.reverse := letters_wd (s := false) hb
  have e3 : redL (cs ++ cs.reverse) = [] := by
    have e := red_back cs [] []
    rw [List.nil_append, List.append_nil] at e
    exact e
  rw [join_back h, e1, e2, e3]
  rfl
end Tm

/-! zip of two texts, walked in pairs -/
namespace Tm
open PySem PySem.Spec PyProof.Rows L2
/-- the pairs of the signs of two texts; each pair is a new tuple -/
def ItzS (cs ds : List Nat) : It :=
  ⟨fun i _ => i < min cs.length ds.length, fun i H x H' => ∃ T c d, x = .ref T ∧ H T = none ∧ H' = upd H T (.tup [sig c, sig d]) ∧ cs[i]? = some c ∧ ds[i]? = some d, fun i _ => i = min cs.length ds.length⟩
def iZipS (ta : TA) : TI := fun σ H R => ta σ H fun vs H1 => ∃ cs ds : List Nat, vs = [.str (txt cs), .str (txt ds)] ∧ R (ItzS cs ds) H1
/-- the cells in which a zip of two texts stands at turn i -/
def zipAt (N : Addr) (x y : Str) (t u : Tok) (i : Nat) (h : Heap) : Prop :=
  IsZip h (N + 4) (N + 2) (N + 3) .none ∧ IsTupOf2 h (N + 2) (.ref N) (.ref (N + 1)) ∧ (∃ a b, IsTupOf2 h (N + 3) a b) ∧ h.IsStrIter N (strIterType x) x t i ∧ h.IsStrIter (N + 1) (strIterType y) y u i
def zipCells (N : Addr) : List Addr := [N + 4, N + 2, N + 3, N, N + 1]
theorem zip_goes {prog : Program} {w : World} {A : Around} (hh : A.handled = none) (elts : List Expr) (k : Nat) (pos : Pos) (N : Addr) (x y : Str) (t u : Tok) :
    GoesN prog w A (.Tuple elts k pos) (N + 4) (zipCells N) [N + 4, N + 3, N, N + 1] (min x.cps.size y.cps.size)
      (fun i h₀ v h => ∃ T a b, v = .ref T ∧ h₀.objs.size ≤ T ∧ SignAt x i a ∧ SignAt y i b ∧ h.IsTuple T #[a, b]) (zipAt N x y t u) :=
  GoesN.zip2 (zip_sep2 (fp1 := []) (fp2 := []) (fun _ h => by cases h) (fun _ h => by cases h)) (Draws.text (A := A.in1) hh N x t) (Draws.text (A := A.in1) hh (N + 1) y u)
theorem at_txt {cs : List Nat} {i c : Nat} (h : (txt cs).cps[i]? = some c) : cs[i]? = some c := by
  have e : (txt cs).cps[i]? = cs[i]? := List.getElem?_toArray ..
  rw [← e]; exact h
theorem size_txt (cs : List Nat) : (txt cs).cps.size = cs.length := List.size_toArray
theorem zip_obj {N : Addr} {x y : Str} {t u : Tok} {i : Nat} {h : Heap} (st : zipAt N x y t u i h) : ∀ q ∈ zipCells N, ∃ o, h.get? q = some o ∧ ∀ v, o.data ≠ .cell v := by
  rcases st with ⟨z, ti, ⟨a, b, to⟩, ⟨o1, g1, c1, d1⟩, ⟨o2, g2, c2, d2⟩⟩
  intro q hq
  simp only [zipCells, List.mem_cons, List.not_mem_nil, or_false] at hq
  rcases hq with rfl | rfl | rfl | rfl | rfl
  · exact ⟨_, z, fun v e => by cases e⟩
  · exact ⟨_, ti, fun v e => by cases e⟩
  · exact ⟨_, to, fun v e => by cases e⟩
  · exact ⟨o1, g1, fun v e => by rw [d1] at e; cases e⟩
  · exact ⟨o2, g2, fun v e => by rw [d2] at e; cases e⟩
theorem zip_turn (P : Program) (w : World) (K : PySem.W.Frag) (elts : List Expr) (k : Nat) (pos : Pos) (N : Addr) (cs ds : List Nat) (t u : Tok) :
    Turn P w K (.Tuple elts k pos) (ItzS cs ds) (zipCells N) (N + 4) (zipAt N (txt cs) (txt ds) t u) where
  mem := List.mem_cons_self ..
  obj := fun i h st => zip_obj st
  keep := by
    rintro i h h' ⟨z, ti, ⟨a, b, to⟩, ⟨o1, g1, r1⟩, ⟨o2, g2, r2⟩⟩ same
    have on : ∀ q ∈ zipCells N, ∀ o, h.get? q = some o → h'.get? q = some o := same
    exact ⟨on _ (by simp [zipCells]) _ z, on _ (by simp [zipCells]) _ ti, ⟨a, b, on _ (by simp [zipCells]) _ to⟩, ⟨o1, on _ (by simp [zipCells]) _ g1, r1⟩, ⟨o2, on _ (by simp [zipCells]) _ g2, r2⟩⟩
  item := by
    intro X ep ew eK calm i pins s σ H E inv own st go
    subst ep ew eK
    have G := zip_goes (prog := X.prog) (w := X.w) (inv.ok.hd calm) elts k pos N (txt cs) (txt ds) t u
    refine G.goes i s (fun v s2 => ∃ x H', Inv X pins σ H' s2 ∧ RelV x v ∧ (ItzS cs ds).yld i H x H' ∧ zipAt N (txt cs) (txt ds) t u (i + 1) s2.heap ∧ ∀ b ∈ zipCells N, H' b = none) E (by rw [size_txt, size_txt]; exact go) st ?_
    rintro v h' tk ⟨T, a, b, rfl, new, ⟨c, ta, hc, rfl⟩, ⟨d, tb, hd, rfl⟩, tup⟩ st' kept _
    have inside : ∀ q ∈ [N + 4, N + 3, N, N + 1], FpOk X pins H q := fun q hq => own q (G.sub q hq)
    have fresh : H T = none := inv.hok.fresh new
    have laid : ObjOk X.prog X.w (upd H T (.tup [sig c, sig d])) h' T (.tup [sig c, sig d]) :=
      ⟨by show 2 ≤ sizeLine; decide, [.str ⟨#[c]⟩ ta, .str ⟨#[d]⟩ tb], .cons ⟨ta, rfl⟩ (.cons ⟨tb, rfl⟩ .nil), tup⟩
    refine ⟨.ref T, _, inv.turnedNew kept inside new laid, rfl, ⟨T, c, d, rfl, fresh, rfl, at_txt hc, at_txt hd⟩, st', fun q hq => ?_⟩
    rw [upd_ne (fun e => ?_)]
    · exact (own q hq).1
    · obtain ⟨ob, there, _⟩ := zip_obj st q hq
      exact absurd (Nat.lt_of_lt_of_le (Heap.lt_size there) (e ▸ new)) (Nat.lt_irrefl _)
  done := by
    intro X ep ew eK calm i pins s σ H E inv own st stop
    subst ep ew eK
    have G := zip_goes (prog := X.prog) (w := X.w) (inv.ok.hd calm) elts k pos N (txt cs) (txt ds) t u
    have e : i = min (txt cs).cps.size (txt ds).cps.size := by rw [size_txt, size_txt]; exact stop
    subst e
    refine G.stops s (Inv X pins σ H) E st fun h' tk kept _ => ?_
    exact inv.turnedL kept fun q hq => own q (G.sub q hq)
  self := fun _ _ _ _ _ st done => wpAny_pyIter_zip st.1 done
theorem pi_zipS {X : Cx} {e e2 : Expr} {ta : TA} {p pos tpos : Pos} {elts : List Expr} {kk : Nat} (glob : Gl X "zip") (free : X.mg "zip" = none) (args : PA X [e, e2] ta)
    (first : starEach [e, e2] X.env = (false, eval e X.env) :: starEach [e2] X.env := by rfl) (plain : (backTo pos (starEach [e2] X.env)).any (·.1) = false := by rfl) :
    PI X (.Tuple elts kk tpos) (.Call (.Name "zip" p) [e, e2] [] pos) (iZipS ta) where
  run pins s σ H R inv ask := by
    apply wpAny_Call_Name_kw
    apply ld_blt inv glob free PyProof.Rows.boot_zip
    apply PyProof.Rows.callWith_type1 _ first plain
    apply wpAny_mono (args.run pos pins s σ H _ inv ask) _ (fun _ _ raised => raised)
    rintro held s1 ⟨given, H1, inv1, rel, cs, ds, rfl, hand⟩
    match held, rel with
    | [_, _], .cons ⟨t1, rfl⟩ (.cons ⟨t2, rfl⟩ .nil) =>
      apply zip_begins2 (begins_text _ _) (begins_text _ _) trivial trivial
      intro heap hz hi ho g1 g2 size kept
      apply wpAny_pyIter_zip hz
      have inv2 : Inv X pins σ H1 { s1 with heap := heap } := inv1.kept (t' := s1.toks) kept
      refine ⟨_, zipCells s1.heap.objs.size, zipAt s1.heap.objs.size (txt cs) (txt ds) t1 t2, ItzS cs ds, H1, rfl, inv2, zip_turn _ _ _ _ _ _ _ _ _ _ _, ⟨hz, hi, ⟨_, _, ho⟩, ⟨_, g1, rfl, rfl⟩, ⟨_, g2, rfl, rfl⟩⟩, fun q hq => ?_, hand⟩
      have above : s1.heap.objs.size ≤ q := by
        simp only [zipCells, List.mem_cons, List.not_mem_nil, or_false] at hq
        have up : ∀ n : Nat, (s1.heap.objs.size : Nat) ≤ s1.heap.objs.size + n := fun n => Nat.le_add_right _ _
        rcases hq with rfl | rfl | rfl | rfl | rfl
        · exact up 4
        · exact up 2
        · exact up 3
        · exact up 0
        · exact up 1
      have low := inv1.fpOk (H' := H1) above (inv1.hok.fresh above)
      exact low
theorem walk_zipS {cs ds : List Nat} : Walk (ItzS cs ds) (min cs.length ds.length) (fun _ => True) (fun i H x H' => ∃ T c d, x = .ref T ∧ H T = none ∧ H' = upd H T (.tup [sig c, sig d]) ∧ cs[i]? = some c ∧ ds[i]? = some d) where
  goes := fun _ _ lt _ => lt
  stops := fun _ _ => rfl
  yields := fun _ _ _ _ _ _ y => y
end Tm

/-! a set comprehension whose elements are ints; its length -/
namespace Tm
open PySem PySem.Spec PyProof.Rows L2
/-- {elt for target in iter}: D is the new set; W holds ahead of each turn, by the turn and a number that falls; Nx is what a turn reaches -/
def tSetI (w : World) (wi : TI) (g : TG) (te : TE) (vs : List Nat) : TE := fun σ H Q => wi σ H fun J H1 => ∀ D, H1 D = none → ∃ W : Nat → Nat → Hp → Prop, (∃ m, W 0 m (upd H1 D (SetO w D (fun _ => false) 0))) ∧
  ∀ i m H, W i m H → (J.stop i H ∧ Q (.ref D) H) ∨ (J.go i H ∧ ∃ Nx : Hp → Prop, (∀ H', Nx H' → ∃ m', m' < m ∧ W (i + 1) m' H') ∧
    ∀ x H', J.yld i H x H' → g x (wipe σ vs) H' fun σ2 H2 => wipe σ2 vs = wipe σ vs ∧ te σ2 H2 fun y H3 => ∃ (k : Int) (S : Int → Bool) (n : Nat), y = .int k ∧ H3 D = some (SetO w D S n) ∧ n + 1 < scanBound ∧
      Nx (upd H3 D (SetO w D (fun j => S j || decide (j = k)) (if S k = true then n else n + 1))))
/-- the slots of the block's own names matter to nobody -/
theorem wipe_weak {X : Cx} {pins : List (Addr × Obj)} {σ : L2.St} {H : Hp} {s : Shared} {vs : List Nat} (I : Inv X pins σ H s) : Inv X pins (wipe σ vs) H s :=
  I.weak (wipe_length σ vs) fun i v h => (wipe_some h).1
theorem set_block {X : Cx} {pins : List (Addr × Obj)} {σ : L2.St} {Hs : Hp} {s3 : Shared} {Q : VK} {elt tg iter : Expr} {scope : Scope} {own : List (PySem.Str × Nat)} {pos : Pos} {g : TG} {te : TE} {J : It} {fp : List Addr} {it D : Addr} {tn : Nat → Heap → Prop} {W : Nat → Nat → Hp → Prop} {m0 : Nat}
    (calm : X.calm = true) (nodup : X.N.Nodup) (ok : BlkOk X.N X.env.scope scope own)
    (goal : ∀ (s : Shared) (H : Hp) (C : Addr) (cl : List (PySem.Str × Addr)) (fp : List Addr), PG (X.blk s H scope (compEnvC scope cl C X.env) fp) tg g)
    (elem : ∀ (s : Shared) (H : Hp) (C : Addr) (cl : List (PySem.Str × Addr)) (fp : List Addr), PE (X.blk s H scope (compEnvC scope cl C X.env) fp) elt te)
    (inv3 : Inv X pins σ Hs s3) (turns : Turn X.prog X.w X.K tg J fp it tn) (start : tn 0 s3.heap) (mine : ∀ b ∈ fp, FpOk X pins Hs b) (w0 : W 0 m0 Hs)
    (step : ∀ i m H, W i m H → (J.stop i H ∧ Q (.ref D) H) ∨ (J.go i H ∧ ∃ Nx : Hp → Prop, (∀ H', Nx H' → ∃ m', m' < m ∧ W (i + 1) m' H') ∧
      ∀ x H', J.yld i H x H' → g x (wipe σ (own.map (·.2))) H' fun σ2 H2 => wipe σ2 (own.map (·.2)) = wipe σ (own.map (·.2)) ∧ te σ2 H2 fun y H3 => ∃ (k : Int) (S : Int → Bool) (n : Nat), y = .int k ∧ H3 D = some (SetO X.w D S n) ∧ n + 1 < scanBound ∧
        Nx (upd H3 D (SetO X.w D (fun j => S j || decide (j = k)) (if S k = true then n else n + 1))))) :
    wpAny (model X.prog X.w) X.A (newFunctionEnv scope X.env.globals (cloFrom X.env.cells scope.names []) [] X.env.qual none .none (some X.env)) (fun cenv s4 =>
      codeAny (model X.prog X.w) X.A (.compStart (.SetComp elt [⟨tg, iter, [], 0⟩] scope pos) 0 (.ref it) (.ref D) { cenv with scope := relabel scope X.env }) (compEnds (model X.prog X.w) X.A X.xe none (EP X pins σ Q) (.ref D) { cenv with scope := relabel scope X.env }) s4) X.xe s3 := by
  have born : ∀ b ∈ fp, b < s3.heap.objs.size := fun b hb => by
    obtain ⟨o, there, _⟩ := turns.obj 0 _ start b hb
    exact Heap.lt_size there
  have inv4 := block_start (fp := fp) inv3 ok nodup fun b hb => ⟨mine b hb, born b hb⟩
  apply newEnv_comp
  have start4 : tn 0 (pushCells (s3.heap.push { cls := .type "dict", data := .dict #[] }) scope.names) := turns.keep 0 _ _ start fun b _ o there => pushCells_keeps _ _ _ _ (Heap.get?_push_of_some _ there)
  have low := inv3.fpOk (H' := Hs) (b := s3.heap.objs.size) (Nat.le_refl _) (inv3.hok.fresh (Nat.le_refl _))
  generalize pushCells (s3.heap.push { cls := .type "dict", data := .dict #[] }) scope.names = h4 at inv4 start4 ⊢
  show codeAny _ _ (.compStart _ 0 _ _ (compEnvC scope (cellsFrom (s3.heap.objs.size + 1) scope.names (cloFrom X.env.cells scope.names [])) s3.heap.objs.size X.env)) (compEnds _ _ _ none _ _ (compEnvC scope (cellsFrom (s3.heap.objs.size + 1) scope.names (cloFrom X.env.cells scope.names [])) s3.heap.objs.size X.env)) _
  generalize cellsFrom (s3.heap.objs.size + 1) scope.names (cloFrom X.env.cells scope.names []) = cl at inv4 ⊢
  have loop : codeAny (model X.prog X.w) X.A (.compLoop (.SetComp elt [⟨tg, iter, [], 0⟩] scope pos) 0 (.ref it) (.ref D) (compEnvC scope cl s3.heap.objs.size X.env)) (compEnds (model X.prog X.w) X.A X.xe none (EP X pins σ Q) (.ref D) (compEnvC scope cl s3.heap.objs.size X.env)) { s3 with heap := h4 } := by
    apply PpSet.compLoopS_any (I := fun n s => ∃ i Hc, Inv (X.blk s3 Hs scope (compEnvC scope cl s3.heap.objs.size X.env) fp) [] (wipe σ (own.map (·.2))) Hc s ∧ tn i s.heap ∧ (∀ b ∈ fp, Hc b = none) ∧ W i n Hc) _ m0 ⟨0, Hs, inv4, start4, fun b hb => (mine b hb).1, w0⟩
    rintro n s5 ⟨i, Hc, inv5, st5, free5, w5⟩
    have own5 : ∀ (H : Hp), (∀ b ∈ fp, H b = none) → ∀ b ∈ fp, FpOk (X.blk s3 Hs scope (compEnvC scope cl s3.heap.objs.size X.env) fp) [] H b := fun H free b hb =>
      ⟨free b hb, (inv5.ok.exf b hb).1, inv5.ok.exfs b hb, .inl hb, (inv5.ok.exf b hb).2, fun p hp => by cases hp⟩
    rcases step i n Hc w5 with ⟨stop, q⟩ | ⟨go, Nx, next, yields⟩
    · apply wpAny_mono (turns.done (X.blk s3 Hs scope (compEnvC scope cl s3.heap.objs.size X.env) fp) rfl rfl rfl calm i [] s5 _ Hc _ inv5 (own5 Hc free5) st5 stop) _ (fun _ _ raised => raised)
      rintro r s6 ⟨rfl, inv6⟩
      obtain ⟨names, ns, _⟩ := inv6.loc
      refine ⟨names, ns, fun h' same => ?_⟩
      have out : Inv X pins σ Hc s6 := inv3.call' inv6.os inv6.base inv6.hok inv6.bare fun b hb => ⟨(mine b hb).2.2.2.1, (mine b hb).2.1, (mine b hb).2.2.2.2.1, (mine b hb).2.2.2.2.2⟩
      exact ⟨.ref D, Hc, out.turned (t' := s6.toks) (fun b o hb there => (same.2 b hb).trans there) inv6.free low.2.1 low.2.2.2.1 low.2.2.2.2.1 low.2.2.2.2.2, rfl, q⟩
    · apply wpAny_mono (turns.item (X.blk s3 Hs scope (compEnvC scope cl s3.heap.objs.size X.env) fp) rfl rfl rfl calm i [] s5 _ Hc _ inv5 (own5 Hc free5) st5 go) _ (fun _ _ raised => raised)
      rintro r s6 ⟨u, rfl, rest⟩
      apply wpAny_mono rest _ (fun _ _ raised => raised)
      rintro _ s7 ⟨x, H7, inv7, rel, yld, st7, free7⟩
      have held := inv7.pinned (own5 H7 free7) (turns.obj _ _ st7)
      apply wpAny_mono ((goal s3 Hs s3.heap.objs.size cl fp).run _ s7 _ H7 x u _ held rel (yields x H7 yld)) _ (fun _ _ raised => raised.elim)
      rintro _ s8 ⟨σ8, H8, inv8, wiped, more⟩
      apply wpAny_tests_nil
      rw [if_pos rfl]
      apply wpAny_mono ((elem s3 Hs s3.heap.objs.size cl fp).run _ s8 σ8 H8 _ inv8 more) _ (fun _ _ raised => raised.elim)
      rintro u9 s9 ⟨y, H9, inv9, rel9, k, S, c, rfl, atD, room, nx⟩
      rcases rel9 with ⟨tok, rfl⟩
      apply setR_add (setO_get inv9 atD) room
      intro h10 same10 set10
      have inv10 := inv9.write (e := D) (h' := h10) (t' := s9.toks + 1) (by rw [atD]; trivial) (.inl rfl) (fun b o hb there => (same10.2 b hb).trans there) (set10.imp fun o r => by obtain ⟨_, _, _, there, _⟩ := r; exact there) (setO_new set10)
      obtain ⟨m1, less, w1⟩ := next _ nx
      refine ⟨m1, less, i + 1, _, ?_, ?_, ?_, w1⟩
      · rw [← wiped]
        exact wipe_weak inv10.unpinned
      · refine turns.keep (i + 1) _ _ st7 fun b hb o there => ?_
        exact (inv10.pin (b, o) (List.mem_append_right _ (List.mem_append_right _ (mem_pinsAt hb there)))).1
      · intro b hb
        obtain ⟨o, there, _⟩ := turns.obj _ _ st7 b hb
        exact (inv10.pin (b, o) (List.mem_append_right _ (List.mem_append_right _ (mem_pinsAt hb there)))).2.1
  exact PpSet.codeAny_compStart_set loop (turns.self _ 0 _ _ _ start4 loop)
theorem pe_setI {X : Cx} {elt tg iter : Expr} {scope : Scope} {own : List (PySem.Str × Nat)} {pos : Pos} {wi : TI} {g : TG} {te : TE} (calm : X.calm = true) (nodup : X.N.Nodup) (walk : PI X tg iter wi) (ok : BlkOk X.N X.env.scope scope own)
    (goal : ∀ (s : Shared) (H : Hp) (C : Addr) (cl : List (PySem.Str × Addr)) (fp : List Addr), PG (X.blk s H scope (compEnvC scope cl C X.env) fp) tg g)
    (elem : ∀ (s : Shared) (H : Hp) (C : Addr) (cl : List (PySem.Str × Addr)) (fp : List Addr), PE (X.blk s H scope (compEnvC scope cl C X.env) fp) elt te)
    (unfolded : ∀ x, foldedSetIterable iter X.env x = pure x := by intro _; rfl) :
    PE X (.SetComp elt [⟨tg, iter, [], 0⟩] scope pos) (tSetI X.w wi g te (own.map (·.2))) where
  run pins s σ H Q inv ask := by
    have caught : ∀ y ∈ scope.names, y.2 = .free → ∃ c, X.env.cells.lookup y.1 = some c := fun y hy free => by
      rcases ok.free y hy free with k | k
      · exact inv.ok.has _ (.inl k)
      · exact inv.ok.has _ (.inr k)
    rw [PySem.arm_eval_SetComp]
    apply comprehension_at (use := none) rfl unfolded (closure_ok caught) ok.kind (fun y hy hl => by rw [ok.uniq y hy, hl])
    apply wpAny_mono (walk.run pins s σ H _ inv ask) _ (fun _ _ raised => raised)
    intro v s1 run1
    apply wpAny_mono run1 _ (fun _ _ raised => raised)
    rintro itv s2 ⟨it, fp, tn, J, H1, rfl, inv2, turns, start, mine, plan⟩
    apply PpSet.newSet_ok
    have freeD : H1 s2.heap.objs.size = none := inv2.hok.fresh (Nat.le_refl _)
    obtain ⟨W, ⟨m0, w0⟩, step⟩ := plan _ freeD
    have inv3 : Inv X pins σ (upd H1 s2.heap.objs.size (SetO X.w s2.heap.objs.size (fun _ => false) 0)) { s2 with heap := s2.heap.push { cls := .type "set", dict := none, data := .set #[] 0 (.fresh 0 0 (!X.w.params.followText "set-order")) } } :=
      inv2.laid (t' := s2.toks) (fun b u e => Heap.get?_push_of_some _ e) (Nat.le_refl _) (setO_new (setR_fresh X.w))
    have stays : ∀ b o, s2.heap.get? b = some o → (s2.heap.push { cls := .type "set", dict := none, data := .set #[] 0 (.fresh 0 0 (!X.w.params.followText "set-order")) }).get? b = some o := fun b o e => Heap.get?_push_of_some _ e
    have born : ∀ b ∈ fp, b < s2.heap.objs.size := fun b hb => by
      obtain ⟨o, there, _⟩ := turns.obj 0 _ start b hb
      exact Heap.lt_size there
    exact set_block calm nodup ok goal elem inv3 turns (turns.keep 0 _ _ start fun b _ o there => stays b o there) (fun b hb => ⟨by rw [upd_ne (Nat.ne_of_lt (born b hb))]; exact (mine b hb).1, (mine b hb).2⟩) w0 step
/-- its walk over a tuple, which stands still meanwhile -/
theorem setI_tup {w : World} {K : PySem.W.Frag} {a : Addr} {xs : List V} {g : TG} {te : TE} {vs : List Nat} {σ : L2.St} {H1 : Hp} {D : Addr} {Qd : Hp → Prop} (Pv : Nat → Hp → Prop) (begin_ : Pv 0 (upd H1 D (SetO w D (fun _ => false) 0)))
    (stands : ∀ i H, i ≤ xs.length → Pv i H → SqT K H a xs)
    (turn : ∀ i x H, xs[i]? = some x → Pv i H → g x (wipe σ vs) H fun σ2 H2 => wipe σ2 vs = wipe σ vs ∧ te σ2 H2 fun y H3 => ∃ (k : Int) (S : Int → Bool) (n : Nat), y = .int k ∧ H3 D = some (SetO w D S n) ∧ n + 1 < scanBound ∧
      Pv (i + 1) (upd H3 D (SetO w D (fun j => S j || decide (j = k)) (if S k = true then n else n + 1))))
    (ends : ∀ H, Pv xs.length H → Qd H) :
    ∃ W : Nat → Nat → Hp → Prop, (∃ m, W 0 m (upd H1 D (SetO w D (fun _ => false) 0))) ∧ ∀ i m H, W i m H → ((Itt K a).stop i H ∧ Qd H) ∨ ((Itt K a).go i H ∧ ∃ Nx : Hp → Prop, (∀ H', Nx H' → ∃ m', m' < m ∧ W (i + 1) m' H') ∧
      ∀ x H', (Itt K a).yld i H x H' → g x (wipe σ vs) H' fun σ2 H2 => wipe σ2 vs = wipe σ vs ∧ te σ2 H2 fun y H3 => ∃ (k : Int) (S : Int → Bool) (n : Nat), y = .int k ∧ H3 D = some (SetO w D S n) ∧ n + 1 < scanBound ∧
        Nx (upd H3 D (SetO w D (fun j => S j || decide (j = k)) (if S k = true then n else n + 1)))) := by
  refine ⟨fun i m H => i + m = xs.length ∧ Pv i H, ⟨xs.length, Nat.zero_add _, begin_⟩, ?_⟩
  rintro i m H ⟨left, here⟩
  have there : SqT K H a xs := stands i H (by omega) here
  cases m with
  | zero =>
    have e : i = xs.length := left
    subst e
    exact .inl ⟨⟨xs, there, Nat.le_refl _⟩, ends H here⟩
  | succ m =>
    have lt : i < xs.length := by omega
    refine .inr ⟨⟨xs, xs[i], there, List.getElem?_eq_getElem lt⟩, Pv (i + 1), fun H' p => ⟨m, Nat.lt_succ_self _, by omega, p⟩, ?_⟩
    rintro x H' ⟨rfl, item⟩
    exact turn i x H' (item xs there) here
/-- len of a set of ints -/
theorem call_lenI {X : Cx} : CallR X (.builtin "len") (fun given H Q => ∃ (a : Addr) (S : Int → Bool) (n : Nat), given = [.ref a] ∧ H a = some (SetO X.w a S n) ∧ n ≤ 1000 ∧ Q (.int (n : Int)) H) :=
  fun pins s σ H given held Q inv rel ask => by
    rcases ask with ⟨a, S, n, rfl, at_a, short, hand⟩
    match held, rel with
    | [_], .cons rfl .nil =>
      obtain ⟨o, es, ep, t, there, exact_, dat, _, _, _, _, fits, rfl, _⟩ := setO_get inv at_a
      apply call_len_set there exact_ dat fits (by omega)
      exact ⟨.int _, H, inv.tok _, ⟨_, rfl⟩, hand⟩
end Tm

/-! strings of the letters 1, X, Z, W: what their products are -/
namespace Tm
open PySem PySem.Spec PyProof.Rows L2
/-! ### the letters -/
def Al : List Nat := [49, 88, 90, 87]
def pP (a b : Nat) : List Nat := ([([49, 49], [49]), ([49, 88], [88]), ([49, 90], [90]), ([49, 87], [87]), ([88, 49], [88]), ([88, 88], [49]), ([88, 90], [87]), ([88, 87], [90]), ([90, 49], [90]), ([90, 88], [45, 87]), ([90, 90], [49]), ([90, 87], [45, 88]),
  ([87, 49], [87]), ([87, 88], [45, 90]), ([87, 90], [88]), ([87, 87], [45, 49])].lookup [a, b]).getD []
def pS (a b : Nat) : Nat := signL (pP a b)
def pL (a b : Nat) : Nat := (lettersL (pP a b)).headD 0
theorem p_form : ∀ a ∈ Al, ∀ b ∈ Al, lettersL (pP a b) = [pL a b] ∧ pL a b ∈ Al ∧ pS a b ≤ 1 ∧ (pP a b).length ≤ 2 := by decide +kernel
theorem p_assoc : ∀ a ∈ Al, ∀ b ∈ Al, ∀ c ∈ Al, pL (pL a b) c = pL a (pL b c) ∧ (pS a b + pS (pL a b) c) % 2 = (pS b c + pS a (pL b c)) % 2 := by decide +kernel
theorem p_comm : ∀ a ∈ Al, ∀ b ∈ Al, pL a b = pL b a := by decide +kernel
theorem p_self : ∀ a ∈ Al, pL a a = 49 ∧ pS a a = if a = 87 then 1 else 0 := by decide +kernel
theorem p_one : ∀ a ∈ Al, pL a 49 = a ∧ pS a 49 = 0 := by decide +kernel
theorem p_lin : ∀ a ∈ Al, ∀ b ∈ Al, ∀ c ∈ Al, (pS a (pL b c) + pS (pL b c) a) % 2 = (pS a b + pS b a + (pS a c + pS c a)) % 2 := by decide +kernel
/-! ### rows of letters -/
def Al4 (cs : List Nat) : Prop := ∀ c ∈ cs, c ∈ Al
theorem Al4.head {c : Nat} {cs : List Nat} (h : Al4 (c :: cs)) : c ∈ Al := h c List.mem_cons_self
theorem Al4.tail {c : Nat} {cs : List Nat} (h : Al4 (c :: cs)) : Al4 cs := fun x hx => h x (List.mem_cons_of_mem _ hx)
theorem Al4.lt {cs : List Nat} (h : Al4 cs) : Lt cs := fun c hc e => by
  subst e
  exact absurd (h _ hc) (by decide)
def zS (as bs : List Nat) : Nat := (List.zipWith pS as bs).sum
def zL (as bs : List Nat) : List Nat := List.zipWith pL as bs
theorem zS_cons (a b : Nat) (as bs : List Nat) : zS (a :: as) (b :: bs) = pS a b + zS as bs := by
  show (pS a b :: List.zipWith pS as bs).sum = _
  rw [List.sum_cons]; rfl
theorem zL_cons (a b : Nat) (as bs : List Nat) : zL (a :: as) (b :: bs) = pL a b :: zL as bs := rfl
theorem zL_len {as bs : List Nat} (h : as.length = bs.length) : (zL as bs).length = as.length := by
  show (List.zipWith pL as bs).length = _
  rw [List.length_zipWith]; omega
theorem zL_al : ∀ {as bs : List Nat}, Al4 as → Al4 bs → Al4 (zL as bs)
  | [], _, _, _ => fun c hc => by cases hc
  | _ :: _, [], _, _ => fun c hc => by cases hc
  | a :: as, b :: bs, ha, hb => by
    intro c hc
    rw [zL_cons] at hc
    rcases List.mem_cons.mp hc with rfl | hc
    · exact (p_form a ha.head b hb.head).2.1
    · exact zL_al ha.tail hb.tail c hc
theorem z_assoc : ∀ (as bs cs : List Nat), as.length = bs.length → bs.length = cs.length → Al4 as → Al4 bs → Al4 cs → zL (zL as bs) cs = zL as (zL bs cs) ∧ (zS as bs + zS (zL as bs) cs) % 2 = (zS bs cs + zS as (zL bs cs)) % 2
  | [], [], [], _, _, _, _, _ => ⟨rfl, rfl⟩
  | a :: as, b :: bs, c :: cs, h1, h2, ha, hb, hc => by
    have i := z_assoc as bs cs (Nat.succ.inj h1) (Nat.succ.inj h2) ha.tail hb.tail hc.tail
    have p := p_assoc a ha.head b hb.head c hc.head
    simp only [zL_cons, zS_cons]
    exact ⟨by rw [p.1, i.1], by have := p.2; have := i.2; omega⟩
theorem z_comm : ∀ (as bs : List Nat), as.length = bs.length → Al4 as → Al4 bs → zL as bs = zL bs as
  | [], [], _, _, _ => rfl
  | a :: as, b :: bs, h, ha, hb => by
    rw [zL_cons, zL_cons, z_comm as bs (Nat.succ.inj h) ha.tail hb.tail, p_comm a ha.head b hb.head]
theorem z_self : ∀ (as : List Nat), Al4 as → zL as as = List.replicate as.length 49 ∧ zS as as = as.count 87
  | [], _ => ⟨rfl, rfl⟩
  | a :: as, ha => by
    have i := z_self as ha.tail
    have p := p_self a ha.head
    rw [zL_cons, zS_cons, i.1, i.2, p.1, p.2, List.count_cons]
    refine ⟨rfl, ?_⟩
    by_cases e : a = 87
    · subst e; simp [Nat.add_comm]
    · rw [if_neg e, if_neg (by simpa using e)]; omega
theorem z_one : ∀ (as : List Nat), Al4 as → zL as (List.replicate as.length 49) = as ∧ zS as (List.replicate as.length 49) = 0
  | [], _ => ⟨rfl, rfl⟩
  | a :: as, ha => by
    have i := z_one as ha.tail
    have p := p_one a ha.head
    rw [List.length_cons, List.replicate_succ, zL_cons, zS_cons, i.1, i.2, p.1, p.2]
    exact ⟨rfl, rfl⟩
theorem z_lin : ∀ (as bs cs : List Nat), as.length = bs.length → bs.length = cs.length → Al4 as → Al4 bs → Al4 cs → (zS as (zL bs cs) + zS (zL bs cs) as) % 2 = (zS as bs + zS bs as + (zS as cs + zS cs as)) % 2
  | [], [], [], _, _, _, _, _ => rfl
  | a :: as, b :: bs, c :: cs, h1, h2, ha, hb, hc => by
    have i := z_lin as bs cs (Nat.succ.inj h1) (Nat.succ.inj h2) ha.tail hb.tail hc.tail
    have p := p_lin a ha.head b hb.head c hc.head
    simp only [zL_cons, zS_cons]
    omega
theorem al_ones (n : Nat) : Al4 (List.replicate n 49) := fun c hc => by rw [List.eq_of_mem_replicate hc]; decide
/-! ### strings: texts of letters with a sign -/
def od (n : Nat) : Bool := decide (n % 2 = 1)
theorem od_nat (n : Nat) : (od n).toNat = n % 2 := by
  unfold od
  rcases Nat.mod_two_eq_zero_or_one n with h | h
  · rw [h]; rfl
  · rw [h]; rfl
theorem od_eq {m n : Nat} (h : m % 2 = n % 2) : od m = od n := by unfold od; rw [h]
theorem od_bit (b : Bool) : od b.toNat = b := by cases b <;> rfl
def two (x y : List Nat) : List Nat := signedL ((signL x + signL y + zS (lettersL x) (lettersL y) : Nat) : Int) (zL (lettersL x) (lettersL y))
theorem signed_od (n : Nat) (cs : List Nat) : signedL ((n : Nat) : Int) cs = wd (od n) cs := by
  rw [signed_wd]
  unfold od
  have e : decide (((n : Nat) : Int) % 2 = 1) = decide (n % 2 = 1) := by
    by_cases h : n % 2 = 1
    · rw [decide_eq_true h, decide_eq_true (by omega)]
    · rw [decide_eq_false h, decide_eq_false (by omega)]
  rw [e]
theorem two_wd {s t : Bool} {as bs : List Nat} (ha : Al4 as) (hb : Al4 bs) : two (wd s as) (wd t bs) = wd (od (s.toNat + t.toNat + zS as bs)) (zL as bs) := by
  unfold two
  rw [sign_wd ha.lt, sign_wd hb.lt, letters_wd ha.lt, letters_wd hb.lt, signed_od]
def multL : List (List Nat) → List Nat
  | [] => []
  | x :: r => r.foldl two x
/-- a string of n letters -/
def Sn (n : Nat) (x : List Nat) : Prop := ∃ s cs, x = wd s cs ∧ cs.length = n ∧ Al4 cs
theorem Sn.two {n : Nat} {x y : List Nat} (hx : Sn n x) (hy : Sn n y) : Sn n (two x y) := by
  obtain ⟨s, as, rfl, la, ha⟩ := hx
  obtain ⟨t, bs, rfl, lb, hb⟩ := hy
  exact ⟨_, _, two_wd ha hb, by rw [zL_len (by omega)]; exact la, zL_al ha hb⟩
theorem Sn.fold {n : Nat} : ∀ {r : List (List Nat)} {x : List Nat}, Sn n x → (∀ y ∈ r, Sn n y) → Sn n (r.foldl Tm.two x)
  | [], _, hx, _ => hx
  | y :: r, x, hx, hr => Sn.fold (r := r) (hx.two (hr y List.mem_cons_self)) fun z hz => hr z (List.mem_cons_of_mem _ hz)
theorem Sn.len {n : Nat} {x : List Nat} (h : Sn n x) : x.length ≤ n + 1 ∧ (lettersL x).length = n ∧ Al4 (lettersL x) := by
  obtain ⟨s, cs, rfl, l, a⟩ := h
  refine ⟨?_, by rw [letters_wd a.lt]; exact l, by rw [letters_wd a.lt]; exact a⟩
  rw [wd_len, l]
  cases s
  · exact Nat.le_succ _
  · exact Nat.le_refl _
theorem Sn.one (n : Nat) : Sn n (List.replicate n 49) := ⟨false, _, rfl, List.length_replicate, al_ones n⟩
theorem two_assoc {n : Nat} {x y z : List Nat} (hx : Sn n x) (hy : Sn n y) (hz : Sn n z) : two (two x y) z = two x (two y z) := by
  obtain ⟨s, as, rfl, la, ha⟩ := hx
  obtain ⟨t, bs, rfl, lb, hb⟩ := hy
  obtain ⟨u, cs, rfl, lc, hc⟩ := hz
  have a := z_assoc as bs cs (by omega) (by omega) ha hb hc
  rw [two_wd ha hb, two_wd hb hc, two_wd (zL_al ha hb) hc, two_wd ha (zL_al hb hc), a.1, od_nat, od_nat]
  congr 1
  apply od_eq
  have := a.2
  omega
theorem two_body {n : Nat} {x y : List Nat} (hx : Sn n x) (hy : Sn n y) : lettersL (two x y) = lettersL (two y x) := by
  obtain ⟨s, as, rfl, la, ha⟩ := hx
  obtain ⟨t, bs, rfl, lb, hb⟩ := hy
  rw [two_wd ha hb, two_wd hb ha, letters_wd (zL_al ha hb).lt, letters_wd (zL_al hb ha).lt, z_comm as bs (by omega) ha hb]
theorem two_self {s : Bool} {cs : List Nat} (h : Al4 cs) : two (wd s cs) (wd s cs) = wd (od (cs.count 87)) (List.replicate cs.length 49) := by
  rw [two_wd h h, (z_self cs h).1, (z_self cs h).2]
  congr 1
  apply od_eq
  cases s <;> simp
theorem two_one {n : Nat} {x : List Nat} (hx : Sn n x) : two x (List.replicate n 49) = x := by
  obtain ⟨s, as, rfl, la, ha⟩ := hx
  have e : List.replicate n 49 = wd false (List.replicate as.length 49) := by rw [la]; rfl
  rw [e, two_wd ha (al_ones _), (z_one as ha).1, (z_one as ha).2]
  congr 1
  exact od_bit s
theorem two_four {n : Nat} {x : List Nat} (hx : Sn n x) : two (two (two x x) x) x = List.replicate n 49 := by
  obtain ⟨s, as, rfl, la, ha⟩ := hx
  have e1 := two_self (s := s) ha
  have e2 : two (two (two (wd s as) (wd s as)) (wd s as)) (wd s as) = two (two (wd s as) (wd s as)) (two (wd s as) (wd s as)) := by
    refine two_assoc (n := n) ?_ ⟨s, as, rfl, la, ha⟩ ⟨s, as, rfl, la, ha⟩
    exact Sn.two ⟨s, as, rfl, la, ha⟩ ⟨s, as, rfl, la, ha⟩
  rw [e2, e1, two_self (al_ones _)]
  have e3 : (List.replicate as.length 49).count 87 = 0 := by rw [List.count_replicate]; rfl
  rw [e3, List.length_replicate, la]
  rfl
/-- whether two strings commute -/
def cmB (x y : List Nat) : Bool := decide (two x y = two y x)
theorem cm_wd {s t : Bool} {as bs : List Nat} (ha : Al4 as) (hb : Al4 bs) (l : as.length = bs.length) : cmB (wd s as) (wd t bs) = decide ((zS as bs + zS bs as) % 2 = 0) := by
  unfold cmB
  rw [two_wd ha hb, two_wd hb ha, z_comm bs as l.symm hb ha]
  have inj : ∀ (a b : Bool) (cs : List Nat), wd a cs = wd b cs → a = b := by
    intro a b cs e
    have e2 := congrArg List.length e
    rw [wd_len, wd_len] at e2
    cases a <;> cases b <;> first | rfl | (simp at e2)
  have key : (od (s.toNat + t.toNat + zS as bs) = od (t.toNat + s.toNat + zS bs as)) ↔ (zS as bs + zS bs as) % 2 = 0 := by
    unfold od
    rw [decide_eq_decide]
    omega
  by_cases h : (zS as bs + zS bs as) % 2 = 0
  · rw [decide_eq_true h, key.mpr h]; exact decide_eq_true rfl
  · rw [decide_eq_false h]
    exact decide_eq_false fun e => h (key.mp (inj _ _ _ e))
theorem cm_lin {n : Nat} {x y z : List Nat} (hx : Sn n x) (hy : Sn n y) (hz : Sn n z) : cmB x (two y z) = (cmB x y == cmB x z) := by
  obtain ⟨s, as, rfl, la, ha⟩ := hx
  obtain ⟨t, bs, rfl, lb, hb⟩ := hy
  obtain ⟨u, cs, rfl, lc, hc⟩ := hz
  have lin := z_lin as bs cs (by omega) (by omega) ha hb hc
  rw [two_wd hb hc, cm_wd ha (zL_al hb hc) (by rw [zL_len (by omega)]; omega), cm_wd ha hb (by omega), cm_wd ha hc (by omega)]
  have q1 := Nat.mod_two_eq_zero_or_one (zS as bs + zS bs as)
  have q2 := Nat.mod_two_eq_zero_or_one (zS as cs + zS cs as)
  rcases q1 with q1 | q1 <;> rcases q2 with q2 | q2 <;> (rw [q1, q2]; first | (rw [show (zS as (zL bs cs) + zS (zL bs cs) as) % 2 = 0 by omega]; rfl) | (rw [show (zS as (zL bs cs) + zS (zL bs cs) as) % 2 = 1 by omega]; rfl))
/-! ### a sign written n times; how often a sign stands in a text -/
theorem mul_ones (c n : Nat) : Txt.mul ⟨#[c]⟩ ((n : Nat) : Int) = txt (List.replicate n c) := by
  unfold Txt.mul
  cases n with
  | zero => rfl
  | succ n =>
    have h1 : ¬ (((n + 1 : Nat)) : Int) < 1 := by omega
    rw [if_neg h1]
    have join : ∀ (k : Nat) (a : Array Nat), (List.replicate k #[c]).foldl (· ++ ·) a = a ++ (List.replicate k c).toArray := by
      intro k
      induction k with
      | zero => intro a; simp
      | succ k ih =>
        intro a
        rw [List.replicate_succ, List.foldl_cons, ih, List.replicate_succ]
        apply Array.toList_inj.mp
        simp
    by_cases h2 : ((((n + 1 : Nat)) : Int) == 1 || (⟨#[c]⟩ : Str).length == 0) = true
    · rw [if_pos h2]
      have e : n = 0 := by
        rcases Bool.or_eq_true_iff.mp h2 with q | q
        · have := (beq_iff_eq.mp q); omega
        · cases q
      subst e
      rfl
    · rw [if_neg h2]
      have e : (((n + 1 : Nat)) : Int).toNat = n + 1 := rfl
      rw [e]
      show (⟨(List.replicate (n + 1) #[c]).foldl (· ++ ·) #[]⟩ : Str) = ⟨(List.replicate (n + 1) c).toArray⟩
      rw [join, Array.empty_append]
theorem op_times {X : Cx} : OpR X (binaryOp .Mult) (fun x y H Q => ∃ c n : Nat, x = sig c ∧ y = .int ((n : Nat) : Int) ∧ n ≤ 1000 ∧ Q (.str (txt (List.replicate n c))) H) := by
  rintro pins s σ H x y v u Q inv rx ry ⟨c, n, rfl, rfl, few, hand⟩
  rcases rx with ⟨t, rfl⟩
  rcases ry with ⟨t2, rfl⟩
  apply SB.mul
  · refine ⟨?_, fun h1 h2 => ?_, fun h1 h2 => ?_⟩
    · simp only [Bool.or_eq_false_iff, decide_eq_false_iff_not]; omega
    · show ¬ ((1 : Int) > _)
      have : (1 : Int) ≤ (2 ^ 63 - 1) / ((n : Nat) : Int) := by
        rw [Int.le_ediv_iff_mul_le (by omega)]; omega
      omega
    · unfold Builtin.Str.tooLong
      have small : (1 : Nat) * ((n : Nat) : Int).toNat ≤ sizeLine := by
        rw [Nat.one_mul]
        exact Nat.le_trans few (by decide)
      exact decide_eq_false (Nat.not_lt.mpr small)
  · intro t' k
    rw [mul_ones]
    exact ⟨.str _, H, inv.tok _, ⟨_, rfl⟩, hand⟩
theorem count_txt (cs : List Nat) (c : Nat) : Txt.count (txt cs) ⟨#[c]⟩ = ((cs.count c : Nat) : Int) := by
  rw [count_is, txt_cps]
  show cnt c cs = _
  induction cs with
  | nil => rfl
  | cons n r ih =>
    rw [cnt_cons, ih, List.count_cons]
    by_cases e : n = c
    · subst e; simp; omega
    · rw [if_neg e, if_neg (by simpa using e)]; omega
/-! ### what the defs promise -/
theorem txt_al : Str.ofString "1XZW" = txt Al := by decide +kernel
theorem all_al {cs : List Nat} (h : Al4 cs) : (cs.all fun c => decide (c ∈ Al)) = true := List.all_eq_true.mpr fun c hc => decide_eq_true (h c hc)
def spIsStr : Sp := fun vs H Q _ => ∃ ts : List Nat, vs = [tv ts] ∧ ts.length ≤ 1000 ∧ ∀ H', Same H H' → Q (.bl ((lettersL ts).all fun c => decide (c ∈ Al))) H'
def spChkS : Sp := fun vs H Q _ => ∃ ts : List Nat, vs = [tv ts] ∧ ts.length ≤ 1000 ∧ Al4 (lettersL ts) ∧ ∀ H', Same H H' → Q .non H'
def spTwo : Sp := fun vs H Q _ => ∃ (n : Nat) (x y : List Nat), vs = [tv x, tv y] ∧ n ≤ 900 ∧ Sn n x ∧ Sn n y ∧ ∀ H', Same H H' → Q (tv (two x y)) H'
def spMult : Sp := fun vs H Q _ => ∃ (n : Nat) (xss : List (List Nat)), vs = xss.map tv ∧ n ≤ 900 ∧ xss.length ≤ 20 ∧ (∀ x ∈ xss, Sn n x) ∧ ∀ H', Same H H' → Q (tv (multL xss)) H'
def spMultT : Sp := fun vs H Q _ => ∃ (p : Addr) (n : Nat) (xss : List (List Nat)), vs = [.ref p] ∧ H p = some (.tup (xss.map tv)) ∧ n ≤ 900 ∧ xss.length ≤ 20 ∧ (∀ x ∈ xss, Sn n x) ∧ ∀ H', Same H H' → Q (tv (multL xss)) H'
def spComm : Sp := fun vs H Q _ => ∃ (n : Nat) (x y : List Nat), vs = [tv x, tv y] ∧ n ≤ 900 ∧ Sn n x ∧ Sn n y ∧ ∀ H', Same H H' → Q (.bl (cmB x y)) H'
def spIden : Sp := fun vs H Q _ => ∃ n : Nat, vs = [.int ((n : Nat) : Int)] ∧ n ≤ 900 ∧ Q (tv (List.replicate n 49)) H
/-- the texts of the products of letters -/
def prodsL (as bs : List Nat) : List (List Nat) := List.zipWith pP as bs
theorem prods_at : ∀ {as bs : List Nat} {i a b : Nat}, as[i]? = some a → bs[i]? = some b → (prodsL as bs)[i]? = some (pP a b) := by
  intro as bs i a b ha hb
  unfold prodsL
  rw [List.getElem?_zipWith, ha, hb]
theorem prods_al : ∀ {as bs : List Nat}, Al4 as → Al4 bs → ∀ x ∈ prodsL as bs, ∃ a ∈ Al, ∃ b ∈ Al, x = pP a b
  | [], _, _, _, x, hx => by cases hx
  | _ :: _, [], _, _, x, hx => by cases hx
  | a :: as, b :: bs, ha, hb, x, hx => by
    rcases List.mem_cons.mp hx with rfl | hx
    · exact ⟨a, ha.head, b, hb.head, rfl⟩
    · exact prods_al ha.tail hb.tail x hx
theorem prods_sign : ∀ (as bs : List Nat), ((prodsL as bs).map signL).sum = zS as bs
  | [], _ => rfl
  | _ :: _, [] => rfl
  | a :: as, b :: bs => by
    rw [zS_cons, ← prods_sign as bs]
    show (signL (pP a b) :: (prodsL as bs).map signL).sum = _
    rw [List.sum_cons]; rfl
theorem prods_letters : ∀ (as bs : List Nat), Al4 as → Al4 bs → ((prodsL as bs).map lettersL).flatten = zL as bs
  | [], _, _, _ => rfl
  | _ :: _, [], _, _ => rfl
  | a :: as, b :: bs, ha, hb => by
    rw [zL_cons, ← prods_letters as bs ha.tail hb.tail]
    show lettersL (pP a b) ++ ((prodsL as bs).map lettersL).flatten = _
    rw [(p_form a ha.head b hb.head).1]
    rfl
theorem cutV_drop (xs : List V) (k : Nat) : cutV xs (some (k : Int)) none = xs.drop k := by
  unfold cutV
  rw [HT.sIx_none, HT.sIx_nat]
  by_cases h : k ≤ xs.length
  · rw [Nat.min_eq_left h]
    exact List.take_of_length_le (by rw [List.length_drop]; exact Nat.le_refl _)
  · rw [Nat.min_eq_right (by omega), List.drop_of_length_le (Nat.le_refl _), List.drop_of_length_le (l := xs) (by omega)]
    exact List.take_nil
theorem fold_snoc (r : List (List Nat)) (x y : List Nat) : (r ++ [y]).foldl two x = two (r.foldl two x) y := by rw [List.foldl_append]; rfl
theorem self_sign {n : Nat} {x : List Nat} (hx : Sn n x) : two x x = signedL ((x.count 87 : Nat) : Int) (List.replicate n 49) := by
  obtain ⟨s, cs, rfl, l, a⟩ := hx
  have e : (wd s cs).count 87 = cs.count 87 := by
    cases s with
    | false => rfl
    | true => exact List.count_cons_of_ne (by decide)
  rw [two_self a, e, signed_od, l]
theorem self_body {n : Nat} {x : List Nat} (hx : Sn n x) : lettersL (two x x) = List.replicate n 49 := by
  obtain ⟨s, cs, rfl, l, a⟩ := hx
  rw [two_self a, letters_wd (al_ones _).lt, l]
def spString : Sp := fun vs H Q _ => ∃ (b l : Addr) (n : Nat), vs = [.ref b, .int ((n : Nat) : Int)] ∧ Bag H b l ∧ n ≤ 900 ∧ ∀ H' x, Kp b H H' → Bag H' b l → Sn n x → Q (tv x) H'
theorem ne_no {a b : V} (h : a = b) : (!decide (a = b)) = false := by rw [decide_eq_true h]; rfl
def five : List Nat := [49, 49, 88, 90, 87]
theorem txt_five : Str.ofString "11XZW" = txt five := by decide +kernel
/-! ### the written table of products -/
def ptab : List (String × String) := [("11", "1"), ("1X", "X"), ("1Z", "Z"), ("1W", "W"), ("X1", "X"), ("XX", "1"), ("XZ", "W"), ("XW", "Z"), ("Z1", "Z"), ("ZX", "-W"), ("ZZ", "1"), ("ZW", "-X"), ("W1", "W"), ("WX", "-Z"), ("WZ", "X"), ("WW", "-1")]
theorem ptab_all : ∀ a ∈ Al, ∀ b ∈ Al, ∃ p ∈ ptab, Str.ofString p.1 = txt [a, b] ∧ Str.ofString p.2 = txt (pP a b) := by decide +kernel
theorem kd_all {K : PySem.W.Frag} {w : World} {pd : Addr} {es : Array DictEntry} {n : Nat} (there : K.lookup pd = some ⟨.type "dict", none, .dict es n, #[]⟩) (lit : PySem.W.KeysLit w.params es.toList)
    (rows : ∀ p ∈ ptab, ∃ t, PySem.W.nsIn K pd (Str.ofString p.1) = some (some (.str (Str.ofString p.2) t))) : ∀ a ∈ Al, ∀ b ∈ Al, KDct K w pd (txt [a, b]) (tv (pP a b)) := by
  intro a ha b hb
  obtain ⟨p, hp, e1, e2⟩ := ptab_all a ha b hb
  obtain ⟨t, row⟩ := rows p hp
  rw [e1, e2] at row
  exact ⟨es, n, _, there, lit, row, ⟨t, rfl⟩⟩
end Tm

namespace T23
open PySem PySem.Spec PyProof.Rows L2 Tm
def topS (i : Nat) : Stmt := PySem.Challenge.pw_threadmark_k23_whole_products_of_strings.main.body.getD i (.Pass ⟨0, 0, 0, 0⟩)
abbrev sBag : Stmt := topS 18
abbrev sPull : Stmt := topS 19
abbrev sOf : Stmt := topS 20
theorem scBag : FnScope ["_law_script", "_law_salt", "_law_cell"] ["_law_script"] (defScope sBag) := ⟨rfl, rfl, rfl, by decide +kernel, rfl, by decide +kernel, by decide +kernel⟩
theorem scPull : FnScope ["_law_bag_here", "_law_many", "_law_cell", "_law_digit", "_law_square"] ["_law_bag_here", "_law_many"] (defScope sPull) := ⟨rfl, rfl, rfl, by decide +kernel, rfl, by decide +kernel, by decide +kernel⟩
theorem scOf : FnScope ["_law_bag_here", "_law_things"] ["_law_bag_here", "_law_things"] (defScope sOf) := ⟨rfl, rfl, rfl, by decide +kernel, rfl, by decide +kernel, by decide +kernel⟩
section
variable {P : Program} {w : World} {K : PySem.W.Frag} {mg : Str → Option Value} {base : Heap}
theorem ok_bag {f : Addr} {fd : FuncData} (F : Fun K "_law_bag" "_law_bag" sBag f fd) (ml : mg "list" = none) : FnOk P w K mg base CX0 1 f fd ["_law_script"] (spBag K) := by
  refine F.ok scBag (fun vs H Q E h => ?_) (fun cdv A outer s H vs Q E hr h => ?_)
  · obtain ⟨a, ns, rfl, _⟩ := h
    rfl
  · obtain ⟨a, ns, rfl, hS, q⟩ := h
    refine ⟨_, pss_cons (ps_set (i := 1) scBag.nd rfl (.inl rfl) pe_int)
      (pss_cons (ps_for PassesOwn.never rfl (pi_list (pe_slice sl_list (pv 0) po_none (po_some pe_int))) (pg_name (i := 2) scBag.nd rfl (.inl rfl))
        (pss_one (ps_set (i := 1) scBag.nd rfl (.inl rfl) (pe_op op_mod (pe_op op_add (pe_op op_add (pe_op op_mul (pv 1) pe_int) (pe_op op_mod (pv 2) pe_int)) pe_int) pe_int))))
      (pss_one (ps_ret (pe_lst (pa_cons (pe_callTy call_list_of (by rfl) ml boot_list (pa_cons (pe_slice sl_list (pv 0) po_none (po_some pe_int)) pa_nil)) (pa_cons pe_int (pa_cons pe_int (pa_cons (pv 1) pa_nil)))))))), ?_⟩
    refine ⟨.ref a, rfl, 63, rfl, a, ns.map V.int, rfl, hS, fun p np => ?_⟩
    have s1 : Same H (upd H p (.lst (cutV (ns.map V.int) none (some 63)))) := same_upd np
    refine ⟨p, rfl, ⟨_, .inl (.inl upd_same)⟩, for_list (K := K) (a := p) (xs := cutV (ns.map V.int) none (some 63))
      (fun i σ H' => ∃ (z : Int) (y : Option V), σ = [some (.ref a), some (.int z), y] ∧ 0 ≤ z ∧ z < 2147483549 ∧ H' = upd H p (.lst (cutV (ns.map V.int) none (some 63)))) ⟨3808, none, rfl, by decide, by decide, rfl⟩
      (fun i σ H' _ ⟨_, _, _, _, _, e⟩ => by rw [e]; exact .inl (.inl upd_same)) ?_ ?_⟩
    · rintro i y σ H' hi ⟨z, y0, rfl, h0, h1, rfl⟩
      obtain ⟨u, rfl⟩ := cut_int hi
      refine ⟨_, rfl, _, _, rfl, rfl, .inl ⟨by omega, by omega⟩, _, rfl, _, _, rfl, rfl, (by dsimp only; decide), _, _, rfl, rfl, _, _, rfl, rfl, _, _, rfl, rfl, (by dsimp only; decide), ?_⟩
      refine ⟨_, _, rfl, Int.emod_nonneg _ (by decide), Int.emod_lt_of_pos _ (by decide), rfl⟩
    · rintro σ H' ⟨z, y0, rfl, h0, h1, rfl⟩
      refine ⟨.ref a, rfl, 63, rfl, a, ns.map V.int, rfl, s1.seq hS, fun p2 np2 => ?_⟩
      refine ⟨p2, _, rfl, .inl (.inl (.inl upd_same)), fun l nl => ?_⟩
      refine ⟨.int z, rfl, (by show 4 ≤ sizeLine; decide), fun b nb => ?_⟩
      have e2 := (same_upd (o := .lst (cutV (ns.map V.int) none (some 63))) np2)
      have e3 := (same_upd (o := .lst (cutV (ns.map V.int) none (some 63))) nl)
      have e4 := (same_upd (o := .lst [.ref l, .int 0, .int 0, .int z]) nb)
      have f4 := ((s1.trans e2).trans e3).free nb
      have f3 := (s1.trans e2).free nl
      obtain ⟨ms, em⟩ := cut_ints ns none (some 63)
      refine q _ b l (((s1.trans e2).trans e3).trans e4) f4 f3 ⟨ms, 0, 0, z, upd_same, ?_, by decide, by decide, h0, h1⟩
      rw [← em]
      exact e4 _ _ upd_same

theorem ok_pull {f : Addr} {fd : FuncData} (F : Fun K "_law_pull" "_law_pull" sPull f fd) (ml : mg "len" = none) : FnOk P w K mg base CX0 1 f fd ["_law_bag_here", "_law_many"] spPull := by
  refine F.ok scPull (fun vs H Q E h => ?_) (fun cdv A outer s H vs Q E hr h => ?_)
  · obtain ⟨b, l, m, rfl, _⟩ := h
    rfl
  · obtain ⟨b, l, m, rfl, B, hm0, hm1, q⟩ := h
    refine ⟨_, pss_cons (ps_if (PW.pt (pw_and (pt_cmpR op_lt (pe_ix ix_list (pv 0) pe_int (fun _ _ => rfl)) (pv 1) (nomark _)) (pw_and1 (pt_cmpR op_lt (pe_ix ix_list (pv 0) pe_int (fun _ _ => rfl)) (pe_callB call_len_seq (by rfl) ml PySem.boot_len (pa_cons (pe_ix ix_list (pv 0) pe_int (fun _ _ => rfl)) pa_nil)) (nomark _)))))
        (pss_cons (ps_set (i := 2) scPull.nd rfl (.inl rfl) (pe_ix ix_list (pe_ix ix_list (pv 0) pe_int (fun _ _ => rfl)) (pe_ix ix_list (pv 0) pe_int (fun _ _ => rfl)) (fun _ _ => rfl)))
        (pss_cons (ps_asg (pe_op op_add (pe_ix ix_list (pv 0) pe_int (fun _ _ => rfl)) pe_int) (pg_sub (pv 0) pe_int set_list))
        (pss_cons (ps_asg pe_int (pg_sub (pv 0) pe_int set_list))
        (pss_one (ps_if (pt_cmpR op_ge (pv 2) (pe_op op_pow pe_int pe_int) (nomark _)) (pss_one (ps_asg (pv 2) (pg_sub (pv 0) pe_int set_list)))
          (pss_one (ps_asg (pe_op op_mod (pe_op op_add (pe_op op_add (pe_op op_mul (pe_ix ix_list (pv 0) pe_int (fun _ _ => rfl)) pe_int) (pe_op op_mul (pe_op op_mod (pv 2) pe_int) pe_int)) pe_int) pe_int) (pg_sub (pv 0) pe_int set_list))))))))
        pss_nil)
      (pss_cons (ps_if (pt_cmpR op_ge (pe_ix ix_list (pv 0) pe_int (fun _ _ => rfl)) (pv 1) (nomark _))
        (pss_cons (ps_set (i := 3) scPull.nd rfl (.inl rfl) (pe_op op_mod (pe_ix ix_list (pv 0) pe_int (fun _ _ => rfl)) (pv 1)))
        (pss_cons (ps_asg (pe_op op_fdiv (pe_ix ix_list (pv 0) pe_int (fun _ _ => rfl)) (pv 1)) (pg_sub (pv 0) pe_int set_list))
        (pss_one (ps_ret (pv 3))))) pss_nil)
      (pss_cons (ps_set (i := 4) scPull.nd rfl (.inl rfl) (pe_op op_mod (pe_op op_mul (pe_ix ix_list (pv 0) pe_int (fun _ _ => rfl)) (pe_ix ix_list (pv 0) pe_int (fun _ _ => rfl))) pe_int))
      (pss_cons (ps_asg (pe_op op_mod (pe_op op_add (pe_op op_add (pe_op op_mul (pv 4) pe_int) (pe_op op_mul (pe_ix ix_list (pv 0) pe_int (fun _ _ => rfl)) pe_int)) pe_int) pe_int) (pg_sub (pv 0) pe_int set_list))
      (pss_one (ps_ret (pe_op op_mod (pe_op op_add (pe_op op_fdiv (pe_ix ix_list (pv 0) pe_int (fun _ _ => rfl)) pe_int) (pe_op op_mul (pe_op op_mod (pe_ix ix_list (pv 0) pe_int (fun _ _ => rfl)) pe_int) pe_int)) (pv 1))))))), ?_⟩
    refine cut (fun σ' H' => ∃ y, σ' = [some (.ref b), some (.int m), y, none, none] ∧ Bag H' b l ∧ Kp b H H') (fun σ1 H1 hp => ?tail) (fun N hN => ?head)
    case head =>
      obtain ⟨xs, i, n, z, hb, hl, i0, n0, z0, z1⟩ := id B
      have nlb := bag_ne hb hl
      refine ⟨_, rfl, b, _, 2, .int n, rfl, rfl, SqL.of hb, rfl, _, rfl, _, _, rfl, rfl, _, rfl, ite2 (fun hlt => ?_) (fun _ => ?_)⟩
      · refine ⟨_, rfl, b, _, 1, .int i, rfl, rfl, SqL.of hb, rfl, _, rfl, b, _, 0, .ref l, rfl, rfl, SqL.of hb, rfl, l, _, rfl, .inl (SqL.of hl), _, _, rfl, rfl, _, rfl, ite2 (fun hlt2 => ?_) (fun _ => ?_)⟩
        · have hi : i < ((xs.map V.int).length : Int) := of_decide_eq_true hlt2
          rw [List.length_map] at hi
          obtain ⟨j, rfl⟩ : ∃ j : Nat, i = j := ⟨i.toNat, by omega⟩
          have hj : j < xs.length := by omega
          have gj : (xs.map V.int)[j]? = some (.int xs[j]) := by
            rw [List.getElem?_map, List.getElem?_eq_getElem hj]; rfl
          generalize xs[j] = c at gj
          refine ⟨_, rfl, b, _, 0, .ref l, rfl, rfl, SqL.of hb, rfl, _, rfl, b, _, 1, .int j, rfl, rfl, SqL.of hb, rfl, l, _, j, .int c, rfl, rfl, SqL.of hl, atI_nat gj, ?_⟩
          refine ⟨_, rfl, b, _, 1, .int j, rfl, rfl, SqL.of hb, rfl, _, _, rfl, rfl, _, rfl, b, _, 1, 1, rfl, rfl, hb, rfl, ?_⟩
          refine ⟨_, rfl, b, _, 2, 2, rfl, rfl, upd_same, rfl, ?_⟩
          rw [upd_upd]
          refine ⟨_, rfl, _, _, rfl, rfl, ⟨by decide, by decide, by decide⟩, _, _, rfl, rfl, _, rfl, ite2 (fun hge => ?_) (fun _ => ?_)⟩
          · refine ⟨_, rfl, _, rfl, b, _, 2, 2, rfl, rfl, upd_same, rfl, ?_⟩
            rw [upd_upd]
            refine hN _ _ ⟨_, rfl, ⟨xs, _, _, _, upd_same, by rw [upd_ne nlb]; exact hl, by omega, ?_, z0, z1⟩, Kp.set⟩
            have e := of_decide_eq_true hge
            have e2 : (0 : Int) ≤ 10 ^ (18 : Int).toNat := by decide
            omega
          · refine ⟨_, rfl, b, _, 3, .int z, rfl, rfl, SqL.of upd_same, rfl, _, _, rfl, rfl, .inl ⟨by omega, by omega⟩, _, rfl, _, _, rfl, rfl, (by dsimp only; decide), _, _, rfl, rfl, .inr ⟨by decide, by decide⟩, _, _, rfl, rfl, _, _, rfl, rfl, _, _, rfl, rfl, (by dsimp only; decide), _, rfl, b, _, 3, 3, rfl, rfl, upd_same, rfl, ?_⟩
            rw [upd_upd]
            exact hN _ _ ⟨_, rfl, ⟨xs, _, _, _, upd_same, by rw [upd_ne nlb]; exact hl, by omega, by decide, Int.emod_nonneg _ (by decide), Int.emod_lt_of_pos _ (by decide)⟩, Kp.set⟩
        · exact hN _ _ ⟨_, rfl, B, Kp.refl _ _⟩
      · exact hN _ _ ⟨_, rfl, B, Kp.refl _ _⟩
    case tail =>
      obtain ⟨y, rfl, ⟨xs, i, n, z, hb, hl, i0, n0, z0, z1⟩, kp⟩ := hp
      have nlb := bag_ne hb hl
      refine ⟨_, rfl, b, _, 2, .int n, rfl, rfl, SqL.of hb, rfl, _, rfl, _, _, rfl, rfl, _, rfl, ite2 (fun hge => ?_) (fun _ => ?_)⟩
      · refine ⟨_, rfl, b, _, 2, .int n, rfl, rfl, SqL.of hb, rfl, _, rfl, _, _, rfl, rfl, hm0, ?_⟩
        refine ⟨_, rfl, b, _, 2, .int n, rfl, rfl, SqL.of hb, rfl, _, rfl, _, _, rfl, rfl, ⟨hm0, hm1⟩, _, rfl, b, _, 2, 2, rfl, rfl, hb, rfl, ?_⟩
        refine ⟨_, rfl, ?_⟩
        exact q _ _ (kp.trans Kp.set) ⟨xs, _, _, _, upd_same, by rw [upd_ne nlb]; exact hl, i0, Int.ediv_nonneg n0 (by omega), z0, z1⟩ (Int.emod_nonneg _ (by omega)) (Int.emod_lt_of_pos _ hm0)
      · refine ⟨_, rfl, b, _, 3, .int z, rfl, rfl, SqL.of hb, rfl, _, rfl, b, _, 3, .int z, rfl, rfl, SqL.of hb, rfl, _, _, rfl, rfl, .inl ⟨by omega, by omega⟩, _, _, rfl, rfl, (by dsimp only; decide), ?_⟩
        have w0 : 0 ≤ z * z % 2147483549 := Int.emod_nonneg _ (by decide)
        have w1 : z * z % 2147483549 < 2147483549 := Int.emod_lt_of_pos _ (by decide)
        refine ⟨_, rfl, _, _, rfl, rfl, .inl ⟨by omega, by omega⟩, _, rfl, b, _, 3, .int z, rfl, rfl, SqL.of hb, rfl, _, _, rfl, rfl, .inl ⟨by omega, by omega⟩, _, _, rfl, rfl, _, _, rfl, rfl, _, _, rfl, rfl, (by dsimp only; decide), _, rfl, b, _, 3, 3, rfl, rfl, hb, rfl, ?_⟩
        refine ⟨_, rfl, b, _, 3, _, rfl, rfl, SqL.of upd_same, rfl, _, _, rfl, rfl, ⟨by decide, by decide⟩, _, rfl, b, _, 3, _, rfl, rfl, SqL.of upd_same, rfl, _, _, rfl, rfl, (by dsimp only; decide), _, _, rfl, rfl, .inr ⟨by decide, by decide⟩, _, _, rfl, rfl, _, rfl, _, _, rfl, rfl, hm0, ?_⟩
        exact q _ _ (kp.trans Kp.set) ⟨xs, _, _, _, upd_same, by rw [upd_ne nlb]; exact hl, i0, n0, Int.emod_nonneg _ (by decide), Int.emod_lt_of_pos _ (by decide)⟩ (Int.emod_nonneg _ (by omega)) (Int.emod_lt_of_pos _ hm0)
end

section
variable {P : Program} {w : World} {K : PySem.W.Frag} {mg : Str → Option Value} {base : Heap}
theorem ok_of {f fP : Addr} {fd fdP : FuncData} (F : Fun K "_law_of" "_law_of" sOf f fd) (FP : Fun K "_law_pull" "_law_pull" sPull fP fdP) (bP : Binds K fdP ["_law_bag_here", "_law_many"] []) (gP : mg "_law_pull" = some (.ref fP)) (ml : mg "len" = none) : FnOk P w K mg base CX0 2 f fd ["_law_bag_here", "_law_things"] (spOf K) := by
  have GP : FnOk P w K mg base CX0 1 fP fdP ["_law_bag_here", "_law_many"] spPull := ok_pull FP ml
  refine F.ok scOf (fun vs H Q E h => ?_) (fun cdv A outer s H vs Q E hr h => ?_)
  · obtain ⟨b, l, t, xs, rfl, _⟩ := h
    rfl
  · obtain ⟨b, l, t, xs, rfl, B, hT, h0, h1, q⟩ := h
    refine ⟨_, pss_one (ps_ret (pe_ix ix_seq (pv 1) (pe_call GP hr (by rfl) gP FP.kp bP .nil pass0 (pa_cons (pv 0) (pa_cons (pe_callB call_len (by rfl) ml PySem.boot_len (pa_cons (pv 1) pa_nil)) pa_nil))) (fun _ _ => rfl))), ?_⟩
    rcases hT with ⟨a, rfl, nab, hS⟩ | ⟨z, rfl, hz, rfl⟩
    · refine ⟨_, rfl, _, rfl, _, rfl, _, _, rfl, .inl ⟨_, hS, rfl⟩, b, l, _, rfl, B, by omega, by omega, fun H' d kp B' d0 d1 => ?_⟩
      obtain ⟨j, rfl⟩ : ∃ j : Nat, d = j := ⟨d.toNat, by omega⟩
      have hj : j < xs.length := by omega
      exact .inl ⟨a, xs, _, xs[j], rfl, rfl, kp.seq nab hS, atI_nat (List.getElem?_eq_getElem hj), q _ _ kp B' (List.getElem_mem hj)⟩
    · rw [List.length_map, Array.length_toList] at h0 h1
      refine ⟨_, rfl, _, rfl, _, rfl, _, _, rfl, ⟨hz, rfl⟩, b, l, _, rfl, B, ?_, ?_, fun H' d kp B' d0 d1 => ?_⟩
      · show (0 : Int) < ((z.cps.size : Nat) : Int)
        omega
      · show ((z.cps.size : Nat) : Int) < 1073741824
        omega
      · have d2 : d < ((z.cps.size : Nat) : Int) := d1
        obtain ⟨j, rfl⟩ : ∃ j : Nat, d = j := ⟨d.toNat, by omega⟩
        have hj : j < z.cps.toList.length := by rw [Array.length_toList]; omega
        refine .inr (.inr ⟨z, _, z.cps.toList[j], rfl, rfl, hz, atI_nat (List.getElem?_eq_getElem hj), q _ _ kp B' ?_⟩)
        exact List.mem_map.mpr ⟨_, List.getElem_mem hj, rfl⟩
end

abbrev sLettersOf : Stmt := topS 5
abbrev sSignOf : Stmt := topS 6
abbrev sSigned : Stmt := topS 7
theorem scLettersOf : FnScope ["text"] ["text"] (defScope sLettersOf) := ⟨rfl, rfl, rfl, by decide +kernel, rfl, by decide +kernel, by decide +kernel⟩
theorem scSignOf : FnScope ["text"] ["text"] (defScope sSignOf) := ⟨rfl, rfl, rfl, by decide +kernel, rfl, by decide +kernel, by decide +kernel⟩
theorem scSigned : FnScope ["turns", "letters"] ["turns", "letters"] (defScope sSigned) := ⟨rfl, rfl, rfl, by decide +kernel, rfl, by decide +kernel, by decide +kernel⟩
section
variable {P : Program} {w : World} {K : PySem.W.Frag} {mg : Str → Option Value} {base : Heap}
theorem ok_letters {f : Addr} {fd : FuncData} (F : Fun K "letters_of" "letters_of" sLettersOf f fd) : FnOk P w K mg base CX0 1 f fd ["text"] spLetters := by
  refine F.ok scLettersOf (fun vs H Q E h => ?_) (fun cdv A outer s H vs Q E hr h => ?_)
  · obtain ⟨ts, rfl, _⟩ := h
    rfl
  · obtain ⟨ts, rfl, hz, q⟩ := h
    refine ⟨_, pss_one (ps_ret (pe_m1 PySem.F.slot_str_removeprefix PySem.F.type_str_removeprefix mt_removeprefix (pv 0) pe_str)), ?_⟩
    refine ⟨_, rfl, ⟨_, rfl⟩, txt ts, Str.ofString "-", rfl, rfl, by rw [txt_len]; exact hz, ?_⟩
    rw [remove_minus]
    exact q
theorem ok_signof {f fL : Addr} {fd fdL : FuncData} (F : Fun K "sign_of" "sign_of" sSignOf f fd) (FL : Fun K "letters_of" "letters_of" sLettersOf fL fdL) (bL : Binds K fdL ["text"] []) (gL : mg "letters_of" = some (.ref fL)) (ml : mg "len" = none) : FnOk P w K mg base CX0 2 f fd ["text"] spSignOf := by
  have GL : FnOk P w K mg base CX0 1 fL fdL ["text"] spLetters := ok_letters FL
  refine F.ok scSignOf (fun vs H Q E h => ?_) (fun cdv A outer s H vs Q E hr h => ?_)
  · obtain ⟨ts, rfl, _⟩ := h
    rfl
  · obtain ⟨ts, rfl, hz, q⟩ := h
    refine ⟨_, pss_one (ps_ret (pe_op op_sub (pe_callB call_len_str (by rfl) ml PySem.boot_len (pa_cons (pv 0) pa_nil)) (pe_callB call_len_str (by rfl) ml PySem.boot_len (pa_cons (pe_call GL hr (by rfl) gL FL.kp bL .nil pass0 (pa_cons (pv 0) pa_nil)) pa_nil)))), ?_⟩
    have e := letters_len ts
    refine ⟨_, rfl, _, rfl, by rw [txt_len]; exact hz, _, rfl, ts, rfl, hz, _, rfl, by rw [txt_len]; omega, _, _, rfl, rfl, ?_⟩
    have e2 : ((txt ts).length : Int) - ((txt (lettersL ts)).length : Int) = (signL ts : Int) := by
      rw [txt_len, txt_len]; omega
    show Q (.int (((txt ts).length : Int) - ((txt (lettersL ts)).length : Int))) H
    rw [e2]
    exact q
theorem ok_signed {f : Addr} {fd : FuncData} (F : Fun K "signed" "signed" sSigned f fd) : FnOk P w K mg base CX0 1 f fd ["turns", "letters"] spSigned := by
  refine F.ok scSigned (fun vs H Q E h => ?_) (fun cdv A outer s H vs Q E hr h => ?_)
  · obtain ⟨t, cs, rfl, _⟩ := h
    rfl
  · obtain ⟨t, cs, rfl, hz, q⟩ := h
    refine ⟨_, pss_one (ps_ret (pe_ifExp (pt_cmpR op_eq (pe_op op_mod (pv 0) pe_int) pe_int (nomark _)) (pe_op op_add_str pe_str (pv 1)) (pv 1))), ?_⟩
    refine ⟨_, rfl, _, _, rfl, rfl, (by dsimp only; decide), rfl, _, rfl, ite2 (fun h => ?_) (fun h => ?_)⟩
    · have e := V.int.inj (of_decide_eq_true h)
      refine ⟨_, rfl, _, _, rfl, rfl, by rw [txt_minus, txt_len, txt_len]; simp; omega, ?_⟩
      rw [txt_minus, txt_app]
      unfold signedL at q
      rw [if_pos e] at q
      exact q
    · have e : ¬ t % 2 = 1 := fun z => h (decide_eq_true (congrArg V.int z))
      unfold signedL at q
      rw [if_neg e] at q
      exact ⟨_, rfl, q⟩
end

abbrev sLSigned : Stmt := topS 22
theorem scLSigned : FnScope ["_law_mturned", "_law_body_here"] ["_law_mturned", "_law_body_here"] (defScope sLSigned) := ⟨rfl, rfl, rfl, by decide +kernel, rfl, by decide +kernel, by decide +kernel⟩
section
variable {P : Program} {w : World} {K : PySem.W.Frag} {mg : Str → Option Value} {base : Heap}
theorem ok_lsigned {f : Addr} {fd : FuncData} (F : Fun K "_law_signed" "_law_signed" sLSigned f fd) : FnOk P w K mg base CX0 1 f fd ["_law_mturned", "_law_body_here"] spLSigned := by
  refine F.ok scLSigned (fun vs H Q E h => ?_) (fun cdv A outer s H vs Q E hr h => ?_)
  · obtain ⟨t, cs, rfl, _⟩ := h
    rfl
  · obtain ⟨t, cs, rfl, hz, q⟩ := h
    refine ⟨_, pss_one (ps_ret (pe_op op_add_str (pe_ifExp (pt_cmpR op_eq (pe_op op_mod (pv 0) pe_int) pe_int (nomark _)) pe_str pe_str) (pv 1))), ?_⟩
    refine ⟨_, rfl, _, _, rfl, rfl, (by dsimp only; decide), rfl, _, rfl, ite2 (fun h => ?_) (fun h => ?_)⟩
    · have e := V.int.inj (of_decide_eq_true h)
      refine ⟨_, rfl, _, _, rfl, rfl, by rw [txt_minus, txt_len, txt_len]; simp; omega, ?_⟩
      rw [txt_minus, txt_app]
      unfold signedL at q
      rw [if_pos e] at q
      exact q
    · have e : ¬ t % 2 = 1 := fun z => h (decide_eq_true (congrArg V.int z))
      refine ⟨_, rfl, _, _, rfl, rfl, by rw [txt_empty, txt_len, txt_len]; simp; omega, ?_⟩
      rw [txt_empty, txt_app]
      unfold signedL at q
      rw [if_neg e] at q
      exact q
end

abbrev sLBody : Stmt := topS 21
theorem scLBody : FnScope ["_law_text"] ["_law_text"] (defScope sLBody) := ⟨rfl, rfl, rfl, by decide +kernel, rfl, by decide +kernel, by decide +kernel⟩
section
variable {P : Program} {w : World} {K : PySem.W.Frag} {mg : Str → Option Value} {base : Heap}
theorem first_is (ts : List Nat) : decide (V.str (cutS (txt ts) none (some 1)) = V.str (Str.ofString "-")) = decide (signL ts = 1) := by
  have e : cutS (txt ts) none (some ((1 : Nat) : Int)) = txt (ts.take 1) := cutS_take _ 1
  have e' : cutS (txt ts) none (some 1) = txt (ts.take 1) := e
  rw [e', txt_minus]
  cases ts with
  | nil => exact decide_eq_false (fun z => by cases txt_inj (V.str.inj z))
  | cons c r =>
    show decide (V.str (txt [c]) = V.str (txt [45])) = decide (signL (c :: r) = 1)
    by_cases h : c = 45
    · subst h
      rfl
    · have e0 : signL (c :: r) = 0 := if_neg h
      rw [decide_eq_false (fun z => h (List.head_eq_of_cons_eq (txt_inj (V.str.inj z)))), e0]
      rfl
theorem ok_lbody {f : Addr} {fd : FuncData} (F : Fun K "_law_body" "_law_body" sLBody f fd) : FnOk P w K mg base CX0 1 f fd ["_law_text"] spLBody := by
  refine F.ok scLBody (fun vs H Q E h => ?_) (fun cdv A outer s H vs Q E hr h => ?_)
  · obtain ⟨ts, rfl, _⟩ := h
    rfl
  · obtain ⟨ts, rfl, hz, q⟩ := h
    refine ⟨_, pss_one (ps_ret (pe_ifExp (pt_cmpR op_eq (pe_slice sl_str (pv 0) po_none (po_some pe_int)) pe_str (nomark _)) (pe_slice sl_str (pv 0) (po_some pe_int) po_none) (pv 0))), ?_⟩
    have tz : (txt ts).length ≤ sizeLine := by rw [txt_len]; exact Nat.le_of_lt (small1000 hz)
    refine ⟨_, rfl, 1, rfl, _, rfl, tz, rfl, _, rfl, ?_⟩
    rw [first_is]
    cases ts with
    | nil => exact iteF ⟨_, rfl, q⟩
    | cons c r =>
      by_cases h : c = 45
      · subst h
        have e : cutS (txt (45 :: r)) (some ((1 : Nat) : Int)) none = txt r := cutS_drop (45 :: r) 1
        have e' : cutS (txt (45 :: r)) (some 1) none = txt r := e
        refine iteT ⟨_, rfl, 1, rfl, _, rfl, tz, ?_⟩
        rw [e']
        exact q
      · have e1 : signL (c :: r) = 0 := if_neg h
        have e2 : lettersL (c :: r) = c :: r := if_neg h
        rw [e1]
        rw [e2] at q
        exact iteF ⟨_, rfl, q⟩
end


end T23

namespace T23
open PySem PySem.Spec PyProof.Rows L2 Tm
abbrev sIsStr : Stmt := topS 11
abbrev sChkS : Stmt := topS 12
abbrev sTwo : Stmt := topS 13
abbrev sMult : Stmt := topS 14
theorem scIsStr : FnScope ["text", "letter"] ["text"] (defScope sIsStr) := ⟨rfl, rfl, rfl, by decide +kernel, rfl, by decide +kernel, by decide +kernel⟩
theorem scChkS : FnScope ["text"] ["text"] (defScope sChkS) := ⟨rfl, rfl, rfl, by decide +kernel, rfl, by decide +kernel, by decide +kernel⟩
theorem scTwo : FnScope ["one", "other", "products", "turns", "left", "right", "text"] ["one", "other"] (defScope sTwo) := ⟨rfl, rfl, rfl, by decide +kernel, rfl, by decide +kernel, by decide +kernel⟩
theorem scMult : FnScope ["strings", "text", "total"] ["strings"] (defScope sMult) := ⟨rfl, rfl, rfl, by decide +kernel, rfl, by decide +kernel, by decide +kernel⟩
section
variable {P : Program} {w : World} {K : PySem.W.Frag} {mg : Str → Option Value} {base : Heap}
theorem ok_isstr {f fL : Addr} {fd fdL : FuncData} {t : Tok} (F : Fun K "is_string" "is_string" sIsStr f fd) (FL : Fun K "letters_of" "letters_of" sLettersOf fL fdL) (bL : Binds K fdL ["text"] []) (gL : mg "letters_of" = some (.ref fL)) (gA : mg "STRING_LETTERS" = some (.str (Str.ofString "1XZW") t)) (ma : mg "all" = none) :
    FnOk P w K mg base CX0 2 f fd ["text"] spIsStr := by
  have GL : FnOk P w K mg base CX0 1 fL fdL ["text"] spLetters := ok_letters FL
  refine F.ok scIsStr (fun vs H Q E h => ?_) (fun cdv A outer s H vs Q E hr h => ?_)
  · obtain ⟨ts, rfl, _⟩ := h
    rfl
  · obtain ⟨ts, rfl, hz, q⟩ := h
    refine ⟨_, pss_one (ps_ret (pe_callB (cr_all rfl) (by rfl) ma (by decide +kernel) (pa_cons (pe_lc (own := [("letter", 1)]) (g := gName 1) (tt := tYes) rfl scIsStr.nd (pi_str (pe_call GL hr (by rfl) gL FL.kp bL .nil pass0 (pa_cons (pv 0) pa_nil))) (blkOk_by (own := [("letter", 1)]) (N := ["text", "letter"]) (sc := defScope sIsStr) (by decide +kernel))
        (fun _ _ _ _ _ => pg_name (i := 1) scIsStr.nd rfl (Or.inl rfl)) (fun _ _ _ _ _ => pts_nil) (fun _ _ _ _ _ => pe_cmpR op_in_sign (pv 1) (pe_glob (v := .str (Str.ofString "1XZW")) rfl gA ⟨_, rfl⟩) (by rfl))) pa_nil))), ?_⟩
    have le := lettersL_le ts
    refine ⟨_, rfl, ts, rfl, Nat.le_of_lt (small1000 hz), _, rfl, fun D nD => ?_⟩
    have hsz : (txt (lettersL ts)).cps.size = (lettersL ts).length := txt_len _
    refine lc_it (walk_str (z := txt (lettersL ts))) (fun i H' => Same H H' ∧ H' D = some (.lst ((((lettersL ts).take i).map fun c => decide (c ∈ Al)).map V.bl))) ⟨same_upd nD, upd_same⟩ (fun _ _ _ _ => trivial) ?_ ?_
    · rintro i v H1 H2 hi ⟨s1, hD⟩ ⟨rfl, c, hc, rfl⟩
      rw [hsz] at hi
      have ec := at_txt hc
      refine ⟨rfl, ?_⟩
      refine ⟨_, rfl, c, _, rfl, rfl, _, hD, ?_, same_put s1 nD, ?_⟩
      · rw [List.length_map, List.length_map, List.length_take]
        exact small1000 (by omega)
      · rw [upd_same, List.take_succ, ec, List.map_append, List.map_append, txt_al, txt_cps]
        rfl
    · rintro H1 ⟨s1, hD⟩
      rw [hsz, List.take_length] at hD
      refine ⟨D, _, rfl, SqL.of hD, ?_⟩
      rw [List.all_map]
      exact q H1 s1
theorem ok_chks {f fI fL : Addr} {fd fdI fdL : FuncData} {t : Tok} (F : Fun K "check_string" "check_string" sChkS f fd) (FI : Fun K "is_string" "is_string" sIsStr fI fdI) (bI : Binds K fdI ["text"] []) (gI : mg "is_string" = some (.ref fI))
    (FL : Fun K "letters_of" "letters_of" sLettersOf fL fdL) (bL : Binds K fdL ["text"] []) (gL : mg "letters_of" = some (.ref fL)) (gA : mg "STRING_LETTERS" = some (.str (Str.ofString "1XZW") t)) (ma : mg "all" = none) : FnOk P w K mg base CX0 3 f fd ["text"] spChkS := by
  have GI : FnOk P w K mg base CX0 2 fI fdI ["text"] spIsStr := ok_isstr FI FL bL gL gA ma
  refine F.ok scChkS (fun vs H Q E h => ?_) (fun cdv A outer s H vs Q E hr h => ?_)
  · obtain ⟨ts, rfl, _⟩ := h
    rfl
  · obtain ⟨ts, rfl, hz, al, q⟩ := h
    refine ⟨_, pss_one (ps_if (pt_not (pt_val (pe_call GI hr (by rfl) gI FI.kp bI .nil pass0 (pa_cons (pv 0) pa_nil)))) pss_never pss_nil), ?_⟩
    refine ⟨_, rfl, ts, rfl, hz, fun H1 s1 => ⟨_, rfl, ?_⟩⟩
    rw [all_al al]
    exact iteF (q H1 s1)
theorem ok_two {f fL fO fS pd : Addr} {fd fdL fdO fdS : FuncData} (F : Fun K "product_of_two" "product_of_two" sTwo f fd) (FL : Fun K "letters_of" "letters_of" sLettersOf fL fdL) (bL : Binds K fdL ["text"] []) (gL : mg "letters_of" = some (.ref fL))
    (FO : Fun K "sign_of" "sign_of" sSignOf fO fdO) (bO : Binds K fdO ["text"] []) (gO : mg "sign_of" = some (.ref fO)) (FS : Fun K "signed" "signed" sSigned fS fdS) (bS : Binds K fdS ["turns", "letters"] []) (gS : mg "signed" = some (.ref fS))
    (gD : mg "PRODUCTS" = some (.ref pd)) (KD : ∀ a ∈ Al, ∀ b ∈ Al, KDct K w pd (txt [a, b]) (tv (pP a b))) (ml : mg "len" = none) (ms : mg "sum" = none) (mz : mg "zip" = none) : FnOk P w K mg base CX0 3 f fd ["one", "other"] spTwo := by
  have GL : FnOk P w K mg base CX0 1 fL fdL ["text"] spLetters := ok_letters FL
  have GO : FnOk P w K mg base CX0 2 fO fdO ["text"] spSignOf := ok_signof FO FL bL gL ml
  have GS : FnOk P w K mg base CX0 1 fS fdS ["turns", "letters"] spSigned := ok_signed FS
  refine F.ok scTwo (fun vs H Q E h => ?_) (fun cdv A outer s H vs Q E hr h => ?_)
  · obtain ⟨n, x, y, rfl, _⟩ := h
    rfl
  · obtain ⟨n, x, y, rfl, hn, hx, hy, q⟩ := h
    have hr1 : Room 1 _ := hr.mono (by decide)
    refine ⟨_, pss_cons (ps_setLc (i := 2) (own := [("left", 4), ("right", 5)]) (g := gTup K 2 (gCons (gName 4) (gCons (gName 5) gNil))) (tt := tYes) rfl scTwo.nd rfl rfl (sw_true rfl rfl rfl (by decide +kernel))
        (pi_zipS (by rfl) mz (pa_cons (pe_call GL hr1 (by rfl) gL FL.kp bL .nil pass0 (pa_cons (pv 0) pa_nil)) (pa_cons (pe_call GL hr1 (by rfl) gL FL.kp bL .nil pass0 (pa_cons (pv 1) pa_nil)) pa_nil)))
        (blkOk_by (own := [("left", 4), ("right", 5)]) (N := ["one", "other", "products", "turns", "left", "right", "text"]) (sc := defScope sTwo) (by decide +kernel))
        (fun _ _ _ _ _ => pg_tup rfl (pgs_cons (pg_name (i := 4) scTwo.nd rfl (Or.inl rfl)) (pgs_cons (pg_name (i := 5) scTwo.nd rfl (Or.inl rfl)) pgs_nil))) (fun _ _ _ _ _ => pts_nil)
        (fun _ _ _ _ _ => pe_ix (r := rIxD K w) ix_kdict (pe_glob (v := .ref pd) rfl gD rfl) (pe_op op_add_str (pv 4) (pv 5)) (fun _ _ => rfl)))
      (pss_cons (ps_set (i := 3) scTwo.nd rfl (.inl rfl) (pe_op op_add (pe_op op_add (pe_call GO hr (by rfl) gO FO.kp bO .nil pass0 (pa_cons (pv 0) pa_nil)) (pe_call GO hr (by rfl) gO FO.kp bO .nil pass0 (pa_cons (pv 1) pa_nil)))
        (pe_callB (cr_sum rfl) (by rfl) ms boot_sum (pa_cons (pe_lc (own := [("text", 6)]) (g := gName 6) (tt := tYes) rfl scTwo.nd (pi_list (pv 2)) (blkOk_by (own := [("text", 6)]) (N := ["one", "other", "products", "turns", "left", "right", "text"]) (sc := defScope sTwo) (by decide +kernel))
          (fun _ _ _ _ _ => pg_name (i := 6) scTwo.nd rfl (Or.inl rfl)) (fun _ _ _ _ _ => pts_nil) (fun _ _ _ _ _ => pe_call GO hr (by rfl) gO FO.kp bO .nil pass0 (pa_cons (pv 6) pa_nil))) pa_nil))))
      (pss_one (ps_ret (pe_call GS hr1 (by rfl) gS FS.kp bS .nil pass0 (pa_cons (pv 3) (pa_cons (pe_join pe_str (pe_lc (own := [("text", 6)]) (g := gName 6) (tt := tYes) rfl scTwo.nd (pi_list (pv 2)) (blkOk_by (own := [("text", 6)]) (N := ["one", "other", "products", "turns", "left", "right", "text"]) (sc := defScope sTwo) (by decide +kernel))
          (fun _ _ _ _ _ => pg_name (i := 6) scTwo.nd rfl (Or.inl rfl)) (fun _ _ _ _ _ => pts_nil) (fun _ _ _ _ _ => pe_call GL hr1 (by rfl) gL FL.kp bL .nil pass0 (pa_cons (pv 6) pa_nil)))) pa_nil)))))), ?_⟩
    obtain ⟨sx, lx, ax⟩ := hx.len
    obtain ⟨sy, ly, ay⟩ := hy.len
    have plen : (prodsL (lettersL x) (lettersL y)).length = n := by
      unfold prodsL
      rw [List.length_zipWith]; omega
    have pal := prods_al ax ay
    have short : ∀ z ∈ prodsL (lettersL x) (lettersL y), z.length ≤ 2 := fun z hz => by
      obtain ⟨a, ha, b, hb, rfl⟩ := pal z hz
      exact (p_form a ha b hb).2.2.2
    have at_i : ∀ {i : Nat} {v : V}, ((prodsL (lettersL x) (lettersL y)).map tv)[i]? = some v → ∃ z, (prodsL (lettersL x) (lettersL y))[i]? = some z ∧ v = tv z ∧ z.length ≤ 2 := by
      intro i v hv
      rw [List.getElem?_map] at hv
      cases ex : (prodsL (lettersL x) (lettersL y))[i]? with
      | none => rw [ex] at hv; cases hv
      | some z =>
        rw [ex] at hv
        exact ⟨z, rfl, (Option.some.inj hv).symm, short z (List.mem_of_getElem? ex)⟩
    have zx : x.length ≤ sizeLine := Nat.le_of_lt (small1000 (by omega))
    have zy : y.length ≤ sizeLine := Nat.le_of_lt (small1000 (by omega))
    refine ⟨_, rfl, x, rfl, zx, _, rfl, y, rfl, zy, lettersL x, lettersL y, rfl, fun D nD => ?_⟩
    refine lc_it walk_zipS (fun i H' => Same H H' ∧ H' D = some (.lst (((prodsL (lettersL x) (lettersL y)).take i).map tv))) ⟨same_upd nD, upd_same⟩ (fun _ _ _ _ => trivial) ?_ ?_
    · rintro i v H1 H2 hi ⟨s1, hD⟩ ⟨T, c, d, rfl, nT, rfl, hc, hd⟩
      have ec := prods_at hc hd
      have hca : c ∈ Al := ax c (List.mem_of_getElem? hc)
      have hda : d ∈ Al := ay d (List.mem_of_getElem? hd)
      refine ⟨T, _, rfl, .inl (.inl upd_same), rfl, _, _, rfl, _, _, rfl, rfl, rfl, ?_⟩
      refine ⟨_, rfl, _, rfl, _, _, rfl, rfl, by show 1 + 1 ≤ sizeLine; decide, pd, txt [c, d], _, rfl, congrArg V.str (txt_app [c] [d]), KD c hca d hda, ?_⟩
      refine ⟨_, (same_upd nT) _ _ hD, ?_, same_put (s1.trans (same_upd nT)) nD, ?_⟩
      · rw [List.length_map, List.length_take]
        exact small1000 (by omega)
      · rw [upd_same, List.take_succ, ec, List.map_append]
        rfl
    rintro H1 ⟨s1, hD⟩
    have efull : (prodsL (lettersL x) (lettersL y)).take (min (lettersL x).length (lettersL y).length) = prodsL (lettersL x) (lettersL y) := List.take_of_length_le (by omega)
    rw [efull] at hD
    have len : ((prodsL (lettersL x) (lettersL y)).map tv).length = n := by rw [List.length_map, plen]
    refine ⟨_, rfl, x, rfl, zx, _, rfl, y, rfl, zy, _, _, rfl, rfl, _, rfl, D, rfl, ⟨_, SqL.of hD⟩, fun D2 nD2 => ?_⟩
    refine lc_list (K := K) (a := D) (xs := (prodsL (lettersL x) (lettersL y)).map tv) (fun i H' => Same H1 H' ∧ H' D2 = some (.lst ((((prodsL (lettersL x) (lettersL y)).take i).map signL).map fun n : Nat => V.int n))) ⟨same_upd nD2, upd_same⟩ (fun i H' _ hv => SqL.of (hv.1 _ _ hD)) ?_ ?_
    · rintro i v H2 hv ⟨s2, hD2⟩
      obtain ⟨z, ez, rfl, hz⟩ := at_i hv
      have hi : i < (prodsL (lettersL x) (lettersL y)).length := (List.getElem?_eq_some_iff.mp ez).1
      refine ⟨rfl, ?_⟩
      refine ⟨_, rfl, z, rfl, Nat.le_of_lt (small1000 (by omega)), _, hD2, ?_, same_put s2 nD2, ?_⟩
      · rw [List.length_map, List.length_map, List.length_take]
        exact small1000 (by omega)
      · rw [upd_same, List.take_succ, ez, List.map_append, List.map_append]
        rfl
    rintro H2 ⟨s2, hD2⟩
    rw [len, ← plen, List.take_length] at hD2
    have hD3 : H2 D2 = some (.lst ((((prodsL (lettersL x) (lettersL y)).map signL).map fun n : Nat => (n : Int)).map V.int)) := by
      rw [hD2, List.map_map (f := fun n : Nat => (n : Int))]
      rfl
    refine ⟨D2, _, rfl, SqL.of hD3, _, _, rfl, rfl, _, rfl, ⟨_, rfl⟩, _, rfl, D, rfl, ⟨_, SqL.of (s2 _ _ hD)⟩, fun D4 nD4 => ?_⟩
    refine lc_list (K := K) (a := D) (xs := (prodsL (lettersL x) (lettersL y)).map tv) (fun i H' => Same H2 H' ∧ H' D4 = some (.lst ((((prodsL (lettersL x) (lettersL y)).take i).map lettersL).map tv))) ⟨same_upd nD4, upd_same⟩ (fun i H' _ hv => SqL.of (hv.1 _ _ (s2 _ _ hD))) ?_ ?_
    · rintro i v H3 hv ⟨s3, hD4⟩
      obtain ⟨z, ez, rfl, hz⟩ := at_i hv
      have hi : i < (prodsL (lettersL x) (lettersL y)).length := (List.getElem?_eq_some_iff.mp ez).1
      refine ⟨rfl, ?_⟩
      refine ⟨_, rfl, z, rfl, Nat.le_of_lt (small1000 (by omega)), _, hD4, ?_, same_put s3 nD4, ?_⟩
      · rw [List.length_map, List.length_map, List.length_take]
        exact small1000 (by omega)
      · rw [upd_same, List.take_succ, ez, List.map_append, List.map_append]
        rfl
    rintro H3 ⟨s3, hD4⟩
    rw [len, ← plen, List.take_length] at hD4
    have hD5 : H3 D4 = some (.lst ((((prodsL (lettersL x) (lettersL y)).map lettersL).map txt).map V.str)) := by
      rw [hD4, List.map_map (f := txt)]
      rfl
    have zl := zL_len (as := lettersL x) (bs := lettersL y) (by omega)
    refine ⟨Str.ofString "", D4, ((prodsL (lettersL x) (lettersL y)).map lettersL).map txt, rfl, rfl, .inl (SqL.of hD5), ?_, ?_⟩
    · rw [lens_txt, prods_letters _ _ ax ay, zl, txt_empty, txt_len]
      simp
      omega
    rw [join_txt, prods_letters _ _ ax ay, sum_int, prods_sign]
    refine ⟨_, zL (lettersL x) (lettersL y), rfl, small1000 (by omega), ?_⟩
    have e := q H3 ((s1.trans s2).trans s3)
    unfold two at e
    rw [Int.natCast_add, Int.natCast_add] at e
    exact e
end


end T23

namespace T23
open PySem PySem.Spec PyProof.Rows L2 Tm
abbrev sComm : Stmt := topS 15
abbrev sIden : Stmt := topS 16
theorem scComm : FnScope ["one", "other"] ["one", "other"] (defScope sComm) := ⟨rfl, rfl, rfl, by decide +kernel, rfl, by decide +kernel, by decide +kernel⟩
theorem scIden : FnScope ["size"] ["size"] (defScope sIden) := ⟨rfl, rfl, rfl, by decide +kernel, rfl, by decide +kernel, by decide +kernel⟩
section
variable {P : Program} {w : World} {K : PySem.W.Frag} {mg : Str → Option Value} {base : Heap}
theorem ok_mult {f fC fI fT fL fO fS pd : Addr} {fd fdC fdI fdT fdL fdO fdS : FuncData} {t : Tok} (F : Fun K "multiply" "multiply" sMult f fd) (FC : Fun K "check_string" "check_string" sChkS fC fdC) (bC : Binds K fdC ["text"] []) (gC : mg "check_string" = some (.ref fC))
    (FI : Fun K "is_string" "is_string" sIsStr fI fdI) (bI : Binds K fdI ["text"] []) (gI : mg "is_string" = some (.ref fI)) (FT : Fun K "product_of_two" "product_of_two" sTwo fT fdT) (bT : Binds K fdT ["one", "other"] []) (gT : mg "product_of_two" = some (.ref fT))
    (FL : Fun K "letters_of" "letters_of" sLettersOf fL fdL) (bL : Binds K fdL ["text"] []) (gL : mg "letters_of" = some (.ref fL))
    (FO : Fun K "sign_of" "sign_of" sSignOf fO fdO) (bO : Binds K fdO ["text"] []) (gO : mg "sign_of" = some (.ref fO)) (FS : Fun K "signed" "signed" sSigned fS fdS) (bS : Binds K fdS ["turns", "letters"] []) (gS : mg "signed" = some (.ref fS))
    (gA : mg "STRING_LETTERS" = some (.str (Str.ofString "1XZW") t)) (gD : mg "PRODUCTS" = some (.ref pd)) (KD : ∀ a ∈ Al, ∀ b ∈ Al, KDct K w pd (txt [a, b]) (tv (pP a b))) (ml : mg "len" = none) (ms : mg "sum" = none) (mz : mg "zip" = none) (ma : mg "all" = none) :
    FnR P w K mg base CX0 4 f spMult := by
  have GL : FnOk P w K mg base CX0 1 fL fdL ["text"] spLetters := ok_letters FL
  have GC : FnOk P w K mg base CX0 3 fC fdC ["text"] spChkS := ok_chks FC FI bI gI FL bL gL gA ma
  have GT : FnOk P w K mg base CX0 3 fT fdT ["one", "other"] spTwo := ok_two FT FL bL gL FO bO gO FS bS gS gD KD ml ms mz
  rcases F.ex with ⟨_, _, _, _, _, _, cdv, _, _, rfl, look, code⟩
  refine FnR.imp (StX.fn_star (ps := []) (pv := "strings") (sp := spMultT) (k := 3) look code scMult StX.cxUp_none ?bind ?body) ?imp
  case bind =>
    intro us rest h
    match us, rest, h with
    | [], [], _ => rfl
    | [], r :: rs, _ => rfl
  case imp =>
    rintro vs H Q E ⟨n, xss, rfl, hn, few, all, q⟩
    refine ⟨[], _, rfl, rfl, ?_, fun p np => ⟨p, n, xss, rfl, upd_same, hn, few, all, fun H' s' => q H' ((same_upd np).trans s')⟩⟩
    rw [List.length_map]
    exact Nat.le_of_lt (small1000 (by omega))
  case body =>
    intro A outer s H vs Q E hr h
    obtain ⟨p, n, xss, rfl, hp, hn, few, all, q⟩ := h
    have hr1 : Room 1 _ := hr.mono (by decide)
    refine ⟨_, PSs.nox (pss_cons (ps_for PassesOwn.never rfl (pi_tup (pv 0)) (pg_name (i := 1) scMult.nd rfl (.inl rfl)) (pss_one (ps_expr (pe_call GC hr (by rfl) gC FC.kp bC .nil pass0 (pa_cons (pv 1) pa_nil)))))
      (pss_cons (ps_if (pt_cmpR op_gt (pe_callB call_lenI (by rfl) ml PySem.boot_len (pa_cons (pe_setI (own := [("text", 1)]) (g := gName 1) rfl scMult.nd (pi_tup (pv 0)) (blkOk_by (own := [("text", 1)]) (N := ["strings", "text", "total"]) (sc := defScope sMult) (by decide +kernel))
          (fun _ _ _ _ _ => pg_name (i := 1) scMult.nd rfl (Or.inl rfl)) (fun _ _ _ _ _ => pe_callB call_len_str (by rfl) ml PySem.boot_len (pa_cons (pe_call GL hr1 (by rfl) gL FL.kp bL .nil pass0 (pa_cons (pv 1) pa_nil)) pa_nil))) pa_nil)) pe_int (nomark _)) pss_never pss_nil)
      (pss_cons (ps_if (pt_cmpR op_eq (pe_callB call_len_seq (by rfl) ml PySem.boot_len (pa_cons (pv 0) pa_nil)) pe_int (nomark _)) (pss_one (ps_ret pe_str)) pss_nil)
      (pss_cons (ps_set (i := 2) scMult.nd rfl (.inl rfl) (pe_ix ix_tup (pv 0) pe_int (fun _ _ => rfl)))
      (pss_cons (ps_for PassesOwn.never rfl (pi_tup (pe_slice sl_tup (pv 0) (po_some pe_int) po_none)) (pg_name (i := 1) scMult.nd rfl (.inl rfl)) (pss_one (ps_set (i := 2) scMult.nd rfl (.inl rfl) (pe_call GT hr (by rfl) gT FT.kp bT .nil pass0 (pa_cons (pv 2) (pa_cons (pv 1) pa_nil))))))
      (pss_one (ps_ret (pv 2)))))))), ?_⟩
    have len : (xss.map tv).length = xss.length := List.length_map ..
    have at_i : ∀ {i : Nat} {v : V}, (xss.map tv)[i]? = some v → ∃ x, xss[i]? = some x ∧ v = tv x ∧ Sn n x := by
      intro i v hv
      rw [List.getElem?_map] at hv
      cases ex : xss[i]? with
      | none => rw [ex] at hv; cases hv
      | some x =>
        rw [ex] at hv
        exact ⟨x, rfl, (Option.some.inj hv).symm, all x (List.mem_of_getElem? ex)⟩
    refine ⟨_, rfl, p, rfl, ⟨_, .inl (.inl hp)⟩, ?_⟩
    refine for_it (walk_tup (xs := xss.map tv)) (fun i σ H' => ∃ y, σ = [some (.ref p), y, none] ∧ Same H H') ⟨none, rfl, fun _ _ h => h⟩ (fun i σ H' _ ⟨_, _, s1⟩ => .inl (.inl (s1 _ _ hp))) ?_ ?_
    · rintro i v σ H1 H2 hi ⟨y, rfl, s1⟩ ⟨rfl, hv⟩
      obtain ⟨x, ex, rfl, hx⟩ := at_i hv
      obtain ⟨zx, lx, ax⟩ := hx.len
      exact ⟨_, rfl, x, rfl, by omega, ax, fun H3 s3 => ⟨_, rfl, s1.trans s3⟩⟩
    rintro σ H1 ⟨y, rfl, s1⟩
    refine ⟨_, rfl, p, rfl, ⟨_, .inl (.inl (s1 _ _ hp))⟩, fun D nD => ?_⟩
    refine setI_tup (K := K) (a := p) (xs := xss.map tv) (fun i H' => Same H1 H' ∧ ∃ (S : Int → Bool) (c : Nat), H' D = some (SetO w D S c) ∧ (∀ j, S j = decide (j = (n : Int) ∧ 0 < i)) ∧ c ≤ 1 ∧ (0 < i → c = 1) ∧ (i = 0 → c = 0))
      ⟨same_upd nD, _, 0, upd_same, fun j => (decide_eq_false (by omega)).symm, by omega, fun h => absurd h (Nat.lt_irrefl 0), fun _ => rfl⟩ (fun i H' _ hv => .inl (.inl (hv.1 _ _ (s1 _ _ hp)))) ?_ ?_
    · rintro i v H2 hv ⟨s2, S, c, hD, hS, c1, ci, c0⟩
      obtain ⟨x, ex, rfl, hx⟩ := at_i hv
      obtain ⟨zx, lx, ax⟩ := hx.len
      refine ⟨rfl, ?_⟩
      refine ⟨_, rfl, x, rfl, Nat.le_of_lt (small1000 (by omega)), _, rfl, by rw [txt_len]; exact Nat.le_of_lt (small1000 (by omega)), _, S, c, rfl, hD, by unfold scanBound; omega, same_put s2 nD, _, _, upd_same, ?_, ?_, ?_, ?_⟩
      all_goals (have ek : (((txt (lettersL x)).length : Nat) : Int) = (n : Int) := by rw [txt_len, lx])
      all_goals (have eS : S (((txt (lettersL x)).length : Nat) : Int) = decide (0 < i) := by rw [hS, ek]; by_cases z : 0 < i <;> simp [z])
      · intro j
        show (S j || decide (j = (((txt (lettersL x)).length : Nat) : Int))) = _
        rw [hS, ek]
        by_cases z : j = (n : Int) <;> simp [z]
      · rw [eS]
        by_cases z : 0 < i
        · rw [decide_eq_true z, if_pos rfl]; exact c1
        · rw [decide_eq_false z, if_neg Bool.false_ne_true, c0 (by omega)]
          exact Nat.le_refl _
      · intro _
        rw [eS]
        by_cases z : 0 < i
        · rw [decide_eq_true z, if_pos rfl]; exact ci z
        · rw [decide_eq_false z, if_neg Bool.false_ne_true, c0 (by omega)]
      · intro z
        omega
    rintro H2 ⟨s2, S, c, hD, hS, c1, ci, c0⟩
    have hp2 : H2 p = some (.tup (xss.map tv)) := s2 _ _ (s1 _ _ hp)
    have no : decide (((1 : Int)) < ((c : Nat) : Int)) = false := decide_eq_false (by omega)
    refine ⟨D, S, c, rfl, hD, by omega, _, _, rfl, rfl, _, rfl, ?_⟩
    rw [no]
    refine iteF ?_
    refine ⟨_, rfl, p, _, rfl, .inr (.inl (.inl hp2)), rfl, _, rfl, ?_⟩
    cases xss with
    | nil =>
      refine iteT ?_
      have e := q H2 (s1.trans s2)
      unfold multL tv at e
      rw [← txt_empty] at e
      exact e
    | cons x0 r =>
      have nz : decide (V.int ((((x0 :: r).map tv).length : Nat) : Int) = V.int 0) = false := decide_eq_false fun z => by
        have z2 := V.int.inj z
        rw [List.length_map, List.length_cons] at z2
        omega
      rw [nz]
      refine iteF ?_
      refine ⟨_, rfl, p, _, _, tv x0, rfl, rfl, .inl (.inl hp2), atI_nat (j := 0) (xs := (x0 :: r).map tv) rfl, ?_⟩
      have whole : ¬ (HT.sIx ((x0 :: r).map tv).length 0 (some 1) = 0 ∧ HT.sIx ((x0 :: r).map tv).length ((x0 :: r).map tv).length none = ((x0 :: r).map tv).length) := by
        rintro ⟨z, _⟩
        have z2 : HT.sIx ((x0 :: r).map tv).length 0 (some ((1 : Nat) : Int)) = 0 := z
        rw [HT.sIx_nat, List.length_map, List.length_cons] at z2
        omega
      refine ⟨_, rfl, 1, rfl, p, _, rfl, .inl (.inl hp2), whole, fun o no => ?_⟩
      have ecut : cutV ((x0 :: r).map tv) (some 1) none = r.map tv := cutV_drop ((x0 :: r).map tv) 1
      rw [ecut]
      refine ⟨o, rfl, ⟨_, .inl (.inl upd_same)⟩, ?_⟩
      have h0 : Sn n x0 := all x0 List.mem_cons_self
      have hr' : ∀ y ∈ r, Sn n y := fun y hy => all y (List.mem_cons_of_mem _ hy)
      have lenr : (r.map tv).length = r.length := List.length_map ..
      refine for_it (walk_tup (xs := r.map tv)) (fun i σ H' => ∃ y, σ = [some (.ref p), y, some (tv ((r.take i).foldl two x0))] ∧ Same (upd H2 o (.tup (r.map tv))) H') ⟨_, rfl, fun _ _ h => h⟩ (fun i σ H' _ ⟨_, _, s3⟩ => .inl (.inl (s3 _ _ upd_same))) ?_ ?_
      · rintro i v σ H3 H4 hi ⟨y, rfl, s3⟩ ⟨rfl, hv⟩
        rw [lenr] at hi
        rw [List.getElem?_map, List.getElem?_eq_getElem hi] at hv
        have ev : v = tv r[i] := (Option.some.inj hv).symm
        subst ev
        have part : Sn n ((r.take i).foldl two x0) := Sn.fold h0 fun y hy => hr' y (List.mem_of_mem_take hy)
        refine ⟨_, rfl, _, rfl, n, _, r[i], rfl, hn, part, hr' _ (List.getElem_mem hi), fun H5 s5 => ⟨some (tv r[i]), ?_, s3.trans s5⟩⟩
        rw [List.take_succ_eq_append_getElem hi, fold_snoc]
        rfl
      · rintro σ H3 ⟨y, rfl, s3⟩
        rw [lenr, List.take_length]
        exact ⟨_, rfl, q H3 ((s1.trans s2).trans ((same_upd no).trans s3))⟩
theorem ok_comm {f fM : Addr} {fd fdM : FuncData} (F : Fun K "commute" "commute" sComm f fd) (GM : FnR P w K mg base CX0 4 fM spMult) (kM : PySem.W.keepIn K (.ref fM) = true) (gM : mg "multiply" = some (.ref fM)) : FnOk P w K mg base CX0 5 f fd ["one", "other"] spComm := by
  refine F.ok scComm (fun vs H Q E h => ?_) (fun cdv A outer s H vs Q E hr h => ?_)
  · obtain ⟨n, x, y, rfl, _⟩ := h
    rfl
  · obtain ⟨n, x, y, rfl, hn, hx, hy, q⟩ := h
    refine ⟨_, pss_one (ps_ret (pe_cmpR op_eq (pe_place GM hr kM (by rfl) gM pass0 (pa_cons (pv 0) (pa_cons (pv 1) pa_nil))) (pe_place GM hr kM (by rfl) gM pass0 (pa_cons (pv 1) (pa_cons (pv 0) pa_nil))) (nomark _))), ?_⟩
    have both : ∀ {a b : List Nat}, Sn n a → Sn n b → ∀ z ∈ [a, b], Sn n z := fun ha hb z hz => by
      rcases List.mem_cons.mp hz with rfl | hz
      · exact ha
      · rw [List.mem_singleton.mp hz]; exact hb
    refine ⟨_, rfl, _, rfl, n, [x, y], rfl, hn, by show 2 ≤ 20; decide, both hx hy, fun H1 s1 => ⟨_, rfl, _, rfl, n, [y, x], rfl, hn, by show 2 ≤ 20; decide, both hy hx, fun H2 s2 => ⟨rfl, ?_⟩⟩⟩
    have e : decide (tv (multL [x, y]) = tv (multL [y, x])) = cmB x y := by
      unfold cmB
      apply decide_eq_decide.mpr
      exact ⟨fun z => txt_inj (V.str.inj z), fun z => congrArg tv z⟩
    rw [e]
    exact q H2 (s1.trans s2)
theorem ok_iden {f : Addr} {fd : FuncData} (F : Fun K "identity" "identity" sIden f fd) : FnOk P w K mg base CX0 1 f fd ["size"] spIden := by
  refine F.ok scIden (fun vs H Q E h => ?_) (fun cdv A outer s H vs Q E hr h => ?_)
  · obtain ⟨n, rfl, _⟩ := h
    rfl
  · obtain ⟨n, rfl, hn, q⟩ := h
    refine ⟨_, pss_one (ps_ret (pe_op op_times pe_str (pv 0))), ?_⟩
    exact ⟨_, rfl, 49, n, (by decide +kernel), rfl, by omega, q⟩
end


end T23

namespace T23
open PySem PySem.Spec PyProof.Rows L2 Tm
abbrev sLString : Stmt := topS 23
abbrev sLaw : Stmt := topS 24
theorem scLString : FnScope ["_law_bag_here", "_law_size", "_law_k"] ["_law_bag_here", "_law_size"] (defScope sLString) := ⟨rfl, rfl, rfl, by decide +kernel, rfl, by decide +kernel, by decide +kernel⟩
theorem scLaw : FnScope ["_law_script", "_law_bag_here", "_law_turn", "_law_size", "_law_one", "_law_two", "_law_three", "_law_whole", "_law_left", "_law_right", "_law_square", "_law_k"] ["_law_script"] (defScope sLaw) := ⟨rfl, rfl, rfl, by decide +kernel, rfl, by decide +kernel, by decide +kernel⟩
section
variable {P : Program} {w : World} {K : PySem.W.Frag} {mg : Str → Option Value} {base : Heap}
theorem ok_lstring {f fP fO fS : Addr} {fd fdP fdO fdS : FuncData} (F : Fun K "_law_string" "_law_string" sLString f fd) (FP : Fun K "_law_pull" "_law_pull" sPull fP fdP) (bP : Binds K fdP ["_law_bag_here", "_law_many"] []) (gP : mg "_law_pull" = some (.ref fP))
    (FO : Fun K "_law_of" "_law_of" sOf fO fdO) (bO : Binds K fdO ["_law_bag_here", "_law_things"] []) (gO : mg "_law_of" = some (.ref fO)) (FS : Fun K "_law_signed" "_law_signed" sLSigned fS fdS) (bS : Binds K fdS ["_law_mturned", "_law_body_here"] []) (gS : mg "_law_signed" = some (.ref fS))
    (ml : mg "len" = none) (mr : mg "range" = none) : FnOk P w K mg base CX0 3 f fd ["_law_bag_here", "_law_size"] spString := by
  have GP : FnOk P w K mg base CX0 1 fP fdP ["_law_bag_here", "_law_many"] spPull := ok_pull FP ml
  have GO : FnOk P w K mg base CX0 2 fO fdO ["_law_bag_here", "_law_things"] (spOf K) := ok_of FO FP bP gP ml
  have GS : FnOk P w K mg base CX0 1 fS fdS ["_law_mturned", "_law_body_here"] spLSigned := ok_lsigned FS
  refine F.ok scLString (fun vs H Q E h => ?_) (fun cdv A outer s H vs Q E hr h => ?_)
  · obtain ⟨b, l, n, rfl, _⟩ := h
    rfl
  · obtain ⟨b, l, n, rfl, B0, hn, q⟩ := h
    have hr1 : Room 1 _ := hr.mono (by decide)
    refine ⟨_, pss_one (ps_ret (pe_call GS hr1 (by rfl) gS FS.kp bS .nil pass0 (pa_cons (pe_call GP hr1 (by rfl) gP FP.kp bP .nil pass0 (pa_cons (pv 0) (pa_cons pe_int pa_nil))) (pa_cons (pe_join pe_str (pe_lc (own := [("_law_k", 2)]) (g := gName 2) (tt := tYes) rfl scLString.nd (pi_range1 (by rfl) mr (pa_cons (pv 1) pa_nil)) (blkOk_by (own := [("_law_k", 2)]) (N := ["_law_bag_here", "_law_size", "_law_k"]) (sc := defScope sLString) (by decide +kernel))
        (fun _ _ _ _ _ => pg_name (i := 2) scLString.nd rfl (Or.inl rfl)) (fun _ _ _ _ _ => pts_nil) (fun _ _ _ _ _ => (pe_call GO hr (by rfl) gO FO.kp bO .nil pass0 (pa_cons (pv 0) (pa_cons pe_str pa_nil)))))) pa_nil)))), ?_⟩
    refine ⟨_, rfl, b, l, 2, rfl, B0, by decide, by decide, fun J d kj BJ d0 d1 => ?_⟩
    refine ⟨⟨_, rfl⟩, _, rfl, _, rfl, by omega, by omega, fun D nD => ?_⟩
    have nDb : D ≠ b := BJ.nb nD
    refine lc_range (lo := 0) (n := ((n : Nat) : Int).toNat) (fun i H' => Kp b J H' ∧ Bag H' b l ∧ ∃ cs : List Nat, H' D = some (.lst (cs.map sig)) ∧ cs.length = i ∧ Al4 cs)
      ⟨Kp.new nD, BJ.new nD, [], upd_same, rfl, fun c hc => absurd hc List.not_mem_nil⟩ ?_ ?_
    · rintro j H' hj ⟨kp, B', cs, hD, hlen, hmem⟩
      refine ⟨rfl, ?_⟩
      refine ⟨_, rfl, b, l, _, (five.map sig), rfl, B', .inr ⟨_, rfl, by rw [txt_five, txt_len]; decide, by rw [txt_five, txt_cps]⟩, by decide, by decide, fun H2 x kp2 B2 hx => ?_⟩
      obtain ⟨c, hc, rfl⟩ := List.mem_map.mp hx
      have hcA : c ∈ Al := (show ∀ c ∈ five, c ∈ Al by decide) c hc
      refine ⟨_, kp2 _ _ nDb hD, by rw [List.length_map, hlen]; exact small1000 (by omega), (kp.trans kp2).put nD, B2.put nDb (BJ.nl nD), cs ++ [c], ?_, by rw [List.length_append, hlen]; rfl, ?_⟩
      · rw [upd_same, List.map_append]
        rfl
      · intro c2 h2
        rcases List.mem_append.mp h2 with h2 | h2
        · exact hmem _ h2
        · rw [List.mem_singleton.mp h2]; exact hcA
    rintro H7 ⟨k7, B7, cs, hD7, hcl, hcm⟩
    have hu : H7 D = some (.lst ((cs.map fun c => txt [c]).map V.str)) := by
      rw [hD7, List.map_map]
      rfl
    refine ⟨Str.ofString "", D, cs.map (fun c => txt [c]), rfl, rfl, .inl (SqL.of hu), ?_, ?_⟩
    · rw [len_ones, txt_empty, txt_len]; simp; omega
    rw [join_sigs]
    refine ⟨_, cs, rfl, small1000 (by omega), ?_⟩
    rw [signed_wd]
    exact q H7 _ (kj.trans k7) B7 ⟨_, cs, rfl, by omega, hcm⟩
set_option maxHeartbeats 4000000 in
theorem ok_law {f fB fP fO fS fY fG fL fN fE fI fK fT fM fC fD pd : Addr} {fd fdB fdP fdO fdS fdY fdG fdL fdN fdE fdI fdK fdT fdM fdC fdD : FuncData} {tk : Tok} (F : Fun K "law" "law" sLaw f fd)
    (FB : Fun K "_law_bag" "_law_bag" sBag fB fdB) (bB : Binds K fdB ["_law_script"] []) (gB : mg "_law_bag" = some (.ref fB))
    (FP : Fun K "_law_pull" "_law_pull" sPull fP fdP) (bP : Binds K fdP ["_law_bag_here", "_law_many"] []) (gP : mg "_law_pull" = some (.ref fP))
    (FO : Fun K "_law_of" "_law_of" sOf fO fdO) (bO : Binds K fdO ["_law_bag_here", "_law_things"] []) (gO : mg "_law_of" = some (.ref fO))
    (FS : Fun K "_law_signed" "_law_signed" sLSigned fS fdS) (bS : Binds K fdS ["_law_mturned", "_law_body_here"] []) (gS : mg "_law_signed" = some (.ref fS))
    (FY : Fun K "_law_body" "_law_body" sLBody fY fdY) (bY : Binds K fdY ["_law_text"] []) (gY : mg "_law_body" = some (.ref fY))
    (FG : Fun K "_law_string" "_law_string" sLString fG fdG) (bG : Binds K fdG ["_law_bag_here", "_law_size"] []) (gG : mg "_law_string" = some (.ref fG))
    (FL : Fun K "letters_of" "letters_of" sLettersOf fL fdL) (bL : Binds K fdL ["text"] []) (gL : mg "letters_of" = some (.ref fL))
    (FN : Fun K "sign_of" "sign_of" sSignOf fN fdN) (bN : Binds K fdN ["text"] []) (gN : mg "sign_of" = some (.ref fN))
    (FE : Fun K "signed" "signed" sSigned fE fdE) (bE : Binds K fdE ["turns", "letters"] []) (gE : mg "signed" = some (.ref fE))
    (FI : Fun K "is_string" "is_string" sIsStr fI fdI) (bI : Binds K fdI ["text"] []) (gI : mg "is_string" = some (.ref fI))
    (FK : Fun K "check_string" "check_string" sChkS fK fdK) (bK : Binds K fdK ["text"] []) (gK : mg "check_string" = some (.ref fK))
    (FT : Fun K "product_of_two" "product_of_two" sTwo fT fdT) (bT : Binds K fdT ["one", "other"] []) (gT : mg "product_of_two" = some (.ref fT))
    (FM : Fun K "multiply" "multiply" sMult fM fdM) (gM : mg "multiply" = some (.ref fM))
    (FC : Fun K "commute" "commute" sComm fC fdC) (bC : Binds K fdC ["one", "other"] []) (gC : mg "commute" = some (.ref fC))
    (FD : Fun K "identity" "identity" sIden fD fdD) (bD : Binds K fdD ["size"] []) (gD : mg "identity" = some (.ref fD))
    (gA : mg "STRING_LETTERS" = some (.str (Str.ofString "1XZW") tk)) (gD2 : mg "PRODUCTS" = some (.ref pd)) (KD : ∀ a ∈ Al, ∀ b ∈ Al, KDct K w pd (txt [a, b]) (tv (pP a b)))
    (ml : mg "len" = none) (ms : mg "sum" = none) (mz : mg "zip" = none) (ma : mg "all" = none) (mli : mg "list" = none) (mr : mg "range" = none) : FnOk P w K mg base CX0 6 f fd ["_law_script"] (spLaw K) := by
  have GB : FnOk P w K mg base CX0 1 fB fdB ["_law_script"] (spBag K) := ok_bag FB mli
  have GP : FnOk P w K mg base CX0 1 fP fdP ["_law_bag_here", "_law_many"] spPull := ok_pull FP ml
  have GS : FnOk P w K mg base CX0 1 fS fdS ["_law_mturned", "_law_body_here"] spLSigned := ok_lsigned FS
  have GY : FnOk P w K mg base CX0 1 fY fdY ["_law_text"] spLBody := ok_lbody FY
  have GG : FnOk P w K mg base CX0 3 fG fdG ["_law_bag_here", "_law_size"] spString := ok_lstring FG FP bP gP FO bO gO FS bS gS ml mr
  have GM : FnR P w K mg base CX0 4 fM spMult := ok_mult FM FK bK gK FI bI gI FT bT gT FL bL gL FN bN gN FE bE gE gA gD2 KD ml ms mz ma
  have GC : FnOk P w K mg base CX0 5 fC fdC ["one", "other"] spComm := ok_comm (fdM := fdM) FC GM FM.kp gM
  have GD : FnOk P w K mg base CX0 1 fD fdD ["size"] spIden := ok_iden FD
  refine F.ok scLaw (fun vs H Q E h => ?_) (fun cdv A outer s H vs Q E hr h => ?_)
  · obtain ⟨a, ns, rfl, _⟩ := h
    rfl
  · obtain ⟨a, ns, rfl, ha, hn, qq⟩ := h
    have hr4 : Room 4 _ := hr.mono (by decide)
    have hr3 : Room 3 _ := hr.mono (by decide)
    have hr1 : Room 1 _ := hr.mono (by decide)
    refine ⟨_, pss_cons (ps_set (i := 1) scLaw.nd rfl (.inr rfl) (pe_call GB hr1 (by rfl) gB FB.kp bB .nil pass0 (pa_cons (pv 0) pa_nil)))
      (pss_cons (ps_for PassesOwn.never rfl (pi_range1 (by rfl) mr (pa_cons pe_int pa_nil)) (pg_name (i := 2) scLaw.nd rfl (.inl rfl))
        (pss_cons (ps_set (i := 3) scLaw.nd rfl (.inr rfl) (pe_call GP hr1 (by rfl) gP FP.kp bP .nil pass0 (pa_cons (pv 1) (pa_cons pe_int pa_nil))))
        (pss_cons (ps_asg (pe_lc (own := [("_law_k", 11)]) (g := gName 11) (tt := tYes) rfl scLaw.nd (pi_range1 (by rfl) mr (pa_cons pe_int pa_nil)) (blkOk_by (own := [("_law_k", 11)]) (N := ["_law_script", "_law_bag_here", "_law_turn", "_law_size", "_law_one", "_law_two", "_law_three", "_law_whole", "_law_left", "_law_right", "_law_square", "_law_k"]) (sc := defScope sLaw) (by decide +kernel))
            (fun _ _ _ _ _ => pg_name (i := 11) scLaw.nd rfl (Or.inl rfl)) (fun _ _ _ _ _ => pts_nil) (fun _ _ _ _ _ => (pe_call GG hr3 (by rfl) gG FG.kp bG .nil pass0 (pa_cons (pv 1) (pa_cons (pv 3) pa_nil))))) (pg_lst rfl (pgs_cons (pg_name (i := 4) scLaw.nd rfl (.inl rfl)) (pgs_cons (pg_name (i := 5) scLaw.nd rfl (.inl rfl)) (pgs_cons (pg_name (i := 6) scLaw.nd rfl (.inl rfl)) pgs_nil)))))
        (pss_cons (ps_set (i := 7) scLaw.nd rfl (.inl rfl) (pe_place GM hr4 FM.kp (by rfl) gM pass0 (pa_cons (pv 4) (pa_cons (pv 5) (pa_cons (pv 6) pa_nil)))))
        (pss_cons (ps_if (PW.pt (pw_or (pt_cmpR op_ne (pe_place GM hr4 FM.kp (by rfl) gM pass0 (pa_cons (pe_place GM hr4 FM.kp (by rfl) gM pass0 (pa_cons (pv 4) (pa_cons (pv 5) pa_nil))) (pa_cons (pv 6) pa_nil))) (pv 7) (nomark _)) (pw_or1 (pt_cmpR op_ne (pe_place GM hr4 FM.kp (by rfl) gM pass0 (pa_cons (pv 4) (pa_cons (pe_place GM hr4 FM.kp (by rfl) gM pass0 (pa_cons (pv 5) (pa_cons (pv 6) pa_nil))) pa_nil))) (pv 7) (nomark _))))) pss_never pss_nil)
        (pss_cons (ps_par (i := 8) (j := 9) rfl scLaw.nd rfl rfl (by decide) rfl rfl (pa_cons (pe_place GM hr4 FM.kp (by rfl) gM pass0 (pa_cons (pv 4) (pa_cons (pv 5) pa_nil))) (pa_cons (pe_place GM hr4 FM.kp (by rfl) gM pass0 (pa_cons (pv 5) (pa_cons (pv 4) pa_nil))) pa_nil)) rfl)
        (pss_cons (ps_if (PW.pt (pw_or (pt_cmpR op_ne (pe_call GY hr1 (by rfl) gY FY.kp bY .nil pass0 (pa_cons (pv 8) pa_nil)) (pe_call GY hr1 (by rfl) gY FY.kp bY .nil pass0 (pa_cons (pv 9) pa_nil)) (nomark _)) (pw_or1 (pt_cmpR op_ne (pe_call GC hr (by rfl) gC FC.kp bC .nil pass0 (pa_cons (pv 4) (pa_cons (pv 5) pa_nil))) (pe_cmpR op_eq (pv 8) (pv 9) (nomark _)) (nomark _))))) pss_never pss_nil)
        (pss_cons (ps_set (i := 10) scLaw.nd rfl (.inl rfl) (pe_place GM hr4 FM.kp (by rfl) gM pass0 (pa_cons (pv 4) (pa_cons (pv 4) pa_nil))))
        (pss_cons (ps_if (PW.pt (pw_or (pt_cmpR op_ne (pe_call GY hr1 (by rfl) gY FY.kp bY .nil pass0 (pa_cons (pv 10) pa_nil)) (pe_call GD hr1 (by rfl) gD FD.kp bD .nil pass0 (pa_cons (pv 3) pa_nil)) (nomark _)) (pw_or1 (pt_cmpR op_ne (pv 10) (pe_call GS hr1 (by rfl) gS FS.kp bS .nil pass0 (pa_cons (pe_m1 PySem.F.slot_str_count PySem.F.type_str_count mt_count (pv 4) pe_str) (pa_cons (pe_op op_times pe_str (pv 3)) pa_nil))) (nomark _))))) pss_never pss_nil)
        (pss_cons (ps_if (PW.pt (pw_or (pt_cmpR op_ne (pe_place GM hr4 FM.kp (by rfl) gM pass0 (pa_cons (pv 4) (pa_cons (pe_call GD hr1 (by rfl) gD FD.kp bD .nil pass0 (pa_cons (pv 3) pa_nil)) pa_nil))) (pv 4) (nomark _)) (pw_or1 (pt_cmpR op_ne (pe_place GM hr4 FM.kp (by rfl) gM pass0 (pa_cons (pv 10) (pa_cons (pv 4) (pa_cons (pv 4) pa_nil)))) (pe_call GD hr1 (by rfl) gD FD.kp bD .nil pass0 (pa_cons (pv 3) pa_nil)) (nomark _))))) pss_never pss_nil)
        (pss_one (ps_if (pt_cmpR op_ne (pe_call GC hr (by rfl) gC FC.kp bC .nil pass0 (pa_cons (pv 4) (pa_cons (pe_place GM hr4 FM.kp (by rfl) gM pass0 (pa_cons (pv 5) (pa_cons (pv 6) pa_nil))) pa_nil))) (pe_cmpR op_eq (pe_call GC hr (by rfl) gC FC.kp bC .nil pass0 (pa_cons (pv 4) (pa_cons (pv 5) pa_nil))) (pe_call GC hr (by rfl) gC FC.kp bC .nil pass0 (pa_cons (pv 4) (pa_cons (pv 6) pa_nil))) (nomark _)) (nomark _)) pss_never pss_nil))))))))))))
      (pss_one (ps_ret pe_bl))), ?_⟩
    refine ⟨_, rfl, a, ns, rfl, ha, fun H0 b l s0 nb nl B0 => ?_⟩
    refine ⟨8, rfl, by decide, by decide, ?_⟩
    refine for_range (lo := 0) (n := 8) (fun i σ H' => ∃ y2 y3 y4 y5 y6 y7 y8 y9 y10 y11 : Option V, σ = [some (.ref a), some (.ref b), y2, y3, y4, y5, y6, y7, y8, y9, y10, y11] ∧ Bag H' b l) ⟨none, none, none, none, none, none, none, none, none, none, rfl, B0⟩ ?_ ?_
    · rintro i σ H1 hi ⟨y2, y3, y4, y5, y6, y7, y8, y9, y10, y11, rfl, B1⟩
      refine ⟨_, rfl, b, l, 21, rfl, B1, by decide, by decide, fun H2 d k2 B2 d0 d1 => ?_⟩
      obtain ⟨n, rfl⟩ : ∃ n : Nat, d = ((n : Nat) : Int) := ⟨d.toNat, by omega⟩
      have hn : n ≤ 900 := by omega
      refine ⟨3, rfl, by decide, by decide, fun D nD => ?_⟩
      have nDb : D ≠ b := B2.nb nD
      refine lc_range (lo := 0) (n := 3) (fun i H' => Bag H' b l ∧ ∃ xss : List (List Nat), H' D = some (.lst (xss.map tv)) ∧ xss.length = i ∧ ∀ x ∈ xss, Sn n x)
        ⟨B2.new nD, [], upd_same, rfl, fun x hx => absurd hx List.not_mem_nil⟩ ?_ ?_
      · rintro j H' hj ⟨B', xss, hD, hlen, hall⟩
        refine ⟨rfl, ?_⟩
        refine ⟨_, rfl, _, rfl, b, l, n, rfl, B', hn, fun H3 x k3 B3 hx => ?_⟩
        refine ⟨_, k3 _ _ nDb hD, by rw [List.length_map, hlen]; exact small1000 (by omega), B3.put nDb (B2.nl nD), xss ++ [x], ?_, by rw [List.length_append, hlen]; rfl, ?_⟩
        · rw [upd_same, List.map_append]
          rfl
        · intro z hz
          rcases List.mem_append.mp hz with hz | hz
          · exact hall _ hz
          · rw [List.mem_singleton.mp hz]; exact hx
      rintro H3 ⟨B3, xss, hD, hlen, hall⟩
      match xss, hlen with
      | [x, y, z], _ =>
      have hx := hall x (by simp)
      have hy := hall y (by simp)
      have hz := hall z (by simp)
      have lx := hx.len.1
      clear hall
      refine ⟨D, _, rfl, SqL.of hD, rfl, _, _, rfl, _, _, rfl, _, _, rfl, rfl, ?_⟩
      have two_ : ∀ {a c : List Nat}, Sn n a → Sn n c → ∀ u ∈ [a, c], Sn n u := fun ha hc u hu => by
        rcases List.mem_cons.mp hu with rfl | hu
        · exact ha
        · rw [List.mem_singleton.mp hu]; exact hc
      have three_ : ∀ {a c e : List Nat}, Sn n a → Sn n c → Sn n e → ∀ u ∈ [a, c, e], Sn n u := fun ha hc he u hu => by
        rcases List.mem_cons.mp hu with rfl | hu
        · exact ha
        · exact two_ hc he u hu
      have hxy := hx.two hy
      have hyx := hy.two hx
      have hyz := hy.two hz
      have hxx := hx.two hx
      have lone : ∀ {u : List Nat}, Sn n u → u.length ≤ 1000 := fun hu => by have := hu.len.1; omega
      have f2 : 2 ≤ 20 := by decide
      have f3 : 3 ≤ 20 := by decide
      -- the product of three
      refine ⟨_, rfl, _, rfl, _, rfl, n, [x, y, z], rfl, hn, f3, three_ hx hy hz, fun H4 s4 => ?_⟩
      -- grouping
      refine ⟨_, rfl, _, rfl, n, [x, y], rfl, hn, f2, two_ hx hy, fun H5 s5 => ⟨_, rfl, n, [two x y, z], rfl, hn, f2, two_ hxy hz, fun H6 s6 => ⟨_, rfl, rfl, _, rfl, ifF (ne_no rfl) ?_⟩⟩⟩
      refine ⟨_, rfl, _, rfl, _, rfl, n, [y, z], rfl, hn, f2, two_ hy hz, fun H7 s7 => ⟨n, [x, two y z], rfl, hn, f2, two_ hx hyz, fun H8 s8 => ⟨_, rfl, rfl, _, rfl, ifF (ne_no (congrArg tv (two_assoc hx hy hz).symm)) ?_⟩⟩⟩
      -- both orders
      refine ⟨_, rfl, _, rfl, n, [x, y], rfl, hn, f2, two_ hx hy, fun H9 s9 => ⟨_, rfl, _, rfl, n, [y, x], rfl, hn, f2, two_ hy hx, fun H10 s10 => ⟨_, _, rfl, ?_⟩⟩⟩
      refine ⟨_, rfl, two x y, rfl, lone hxy, _, rfl, two y x, rfl, lone hyx, rfl, _, rfl, ifF (ne_no (congrArg tv (two_body hx hy))) ?_⟩
      refine ⟨_, rfl, _, rfl, n, x, y, rfl, hn, hx, hy, fun H11 s11 => ⟨_, rfl, _, rfl, rfl, rfl, _, rfl, ifF (ne_no (congrArg V.bl ?_)) ?_⟩⟩
      · unfold cmB
        apply decide_eq_decide.mpr
        exact ⟨fun e => congrArg tv e, fun e => txt_inj (V.str.inj e)⟩
      -- the square
      refine ⟨_, rfl, _, rfl, n, [x, x], rfl, hn, f2, two_ hx hx, fun H12 s12 => ?_⟩
      refine ⟨_, rfl, two x x, rfl, lone hxx, _, rfl, n, rfl, hn, rfl, _, rfl, ifF (ne_no (congrArg tv (self_body hx))) ?_⟩
      refine ⟨_, rfl, _, rfl, ⟨_, rfl⟩, _, _, rfl, rfl, _, rfl, 49, n, (by decide +kernel), rfl, by omega, Txt.count (txt x) (Str.ofString "W"), List.replicate n 49, rfl, by rw [List.length_replicate]; exact small1000 (by omega), rfl, _, rfl, ifF (ne_no ?_) ?_⟩
      · have ew : Str.ofString "W" = ⟨#[87]⟩ := by decide +kernel
        rw [ew, count_txt]
        exact congrArg tv (self_sign hx)
      -- one is the string of 1, and the square of the square
      refine ⟨_, rfl, _, rfl, n, rfl, hn, n, [x, List.replicate n 49], rfl, hn, f2, two_ hx (Sn.one n), fun H13 s13 => ⟨_, rfl, rfl, _, rfl, ifF (ne_no (congrArg tv (two_one hx))) ?_⟩⟩
      refine ⟨_, rfl, _, rfl, _, rfl, n, [two x x, x, x], rfl, hn, f3, three_ hxx hx hx, fun H14 s14 => ⟨_, rfl, n, rfl, hn, rfl, _, rfl, ifF (ne_no (congrArg tv (two_four hx))) ?_⟩⟩
      -- commuting is linear
      refine ⟨_, rfl, _, rfl, _, rfl, n, [y, z], rfl, hn, f2, two_ hy hz, fun H15 s15 => ⟨n, x, two y z, rfl, hn, hx, hyz, fun H16 s16 => ?_⟩⟩
      refine ⟨_, rfl, _, rfl, n, x, y, rfl, hn, hx, hy, fun H17 s17 => ⟨_, rfl, _, rfl, n, x, z, rfl, hn, hx, hz, fun H18 s18 => ⟨rfl, rfl, _, rfl, ifF (ne_no (congrArg V.bl ?_)) ?_⟩⟩⟩
      · rw [cm_lin hx hy hz]
        cases cmB x y <;> cases cmB x z <;> rfl
      have all := s4.trans (s5.trans (s6.trans (s7.trans (s8.trans (s9.trans (s10.trans (s11.trans (s12.trans (s13.trans (s14.trans (s15.trans (s16.trans (s17.trans s18)))))))))))))
      exact ⟨_, _, _, _, _, _, _, _, _, _, rfl, B3.same all⟩
    · rintro σ H1 ⟨y2, y3, y4, y5, y6, y7, y8, y9, y10, y11, rfl, B1⟩
      exact qq _
end


end T23

namespace T23
open PySem PySem.Spec PyProof.Rows L2 Tm
theorem all_mk {l : PySem.W.OpenLaw} {w : World} {K : PySem.W.Frag} {h : Heap} {mg : Str → Option Value} {fa f1 f2 f3 f4 f5 f6 f7 f8 f9 f10 f11 f12 f13 f14 f15 f16 : Addr} (X : K.In h) (G : h.Ns mainGlobals mg) (hfa : mg "law" = some (.ref fa))
    {pd : Addr} {es : Array DictEntry} {dn : Nat} {ta t0 t1 t2 t3 t4 t5 t6 t7 t8 t9 t10 t11 t12 t13 t14 t15 : Tok} {od1 od2 od3 od4 od5 od6 od7 od8 od9 od10 od11 od12 od13 od14 od15 od16 an1 an2 an3 an4 an5 an6 an7 an8 an9 an10 an11 an12 an13 an14 an15 an16 : Option Addr} {sl1 sl2 sl3 sl4 sl5 sl6 sl7 sl8 sl9 sl10 sl11 sl12 sl13 sl14 sl15 sl16 : Array (Option Value)} {oc1 oc2 oc3 oc4 oc5 oc6 oc7 oc8 oc9 oc10 oc11 oc12 oc13 oc14 oc15 oc16 kV1 kV2 kV3 kV4 kV5 kV6 kV7 kV8 kV9 kV10 kV11 kV12 kV13 kV14 kV15 kV16 dc1 dc2 dc3 dc4 dc5 dc6 dc7 dc8 dc9 dc10 dc11 dc12 dc13 dc14 dc15 dc16 pm1 pm2 pm3 pm4 pm5 pm6 pm7 pm8 pm9 pm10 pm11 pm12 pm13 pm14 pm15 pm16 cd1 cd2 cd3 cd4 cd5 cd6 cd7 cd8 cd9 cd10 cd11 cd12 cd13 cd14 cd15 cd16 ct1 ct2 ct3 ct4 ct5 ct6 ct7 ct8 ct9 ct10 ct11 ct12 ct13 ct14 ct15 ct16 : Value}
    (a1 : PySem.W.nsIn K mainGlobals "_law_bag" = some (some (.ref f1))) (l1 : K.lookup f1 = some ⟨oc1, od1, .func (PySem.W.fnOf "_law_bag" "_law_bag" (defArgs sBag) (defBody sBag) (defScope sBag) .none kV1 dc1 pm1 an1 cd1 ct1), sl1⟩) (c1 : PySem.W.codeIn K cd1 "_law_bag" = true) (k1 : PySem.W.keepIn K (.ref f1) = true)
    (a2 : PySem.W.nsIn K mainGlobals "_law_pull" = some (some (.ref f2))) (l2 : K.lookup f2 = some ⟨oc2, od2, .func (PySem.W.fnOf "_law_pull" "_law_pull" (defArgs sPull) (defBody sPull) (defScope sPull) .none kV2 dc2 pm2 an2 cd2 ct2), sl2⟩) (c2 : PySem.W.codeIn K cd2 "_law_pull" = true) (k2 : PySem.W.keepIn K (.ref f2) = true)
    (a3 : PySem.W.nsIn K mainGlobals "_law_of" = some (some (.ref f3))) (l3 : K.lookup f3 = some ⟨oc3, od3, .func (PySem.W.fnOf "_law_of" "_law_of" (defArgs sOf) (defBody sOf) (defScope sOf) .none kV3 dc3 pm3 an3 cd3 ct3), sl3⟩) (c3 : PySem.W.codeIn K cd3 "_law_of" = true) (k3 : PySem.W.keepIn K (.ref f3) = true)
    (a4 : PySem.W.nsIn K mainGlobals "_law_signed" = some (some (.ref f4))) (l4 : K.lookup f4 = some ⟨oc4, od4, .func (PySem.W.fnOf "_law_signed" "_law_signed" (defArgs sLSigned) (defBody sLSigned) (defScope sLSigned) .none kV4 dc4 pm4 an4 cd4 ct4), sl4⟩) (c4 : PySem.W.codeIn K cd4 "_law_signed" = true) (k4 : PySem.W.keepIn K (.ref f4) = true)
    (a5 : PySem.W.nsIn K mainGlobals "_law_body" = some (some (.ref f5))) (l5 : K.lookup f5 = some ⟨oc5, od5, .func (PySem.W.fnOf "_law_body" "_law_body" (defArgs sLBody) (defBody sLBody) (defScope sLBody) .none kV5 dc5 pm5 an5 cd5 ct5), sl5⟩) (c5 : PySem.W.codeIn K cd5 "_law_body" = true) (k5 : PySem.W.keepIn K (.ref f5) = true)
    (a6 : PySem.W.nsIn K mainGlobals "_law_string" = some (some (.ref f6))) (l6 : K.lookup f6 = some ⟨oc6, od6, .func (PySem.W.fnOf "_law_string" "_law_string" (defArgs sLString) (defBody sLString) (defScope sLString) .none kV6 dc6 pm6 an6 cd6 ct6), sl6⟩) (c6 : PySem.W.codeIn K cd6 "_law_string" = true) (k6 : PySem.W.keepIn K (.ref f6) = true)
    (a7 : PySem.W.nsIn K mainGlobals "letters_of" = some (some (.ref f7))) (l7 : K.lookup f7 = some ⟨oc7, od7, .func (PySem.W.fnOf "letters_of" "letters_of" (defArgs sLettersOf) (defBody sLettersOf) (defScope sLettersOf) .none kV7 dc7 pm7 an7 cd7 ct7), sl7⟩) (c7 : PySem.W.codeIn K cd7 "letters_of" = true) (k7 : PySem.W.keepIn K (.ref f7) = true)
    (a8 : PySem.W.nsIn K mainGlobals "sign_of" = some (some (.ref f8))) (l8 : K.lookup f8 = some ⟨oc8, od8, .func (PySem.W.fnOf "sign_of" "sign_of" (defArgs sSignOf) (defBody sSignOf) (defScope sSignOf) .none kV8 dc8 pm8 an8 cd8 ct8), sl8⟩) (c8 : PySem.W.codeIn K cd8 "sign_of" = true) (k8 : PySem.W.keepIn K (.ref f8) = true)
    (a9 : PySem.W.nsIn K mainGlobals "signed" = some (some (.ref f9))) (l9 : K.lookup f9 = some ⟨oc9, od9, .func (PySem.W.fnOf "signed" "signed" (defArgs sSigned) (defBody sSigned) (defScope sSigned) .none kV9 dc9 pm9 an9 cd9 ct9), sl9⟩) (c9 : PySem.W.codeIn K cd9 "signed" = true) (k9 : PySem.W.keepIn K (.ref f9) = true)
    (a10 : PySem.W.nsIn K mainGlobals "is_string" = some (some (.ref f10))) (l10 : K.lookup f10 = some ⟨oc10, od10, .func (PySem.W.fnOf "is_string" "is_string" (defArgs sIsStr) (defBody sIsStr) (defScope sIsStr) .none kV10 dc10 pm10 an10 cd10 ct10), sl10⟩) (c10 : PySem.W.codeIn K cd10 "is_string" = true) (k10 : PySem.W.keepIn K (.ref f10) = true)
    (a11 : PySem.W.nsIn K mainGlobals "check_string" = some (some (.ref f11))) (l11 : K.lookup f11 = some ⟨oc11, od11, .func (PySem.W.fnOf "check_string" "check_string" (defArgs sChkS) (defBody sChkS) (defScope sChkS) .none kV11 dc11 pm11 an11 cd11 ct11), sl11⟩) (c11 : PySem.W.codeIn K cd11 "check_string" = true) (k11 : PySem.W.keepIn K (.ref f11) = true)
    (a12 : PySem.W.nsIn K mainGlobals "product_of_two" = some (some (.ref f12))) (l12 : K.lookup f12 = some ⟨oc12, od12, .func (PySem.W.fnOf "product_of_two" "product_of_two" (defArgs sTwo) (defBody sTwo) (defScope sTwo) .none kV12 dc12 pm12 an12 cd12 ct12), sl12⟩) (c12 : PySem.W.codeIn K cd12 "product_of_two" = true) (k12 : PySem.W.keepIn K (.ref f12) = true)
    (a13 : PySem.W.nsIn K mainGlobals "multiply" = some (some (.ref f13))) (l13 : K.lookup f13 = some ⟨oc13, od13, .func (PySem.W.fnOf "multiply" "multiply" (defArgs sMult) (defBody sMult) (defScope sMult) .none kV13 dc13 pm13 an13 cd13 ct13), sl13⟩) (c13 : PySem.W.codeIn K cd13 "multiply" = true) (k13 : PySem.W.keepIn K (.ref f13) = true)
    (a14 : PySem.W.nsIn K mainGlobals "commute" = some (some (.ref f14))) (l14 : K.lookup f14 = some ⟨oc14, od14, .func (PySem.W.fnOf "commute" "commute" (defArgs sComm) (defBody sComm) (defScope sComm) .none kV14 dc14 pm14 an14 cd14 ct14), sl14⟩) (c14 : PySem.W.codeIn K cd14 "commute" = true) (k14 : PySem.W.keepIn K (.ref f14) = true)
    (a15 : PySem.W.nsIn K mainGlobals "identity" = some (some (.ref f15))) (l15 : K.lookup f15 = some ⟨oc15, od15, .func (PySem.W.fnOf "identity" "identity" (defArgs sIden) (defBody sIden) (defScope sIden) .none kV15 dc15 pm15 an15 cd15 ct15), sl15⟩) (c15 : PySem.W.codeIn K cd15 "identity" = true) (k15 : PySem.W.keepIn K (.ref f15) = true)
    (a16 : PySem.W.nsIn K mainGlobals "law" = some (some (.ref f16))) (l16 : K.lookup f16 = some ⟨oc16, od16, .func (PySem.W.fnOf "law" "law" (defArgs sLaw) (defBody sLaw) (defScope sLaw) .none kV16 dc16 pm16 an16 cd16 ct16), sl16⟩) (c16 : PySem.W.codeIn K cd16 "law" = true) (k16 : PySem.W.keepIn K (.ref f16) = true)
    (z1 : PySem.W.nsIn K mainGlobals "len" = some none)    (z2 : PySem.W.nsIn K mainGlobals "sum" = some none)    (z3 : PySem.W.nsIn K mainGlobals "zip" = some none)    (z4 : PySem.W.nsIn K mainGlobals "all" = some none)
    (z5 : PySem.W.nsIn K mainGlobals "list" = some none)    (z6 : PySem.W.nsIn K mainGlobals "range" = some none)    (sl : PySem.W.nsIn K mainGlobals "STRING_LETTERS" = some (some (.str (Str.ofString "1XZW") ta)))
    (d1 : PySem.W.nsIn K mainGlobals "PRODUCTS" = some (some (.ref pd)))
    (d2 : K.lookup pd = some ⟨.type "dict", none, .dict es dn, #[]⟩)
    (d3 : PySem.W.KeysLit w.params es.toList)
    (q0 : PySem.W.nsIn K pd (Str.ofString "11") = some (some (.str (Str.ofString "1") t0)))
    (q1 : PySem.W.nsIn K pd (Str.ofString "1X") = some (some (.str (Str.ofString "X") t1)))
    (q2 : PySem.W.nsIn K pd (Str.ofString "1Z") = some (some (.str (Str.ofString "Z") t2)))
    (q3 : PySem.W.nsIn K pd (Str.ofString "1W") = some (some (.str (Str.ofString "W") t3)))
    (q4 : PySem.W.nsIn K pd (Str.ofString "X1") = some (some (.str (Str.ofString "X") t4)))
    (q5 : PySem.W.nsIn K pd (Str.ofString "XX") = some (some (.str (Str.ofString "1") t5)))
    (q6 : PySem.W.nsIn K pd (Str.ofString "XZ") = some (some (.str (Str.ofString "W") t6)))
    (q7 : PySem.W.nsIn K pd (Str.ofString "XW") = some (some (.str (Str.ofString "Z") t7)))
    (q8 : PySem.W.nsIn K pd (Str.ofString "Z1") = some (some (.str (Str.ofString "Z") t8)))
    (q9 : PySem.W.nsIn K pd (Str.ofString "ZX") = some (some (.str (Str.ofString "-W") t9)))
    (q10 : PySem.W.nsIn K pd (Str.ofString "ZZ") = some (some (.str (Str.ofString "1") t10)))
    (q11 : PySem.W.nsIn K pd (Str.ofString "ZW") = some (some (.str (Str.ofString "-X") t11)))
    (q12 : PySem.W.nsIn K pd (Str.ofString "W1") = some (some (.str (Str.ofString "W") t12)))
    (q13 : PySem.W.nsIn K pd (Str.ofString "WX") = some (some (.str (Str.ofString "-Z") t13)))
    (q14 : PySem.W.nsIn K pd (Str.ofString "WZ") = some (some (.str (Str.ofString "X") t14)))
    (q15 : PySem.W.nsIn K pd (Str.ofString "WW") = some (some (.str (Str.ofString "-1") t15)))
 :
    ∃ fd : FuncData, (∀ (s : Shared) (v : Value), BindsTo s fd ⟨[v], []⟩ [("_law_script", v)]) ∧ ∀ base : Heap, K.In base → base.Ns mainGlobals mg → FnOk l.prog w K mg base CX0 6 fa fd ["_law_script"] (spLaw K) := by
  have e := hfa.symm.trans (PySem.W.mg_of X G a16)
  cases e
  have F1 := fun_mk (st := sBag) l1 c1 k1
  have b1 := F1.binds (ps := ["_law_script"]) fun _ _ _ _ _ _ us hl => match us, hl with | [_], _ => rfl
  have g1 := PySem.W.mg_of X G a1
  have F2 := fun_mk (st := sPull) l2 c2 k2
  have b2 := F2.binds (ps := ["_law_bag_here", "_law_many"]) fun _ _ _ _ _ _ us hl => match us, hl with | [_, _], _ => rfl
  have g2 := PySem.W.mg_of X G a2
  have F3 := fun_mk (st := sOf) l3 c3 k3
  have b3 := F3.binds (ps := ["_law_bag_here", "_law_things"]) fun _ _ _ _ _ _ us hl => match us, hl with | [_, _], _ => rfl
  have g3 := PySem.W.mg_of X G a3
  have F4 := fun_mk (st := sLSigned) l4 c4 k4
  have b4 := F4.binds (ps := ["_law_mturned", "_law_body_here"]) fun _ _ _ _ _ _ us hl => match us, hl with | [_, _], _ => rfl
  have g4 := PySem.W.mg_of X G a4
  have F5 := fun_mk (st := sLBody) l5 c5 k5
  have b5 := F5.binds (ps := ["_law_text"]) fun _ _ _ _ _ _ us hl => match us, hl with | [_], _ => rfl
  have g5 := PySem.W.mg_of X G a5
  have F6 := fun_mk (st := sLString) l6 c6 k6
  have b6 := F6.binds (ps := ["_law_bag_here", "_law_size"]) fun _ _ _ _ _ _ us hl => match us, hl with | [_, _], _ => rfl
  have g6 := PySem.W.mg_of X G a6
  have F7 := fun_mk (st := sLettersOf) l7 c7 k7
  have b7 := F7.binds (ps := ["text"]) fun _ _ _ _ _ _ us hl => match us, hl with | [_], _ => rfl
  have g7 := PySem.W.mg_of X G a7
  have F8 := fun_mk (st := sSignOf) l8 c8 k8
  have b8 := F8.binds (ps := ["text"]) fun _ _ _ _ _ _ us hl => match us, hl with | [_], _ => rfl
  have g8 := PySem.W.mg_of X G a8
  have F9 := fun_mk (st := sSigned) l9 c9 k9
  have b9 := F9.binds (ps := ["turns", "letters"]) fun _ _ _ _ _ _ us hl => match us, hl with | [_, _], _ => rfl
  have g9 := PySem.W.mg_of X G a9
  have F10 := fun_mk (st := sIsStr) l10 c10 k10
  have b10 := F10.binds (ps := ["text"]) fun _ _ _ _ _ _ us hl => match us, hl with | [_], _ => rfl
  have g10 := PySem.W.mg_of X G a10
  have F11 := fun_mk (st := sChkS) l11 c11 k11
  have b11 := F11.binds (ps := ["text"]) fun _ _ _ _ _ _ us hl => match us, hl with | [_], _ => rfl
  have g11 := PySem.W.mg_of X G a11
  have F12 := fun_mk (st := sTwo) l12 c12 k12
  have b12 := F12.binds (ps := ["one", "other"]) fun _ _ _ _ _ _ us hl => match us, hl with | [_, _], _ => rfl
  have g12 := PySem.W.mg_of X G a12
  have F13 := fun_mk (st := sMult) l13 c13 k13
  have g13 := PySem.W.mg_of X G a13
  have F14 := fun_mk (st := sComm) l14 c14 k14
  have b14 := F14.binds (ps := ["one", "other"]) fun _ _ _ _ _ _ us hl => match us, hl with | [_, _], _ => rfl
  have g14 := PySem.W.mg_of X G a14
  have F15 := fun_mk (st := sIden) l15 c15 k15
  have b15 := F15.binds (ps := ["size"]) fun _ _ _ _ _ _ us hl => match us, hl with | [_], _ => rfl
  have g15 := PySem.W.mg_of X G a15
  have F16 := fun_mk (st := sLaw) l16 c16 k16
  have m_len := PySem.W.mg_none_of X G z1
  have m_sum := PySem.W.mg_none_of X G z2
  have m_zip := PySem.W.mg_none_of X G z3
  have m_all := PySem.W.mg_none_of X G z4
  have m_list := PySem.W.mg_none_of X G z5
  have m_range := PySem.W.mg_none_of X G z6
  exact ⟨PySem.W.fnOf "law" "law" (defArgs sLaw) (defBody sLaw) (defScope sLaw) .none kV16 dc16 pm16 an16 cd16 ct16, fun s v => .of_eq rfl, fun base _ _ => ok_law F16 F1 b1 g1 F2 b2 g2 F3 b3 g3 F4 b4 g4 F5 b5 g5 F6 b6 g6 F7 b7 g7 F8 b8 g8 F9 b9 g9 F10 b10 g10 F11 b11 g11 F12 b12 g12 F13 g13 F14 b14 g14 F15 b15 g15 (PySem.W.mg_of X G sl) (PySem.W.mg_of X G d1) (kd_all d2 d3 (fun p hp => by simp only [ptab, List.mem_cons, List.not_mem_nil, or_false] at hp; rcases hp with rfl | rfl | rfl | rfl | rfl | rfl | rfl | rfl | rfl | rfl | rfl | rfl | rfl | rfl | rfl | rfl;                all_goals first | exact ⟨_, q0⟩ | exact ⟨_, q1⟩ | exact ⟨_, q2⟩ | exact ⟨_, q3⟩ | exact ⟨_, q4⟩ | exact ⟨_, q5⟩ | exact ⟨_, q6⟩ | exact ⟨_, q7⟩ | exact ⟨_, q8⟩ | exact ⟨_, q9⟩ | exact ⟨_, q10⟩ | exact ⟨_, q11⟩ | exact ⟨_, q12⟩ | exact ⟨_, q13⟩ | exact ⟨_, q14⟩ | exact ⟨_, q15⟩)) m_len m_sum m_zip m_all m_list m_range⟩


end T23

open PySem PySem.W PyProof.Rows in
set_option maxRecDepth 100000 in
set_option maxHeartbeats 0 in
theorem PySem.Challenge.cw_threadmark_k23_whole_products_of_strings_holds : PySem.Challenge.rw_threadmark_k23_whole_products_of_strings.Holds := by
  w_on; o_law; k_head; (case hw => w_witness2)
  k_fill
  refine L2.walk_of (l := PySem.Challenge.rw_threadmark_k23_whole_products_of_strings) (n := 63) (k := 6) (x := "_law_script") (CX := fun _ => L2.CX0) (sp := fun w => Tm.spLaw _) rfl (by decide) rfl ⟨rfl, by decide, by decide⟩ (fun w h Y => PySem.W.kIn_of Y) ?F (fun _ _ a ns hl _ hS => ⟨a, ns, rfl, hS, hl, fun _ => rfl⟩) (fun _ _ _ _ _ h => h)
  case F =>
    intro w mg fa h KX G hmg
    refine' T23.all_mk KX G hmg ?a1 ?l1 ?c1 ?k1 ?a2 ?l2 ?c2 ?k2 ?a3 ?l3 ?c3 ?k3 ?a4 ?l4 ?c4 ?k4 ?a5 ?l5 ?c5 ?k5 ?a6 ?l6 ?c6 ?k6 ?a7 ?l7 ?c7 ?k7 ?a8 ?l8 ?c8 ?k8 ?a9 ?l9 ?c9 ?k9 ?a10 ?l10 ?c10 ?k10 ?a11 ?l11 ?c11 ?k11 ?a12 ?l12 ?c12 ?k12 ?a13 ?l13 ?c13 ?k13 ?a14 ?l14 ?c14 ?k14 ?a15 ?l15 ?c15 ?k15 ?a16 ?l16 ?c16 ?k16 ?z1 ?z2 ?z3 ?z4 ?z5 ?z6 ?sl ?d1 ?d2 ?d3 ?q0 ?q1 ?q2 ?q3 ?q4 ?q5 ?q6 ?q7 ?q8 ?q9 ?q10 ?q11 ?q12 ?q13 ?q14 ?q15
    (case a1 => k_is)
    (case l1 => k_is)
    (case c1 => k_is)
    (case k1 => k_is)
    (case a2 => k_is)
    (case l2 => k_is)
    (case c2 => k_is)
    (case k2 => k_is)
    (case a3 => k_is)
    (case l3 => k_is)
    (case c3 => k_is)
    (case k3 => k_is)
    (case a4 => k_is)
    (case l4 => k_is)
    (case c4 => k_is)
    (case k4 => k_is)
    (case a5 => k_is)
    (case l5 => k_is)
    (case c5 => k_is)
    (case k5 => k_is)
    (case a6 => k_is)
    (case l6 => k_is)
    (case c6 => k_is)
    (case k6 => k_is)
    (case a7 => k_is)
    (case l7 => k_is)
    (case c7 => k_is)
    (case k7 => k_is)
    (case a8 => k_is)
    (case l8 => k_is)
    (case c8 => k_is)
    (case k8 => k_is)
    (case a9 => k_is)
    (case l9 => k_is)
    (case c9 => k_is)
    (case k9 => k_is)
    (case a10 => k_is)
    (case l10 => k_is)
    (case c10 => k_is)
    (case k10 => k_is)
    (case a11 => k_is)
    (case l11 => k_is)
    (case c11 => k_is)
    (case k11 => k_is)
    (case a12 => k_is)
    (case l12 => k_is)
    (case c12 => k_is)
    (case k12 => k_is)
    (case a13 => k_is)
    (case l13 => k_is)
    (case c13 => k_is)
    (case k13 => k_is)
    (case a14 => k_is)
    (case l14 => k_is)
    (case c14 => k_is)
    (case k14 => k_is)
    (case a15 => k_is)
    (case l15 => k_is)
    (case c15 => k_is)
    (case k15 => k_is)
    (case a16 => k_is)
    (case l16 => k_is)
    (case c16 => k_is)
    (case k16 => k_is)
    (case z1 => k_is)
    (case z2 => k_is)
    (case z3 => k_is)
    (case z4 => k_is)
    (case z5 => k_is)
    (case z6 => k_is)
    (case sl => k_is)
    (case d1 => k_is)
    (case d2 => k_is)
    (case d3 => exact ⟨⟨_, _, rfl, rfl⟩, ⟨_, _, rfl, rfl⟩, ⟨_, _, rfl, rfl⟩, ⟨_, _, rfl, rfl⟩, ⟨_, _, rfl, rfl⟩, ⟨_, _, rfl, rfl⟩, ⟨_, _, rfl, rfl⟩, ⟨_, _, rfl, rfl⟩, ⟨_, _, rfl, rfl⟩, ⟨_, _, rfl, rfl⟩, ⟨_, _, rfl, rfl⟩, ⟨_, _, rfl, rfl⟩, ⟨_, _, rfl, rfl⟩, ⟨_, _, rfl, rfl⟩, ⟨_, _, rfl, rfl⟩, ⟨_, _, rfl, rfl⟩, trivial⟩)
    (case q0 => k_is)
    (case q1 => k_is)
    (case q2 => k_is)
    (case q3 => k_is)
    (case q4 => k_is)
    (case q5 => k_is)
    (case q6 => k_is)
    (case q7 => k_is)
    (case q8 => k_is)
    (case q9 => k_is)
    (case q10 => k_is)
    (case q11 => k_is)
    (case q12 => k_is)
    (case q13 => k_is)
    (case q14 => k_is)
    (case q15 => k_is)


import PyProof.Rows.All
import Wide.All
import OpenK.AllK
import Wide.FinOn
import Lean
import PyProof.EqAt
import PyProof.EqKinds
import PyProof.TupleCall
import PySem.Challenge.RW_boardsight_k40_two_boards_cut
set_option Elab.async false
set_option linter.all false
set_option maxRecDepth 100000
def xaa:=@List.length_map
def xab:=@List.getD_eq_getElem?_getD
def xac:=@List.getElem?_eq_getElem
def xad:=@List.length_append
def xae:=@Nat.mod_eq_of_lt
def xaf:=@List.getElem?_eq_some_iff
def xag:=@Nat.le_refl
def xah:=@List.map_append
def xai:=@Classical.byContradiction
def xaj:=@List.size_toArray
def xak:=@Int.mul_pos
def xal:=@List.getElem?_map
def xam:=@Nat.lt_of_lt_of_le
def xan:=@List.mem_cons_of_mem
def xao:=@Bool.false_ne_true
def xap:=@List.filter_append
def xaq:=@List.length_cons
def xar:=@Int.mul_neg_of_pos_of_neg
def xas:=@List.mem_singleton
def xat:=@List.length_drop
def xau:=@List.getElem?_append_right
def xav:=@List.mem_cons
def xaw:=@List.map_cons
def xax:=@Nat.ne_of_lt
def xay:=@List.length_take
def xaz:=@List.mem_map
def xaA:=@Nat.le_trans
def xaB:=@List.mem_append_right
def xaC:=@Nat.mod_lt
def xaD:=@List.mem_of_getElem?
def xaE:=@Int.mul_eq_zero
def xaF:=@List.getElem?_append_left
def xaG:=@Int.mul_nonneg
def xaH:=@List.reverse_cons
def xaI:=@List.lookup_cons
def xaJ:=@List.nodup_cons
def xaK:=@List.range_succ
def xaL:=@List.filter_cons_of_pos
def xaM:=@List.length_reverse
def xaN:=@Int.mul_neg_of_neg_of_pos
def xaO:=@List.mem_append
def xaP:=@Int.zero_mul
def xaQ:=@Nat.zero_le
def xaR:=@List.filter_cons
def xaS:=@Nat.add_mod_right
def xaT:=@List.getElem?_eq_none
def xaU:=@List.mem_range
def xaV:=@List.take_add_one
def xaW:=@List.filter_cons_of_neg
def xaX:=@List.mem_cons_self
def xaY:=@Int.emod_lt_of_pos
def xaZ:=@List.take_of_length_le
def xa0:=@List.take_length
def xa1:=@Int.ediv_mul_cancel
def xa2:=@Nat.le_of_lt
def xa3:=@Int.mul_comm
def xa4:=@List.map_map
def xa5:=@Int.mul_ediv_cancel'
def xa6:=@Int.mul_zero
def xa7:=@Nat.mod_self
def xa8:=@List.flatMap_cons
def xa9:=@List.length_replicate
def xba:=@List.take_append_drop
def xbb:=@Int.emod_nonneg
def xbc:=@Int.mul_le_mul_of_nonneg_right
def xbd:=@Nat.lt_of_le_of_lt
def xbe:=@Int.pos_of_mul_pos_right
def xbf:=@List.all_eq_true
def xbg:=@Nat.lt_irrefl
def xbh:=@List.length_eq_zero_iff
def xbi:=@Nat.zero_add
def xbj:=@List.length_range
def xbk:=@Int.gcd_dvd_right
def xbl:=@List.mem_filter
def xbm:=@Int.le_refl
def xbn:=@List.getElem_mem
def xbo:=@Int.gcd_dvd_left
def xbp:=@List.length_filter_le
def xbq:=@Int.dvd_trans
def xbr:=@List.mem_iff_getElem?
def xbs:=@List.mem_append_left
def xbt:=@Bool.and_eq_true_iff
def xbu:=@List.mem_of_mem_take
def xbv:=@List.append_nil
def xbw:=@Int.dvd_coe_gcd
def xbx:=@List.append_assoc
def xby:=@List.filterMap_cons
def xbz:=@List.mem_flatMap
def xbA:=@Option.map_eq_some_iff
def xbB:=@Int.mul_one
def xbC:=@Bool.eq_iff_iff
def xbD:=@List.getElem?_reverse
def xbE:=@Int.le_of_lt
def xbF:=@Nat.lt_succ_of_lt
def xbG:=@List.mem_iff_getElem
def xbH:=@Int.natAbs_ediv_le_natAbs
def xbI:=@List.drop_left
def xbJ:=@List.take_left
def xbK:=@List.nodup_nil
def xbL:=@Bool.and_eq_true
def xbM:=@List.not_mem_nil
def xbN:=@Int.neg_mul
def xbO:=@List.map_congr_left
def xbP:=@List.flatMap_append
def xbQ:=@Int.one_mul
def xbR:=@List.mem_map_of_mem
def xbS:=@Int.ediv_neg
def xbT:=@Nat.not_lt_zero
def xbU:=@Int.fdiv_eq_ediv_of_dvd
def xbV:=@List.drop_of_length_le
def xbW:=@List.ext_getElem?
def xbX:=@Int.lt_trichotomy
def xbY:=@List.cons_eq_cons
def xbZ:=@Int.natAbs_mul
def xb0:=@List.length_singleton
def xb1:=@Int.natAbs_dvd_natAbs
def xb2:=@Int.zero_add
def xb3:=@Nat.pow_le_pow_right
def xb4:=@List.any_cons
def xb5:=@List.find?_cons
def xb6:=@List.foldl_cons
def xb7:=@Int.mul_add
def xb8:=@Int.neg_neg
def xb9:=@List.map_nil
def xca:=@Int.dvd_refl
def xcb:=@List.getElem?_drop
def xcc:=@List.getElem?_take
def xcd:=@Int.lt_or_le
def xce:=@Nat.lt_or_gt_of_ne
def xcf:=@Int.natAbs_neg
def xcg:=@Int.toNat_natCast
def xch:=@List.foldl_append
def xci:=@Int.mul_assoc
def xcj:=@List.map_drop
def xck:=@List.map_take
namespace L2
open PySem PySem.Spec PyProof.Rows
abbrev Key:=Sum Int Str
def jg7:Key->Value->Bool
 | .inl k,v=>Value.isInt k v
 | .inr x,v=>Value.isStrOf x v
def keyH (w:World):Key->Int
 | .inl k=>hashInt k
 | .inr x=>hashStr w x
theorem jaT:∀{k:Key} {v:Value},jg7 k v=true->(∃i t,k=Sum.inl i/\v=Value.int i t)\/(∃x t,k=Sum.inr x/\v=Value.str x t)
  | .inl i, v, h => by
    obtain⟨t,e⟩:=Value.isInt_shape (k:=i) (v:=v) h;exact .inl ⟨i,t,rfl,e⟩
  | .inr x, v, h => by
    obtain⟨t,e⟩:=Value.isStrOf_shape (x:=x) (v:=v) h;exact .inr ⟨x,t,rfl,e⟩
theorem jhu (i:Int) (t:Tok):jg7 (.inl i) (.int i t)=true:=by simp [jg7,Value.isInt]
theorem jhv (x:Str) (t:Tok):jg7 (.inr x) (.str x t)=true:=by simp [jg7,Value.isStrOf]
theorem jmN (a b:Int):decide ((Sum.inl a:Key)=Sum.inl b)=(a==b):=by
 by_cases e:a=b
 ·subst e;simp
 ·have h:¬(Sum.inl a:Key)=Sum.inl b:=fun q=>e (Sum.inl.inj q);rw[decide_eq_false h];exact (beq_eq_false_iff_ne.mpr e).symm
theorem jmO (a b:Str):decide ((Sum.inr a:Key)=Sum.inr b)=decide (a=b):=by
 by_cases e:a=b
 ·subst e;simp
 ·have h:¬(Sum.inr a:Key)=Sum.inr b:=fun q=>e (Sum.inr.inj q);rw[decide_eq_false h,decide_eq_false e]
theorem jmP (a:Int) (b:Str):decide ((Sum.inl a:Key)=Sum.inr b)=false:=decide_eq_false (fun q=>nomatch q)
theorem jmQ (a:Str) (b:Int):decide ((Sum.inr a:Key)=Sum.inl b)=false:=decide_eq_false (fun q=>nomatch q)
def jbg (prog:Program) (w:World):PySem.KeyKind prog w Key where
 is:=jg7
 hash:=keyH w
 inj:=fun v a b ha hb=>by
  rcases jaT ha with ⟨i,t,rfl,rfl⟩ | ⟨x,t,rfl,rfl⟩
  ·rcases jaT hb with ⟨j,u,rfl,e⟩ | ⟨y,u,rfl,e⟩
   ·injection e with e1 _;rw[e1]
   ·exact nomatch e
  ·rcases jaT hb with ⟨j,u,rfl,e⟩ | ⟨y,u,rfl,e⟩
   ·exact nomatch e
   ·injection e with e1 _;rw[e1]
 byValue:=fun k v h=>by
  rcases jaT h with ⟨i,t,rfl,rfl⟩ | ⟨x,t,rfl,rfl⟩<;>rfl
 pyHash:=fun hv h=>by
  rcases jaT hv with ⟨i,t,rfl,rfl⟩ | ⟨x,t,rfl,rfl⟩
  ·exact wpAny_pyHash_int h
  ·exact wpAny_pyHash_str h
 eqBool:=fun hu hv h=>by
  rcases jaT hu with ⟨i,t,rfl,rfl⟩ | ⟨x,t,rfl,rfl⟩
  ·rcases jaT hv with ⟨j,u,rfl,rfl⟩ | ⟨y,u,rfl,rfl⟩
   ·rw[jmN] at h;exact wpAny_eqBool_int h
   ·rw[jmP] at h;exact SeqAt.EqAt.int_str i t y u _ _ _ _ h
  ·rcases jaT hv with ⟨j,u,rfl,rfl⟩ | ⟨y,u,rfl,rfl⟩
   ·rw[jmQ] at h;exact SeqAt.EqAt.str_int x t j u _ _ _ _ h
   ·rw[jmO] at h;exact wpAny_eqBool_str h
 «strs»:=fun k x t v h=>by
  rcases jaT h with ⟨i,u,rfl,e⟩ | ⟨y,u,rfl,e⟩
  ·exact nomatch e
  ·injection e with e1 _
   subst e1
   cases v<;>rfl
theorem jfU (prog:Program) (w:World) (i:Int) (t:Tok):(jbg prog w).is (.inl i) (.int i t)=true:=jhu i t
theorem jfV (prog:Program) (w:World) (x:Str) (t:Tok):(jbg prog w).is (.inr x) (.str x t)=true:=jhv x t
inductive V where
 | non | bl (b:Bool) | int (i:Int) | str (x:Str) | byt (b:Array UInt8) | flt (b:UInt64) | ref (a:Addr) | ty (n:String)
 deriving DecidableEq
def RelV:V->Value->Prop
 | .non,u=>u=Value.none
 | .bl b,u=>u=Value.bool b
 | .int i,u=>∃t,u=Value.int i t
 | .str x,u=>∃t,u=Value.str x t
 | .byt b,u=>∃t,u=Value.bytes b t
 | .flt b,u=>∃t,u=Value.float b t
 | .ref a,u=>u=Value.ref a
 | .ty n,u=>u=Value.type n
abbrev Vals:List V->List Value->Prop:=Paired RelV
theorem Vals.length {xs:List V} {us:List Value} (r:Vals xs us):xs.length=us.length:=Paired.length r
theorem Vals.get:∀{xs:List V} {us:List Value} {i:Nat} {x:V},Vals xs us->xs[i]?=some x->∃u,us[i]?=some u/\RelV x u
  | _,_,_,_,.nil,e=>by simp at e
  | _,_,0,_,.cons r _,e=>by simp at e;subst e;exact⟨_,rfl,r⟩
  | _, _, i + 1, x, .cons _ t, e => by
    obtain⟨u,h1,h2⟩:=Vals.get (i:=i) (x:=x) t (by simpa using e);exact⟨u,by simpa using h1,h2⟩
theorem Vals.set {x:V} {u:Value} (r:RelV x u):∀{xs:List V} {us:List Value} (i:Nat),Vals xs us->Vals (xs.set i x) (us.set i u)
 | _,_,_,.nil=>.nil
 | _,_,0,.cons _ t=>.cons r t
 | _,_,i+1,.cons q t=>.cons q (Vals.set r i t)
theorem Vals.append:∀{xs ys:List V} {us ws:List Value},Vals xs us->Vals ys ws->Vals (xs++ys) (us++ws)
 | _,_,_,_,.nil,s=>s
 | _,_,_,_,.cons r t,s=>.cons r (Vals.append t s)
theorem Vals.take:∀{xs:List V} {us:List Value} (n:Nat),Vals xs us->Vals (xs.take n) (us.take n)
 | _,_,0,_=>.nil
 | _,_,_+1,.nil=>.nil
 | _,_,n+1,.cons r t=>.cons r (Vals.take n t)
theorem Vals.drop:∀{xs:List V} {us:List Value} (n:Nat),Vals xs us->Vals (xs.drop n) (us.drop n)
 | _,_,0,r=>r
 | _,_,_+1,.nil=>.nil
 | _,_,n+1,.cons _ t=>Vals.drop n t
def RelO:Option V->Option Value->Prop
 | some v,some u=>RelV v u
 | none,none=>True
 | _,_=>False
def KV {κ:Type}:List (κ × V)->List (κ × Value)->Prop:=Paired fun (p:κ × V) (q:κ × Value)=>p.1=q.1/\RelV p.2 q.2
def kV:Key->V
 | .inl i=>.int i
 | .inr x=>.str x
inductive HO where
 | lst (xs:List V)
 | tup (xs:List V)
 | dK (kvs:List (Key × V)) | dT (kvs:List (List Key × V))
 | set (S:Int->Bool) (n:Nat)
 | ins (C dx:Addr) (fs:List (Str × V))
 | own (x:Addr)
 | xd (fs:List (Str × V))
 | met (f x:Addr)
 | rng (lo hi:Int)
 | frz (o:Obj) (u:HO)
 | tbl (ps:Array Value)
 | ext (φ:Heap->Prop)
abbrev Hp:=Addr->Option HO
def upd (H:Hp) (a:Addr) (o:HO):Hp:=fun b=>if b=a then some o else H b
theorem jag {H:Hp} {a:Addr} {o:HO}:upd H a o a=some o:=by unfold upd;rw[if_pos rfl]
theorem jaK {H:Hp} {a b:Addr} {o:HO} (h:b≠a):upd H a o b=H b:=by unfold upd;rw[if_neg h]
theorem jaA {H:Hp} {a b:Addr} {o:HO} (h:H a=some o) (h':H b=none):a≠b:=by
 intro e;subst e;rw[h] at h';cases h'
section
variable (P:Program) (w:World)
def ObjOk (H:Hp) (h:Heap) (a:Addr):HO->Prop
 | .lst xs=>xs.length<=sizeLine/\∃(its:List Value) (n:Nat),Vals xs its/\h.get? a=some { cls:=.type "list",data:=.seq its.toArray n }
 | .tup xs=>xs.length<=sizeLine/\∃its:List Value,Vals xs its/\IsTup h a its.toArray
 | .dK kvs=>kvs.length<=sizeLine/\(a==sysModules)=false/\∃vs,KV kvs vs/\h.DictOf (jbg P w) a vs
 | .dT kvs=>kvs.length <= sizeLine /\ (a==sysModules)=false /\ ∃xs:List (List Key × Addr × Value),
   Paired (fun (p:List Key × V) (q:List Key × Addr × Value)=>p.1=q.1/\H q.2.1=some (.tup (p.1.map kV))/\RelV p.2 q.2.2) kvs xs /\
   ∃o es ep,h.get? a=some o/\o.ExactDict/\o.data=.dict es ep/\es.toList=xs.map (entryOfKey (tupleKind (jbg P w)))/\(xs.map (·.1)).Nodup
 | .set S n=>h.SetOf (intKind P w) a S n
 | .ins C dx fs=>H dx=some (.own a) /\ fs.length <= 1000 /\ dx≠a /\ h.get? a=some (PySem.W.instObj C dx) /\
   ∃mA,h.Ns1 dx mA/\(∀f,RelO (fs.lookup f) (mA f))/\PySem.Within mA (fs.map (·.1))
 | .own _=>∃o,h.get? a=some o
 | .xd fs=>∃mA,h.Ns1 a mA/\∀f,RelO (fs.lookup f) (mA f)
 | .rng lo hi=>∃t u v,h.get? a=some { cls:=.type "range",data:=.fields #[.int lo t,.int hi u,.int 1 v] }
 | .frz o u=>h.get? a=some o/\ObjOk H h a u
 | .tbl ps=>h.get? a=some { cls:=.none,data:=.fields ps }
 | .met f x=>h.get? a=some (PySem.W.methodObj (.ref f) (.ref x))
 | .ext φ=>φ h/\(∃o,h.get? a=some o)/\∀h1 h2:Heap,φ h1->(∀o,h1.get? a=some o->h2.get? a=some o)->φ h2
def HOk (H:Hp) (h:Heap):Prop:=∀a o,H a=some o->ObjOk P w H h a o
end
section
variable {P:Program} {w:World} {H H':Hp} {h h':Heap} {a:Addr} {o:HO}
theorem ObjOk.lt (x:ObjOk P w H h a o):a<h.objs.size:=by
 cases o with
 | lst xs=>obtain⟨_,_,_,_,e⟩:=x;exact Heap.lt_size e
 | tup xs=>obtain⟨_,_,_,p⟩:=x;exact p.lt
 | dK kvs=>obtain⟨_,_,_,_,o,_,_,e,_⟩:=x;exact Heap.lt_size e
 | dT kvs=>obtain⟨_,_,_,_,o,_,_,e,_⟩:=x;exact Heap.lt_size e
 | set S n=>obtain⟨o,_,_,_,e,_⟩:=x;exact Heap.lt_size e
 | ins C dx fs=>obtain⟨_,_,_,e,_⟩:=x;exact Heap.lt_size e
 | own y=>obtain⟨_,e⟩:=x;exact Heap.lt_size e
 | xd fs=>obtain⟨_,⟨_,_,_,e,_⟩,_⟩:=x;exact Heap.lt_size e
 | rng lo hi=>obtain⟨_,_,_,e⟩:=x;exact Heap.lt_size e
 | frz ob u=>obtain⟨e,_⟩:=x;exact Heap.lt_size e
 | tbl ps=>exact Heap.lt_size (show h.get? a=some _ from x)
 | met f y=>exact Heap.lt_size (show h.get? a=some _ from x)
 | ext φ=>obtain⟨_,⟨_,e⟩,_⟩:=x;exact Heap.lt_size e
theorem Paired.mapP {α β:Type} {F G:α->β->Prop}:∀{l₁:List α} {l₂:List β},Paired F l₁ l₂->(∀a b,F a b->G a b)->Paired G l₁ l₂
 | _,_,.nil,_=>.nil
 | _,_,.cons r t,f=>.cons (f _ _ r) (Paired.mapP t f)
theorem ObjOk.stay (x:ObjOk P w H h a o) (k:∀b u,(b=a\/H b=some (.own a))->h.get? b=some u->h'.get? b=some u)
    (ho:∀b,H b=some (.own a)->H' b=some (.own a)) (ht:∀b xs,H b=some (.tup xs)->H' b=some (.tup xs)):ObjOk P w H' h' a o:=by
  induction o with
  | lst xs=>obtain⟨z,its,n,r,e⟩:=x;exact⟨z,its,n,r,k _ _ (.inl rfl) e⟩
  | tup xs=>obtain⟨z,its,r,ob,e,c⟩:=x;exact⟨z,its,r,ob,k _ _ (.inl rfl) e,c⟩
  | dK kvs=>obtain⟨z,y,vs,r,ob,es,ep,e,c⟩:=x;exact⟨z,y,vs,r,ob,es,ep,k _ _ (.inl rfl) e,c⟩
  | dT kvs =>
    obtain⟨z,y,xs,r,ob,es,ep,e,c⟩:=x;exact⟨z,y,xs,Paired.mapP r fun p q z=>⟨z.1,ht _ _ z.2.1,z.2.2⟩,ob,es,ep,k _ _ (.inl rfl) e,c⟩
  | set S n=>obtain⟨ob,es,ep,t,e,c⟩:=x;exact⟨ob,es,ep,t,k _ _ (.inl rfl) e,c⟩
  | ins C dx fs =>
    obtain⟨d,z,ne,e,mA,⟨od,es,ep,e2,c⟩,r⟩:=x;exact⟨ho _ d,z,ne,k _ _ (.inl rfl) e,mA,⟨od,es,ep,k _ _ (.inr d) e2,c⟩,r⟩
  | own y=>obtain⟨ob,e⟩:=x;exact⟨ob,k _ _ (.inl rfl) e⟩
  | xd fs=>obtain⟨mA,⟨od,es,ep,e,c⟩,r⟩:=x;exact⟨mA,⟨od,es,ep,k _ _ (.inl rfl) e,c⟩,r⟩
  | rng lo hi=>obtain⟨t,u,v,e⟩:=x;exact⟨t,u,v,k _ _ (.inl rfl) e⟩
  | frz ob u ih=>obtain⟨e,q⟩:=x;exact⟨k _ _ (.inl rfl) e,ih q⟩
  | tbl ps =>
    have e:h.get? a=some { cls:=.none,data:=.fields ps }:=x;show h'.get? a=some { cls:=.none,data:=.fields ps };exact k a _ (.inl rfl) e
  | met f y =>
    have e:h.get? a=some (PySem.W.methodObj (.ref f) (.ref y)):=x;show h'.get? a=some (PySem.W.methodObj (.ref f) (.ref y));exact k a _ (.inl rfl) e
  | ext φ=>obtain⟨p,⟨o,e⟩,st⟩:=x;exact⟨st _ _ p fun o q=>k _ _ (.inl rfl) q,⟨o,k _ _ (.inl rfl) e⟩,st⟩
theorem HOk.lt (x:HOk P w H h) (e:H a=some o):a<h.objs.size:=(x a o e).lt
theorem HOk.fresh (x:HOk P w H h) (e:h.objs.size<=a):H a=none:=by
 cases q:H a with
 | none=>rfl
 | some u=>exact absurd (xam (x.lt q) e) (xbg _)
theorem HOk.kept (x:HOk P w H h) (k:∀b u,h.get? b=some u->h'.get? b=some u):HOk P w H h':=fun a o e =>
 (x a o e).stay (fun b u _ q=>k b u q) (fun _ q=>q) fun _ _ q=>q
theorem HOk.laid (x:HOk P w H h) (k:∀b u,h.get? b=some u->h'.get? b=some u) (hp:h.objs.size<=a) (new:ObjOk P w (upd H a o) h' a o):HOk P w (upd H a o) h':=fun b u e=>by
 have hn:=x.fresh hp;by_cases hb:b=a
 ·subst hb;rw[jag] at e;cases e;exact new
 ·rw[jaK hb] at e;exact (x b u e).stay (fun c v _ q=>k c v q) (fun c q=>by rw[jaK (jaA q hn)];exact q) fun c xs q=>by rw[jaK (jaA q hn)];exact q
end
def Rd (H:Hp) (a:Addr) (u:HO):Prop:=H a=some u\/∃o,H a=some (.frz o u)
theorem Rd.of {H:Hp} {a:Addr} {u:HO} (h:H a=some u):Rd H a u:=.inl h
theorem Rd.ok {P:Program} {w:World} {H:Hp} {h:Heap} {a:Addr} {u:HO} (r:Rd H a u) (x:HOk P w H h):ObjOk P w H h a u:=by
 rcases r with r | ⟨o,r⟩
 ·exact x a u r
 ·obtain⟨_,q⟩:=x a _ r;exact q
def Mut:Option HO->Prop
 | some (.lst _)=>True
 | some (.dK _)=>True
 | some (.dT _)=>True
 | some (.set _ _)=>True
 | some (.ins _ _ _)=>True
 | some (.ext _)=>True
 | _=>False
section
variable {P:Program} {w:World} {H:Hp} {h h':Heap} {x e:Addr} {o':HO}
theorem HOk.write (ok:HOk P w H h) (mu:Mut (H x)) (he:e=x\/H e=some (.own x)) (k:∀b u,b≠e->h.get? b=some u->h'.get? b=some u) (heo:∃u,h'.get? e=some u)
  (new:ObjOk P w (upd H x o') h' x o'):HOk P w (upd H x o') h':=fun b u q=>by
 have nown:∀c y,H c=some (.own y)->c≠x:=fun c y r z=>by subst z;rw[r] at mu;exact mu
 have ntup:∀c xs,H c=some (.tup xs)->c≠x:=fun c xs r z=>by subst z;rw[r] at mu;exact mu
 by_cases hb:b=x
 ·subst hb;rw[jag] at q;cases q;exact new
 ·rw[jaK hb] at q;by_cases hbe:b=e
  ·have q':H b=some (.own x):=by
    rcases he with z | z
    ·exact absurd (hbe.trans z) hb
    ·rw[hbe];exact z
   rw[q] at q';cases q';obtain⟨v,hv⟩:=heo;exact⟨v,by rw[hbe];exact hv⟩
  ·refine (ok b u q).stay (fun c v hc r=>k c v ?_ r) (fun c r=>by rw[jaK (nown c b r)];exact r) fun c xs r=>by rw[jaK (ntup c xs r)];exact r
   rcases hc with rfl | hc
   ·exact hbe
   ·rintro rfl;rcases he with z | z
    ·exact nown c b hc z
    ·rw[hc] at z;cases z;exact hb rfl
end
structure Un (fs ex:List Addr) (H H':Hp) (h h':Heap):Prop where
 keep:∀b o,h.get? b=some o->H b=none->b∉fs->b∉ex->h'.get? b=some o
 slot:∀b o,h.get? b=some o->H b=none->b∈fs->b∉ex->∃sl,h'.get? b=some { o with slots:=sl }
 free:∀b o,h.get? b=some o->H b=none->b∉ex->H' b=none
 there:∀b o,h.get? b=some o->b∉ex->∃o',h'.get? b=some o'
 tups:∀b xs,H b=some (.tup xs)->H' b=some (.tup xs)
 frzs:∀b o u,H b=some (.frz o u)->H' b=some (.frz o u)
 tbls:∀b ps,H b=some (.tbl ps)->∃more,H' b=some (.tbl (ps++more))
section
variable {fs fs' ex ex':List Addr} {H H1 H2:Hp} {h h1 h2 h':Heap} {a x e:Addr} {o:HO}
theorem Un.any (u:Un fs ex H H1 h h1) {b:Addr} {ob:Obj} (q:h.get? b=some ob) (n:H b=none) (hx:b∉ex):∃sl,h1.get? b=some { ob with slots:=sl }:=by
 by_cases hb:b∈fs
 ·exact u.slot b ob q n hb hx
 ·exact⟨ob.slots,u.keep b ob q n hb hx⟩
theorem Un.trans (a:Un fs ex H H1 h h1) (b:Un fs ex H1 H2 h1 h2):Un fs ex H H2 h h2 where
 keep:=fun c ob q n hc hx=>b.keep c ob (a.keep c ob q n hc hx) (a.free c ob q n hx) hc hx
 slot:=fun c ob q n hc hx=>by
  obtain⟨sl,e1⟩:=a.slot c ob q n hc hx;obtain⟨sl',e2⟩:=b.slot c _ e1 (a.free c ob q n hx) hc hx;exact⟨sl',e2⟩
 free:=fun c ob q n hx=>by
  obtain⟨o',e1⟩:=a.there c ob q hx;exact b.free c o' e1 (a.free c ob q n hx) hx
 there:=fun c ob q hx=>by
  obtain⟨o',e1⟩:=a.there c ob q hx;exact b.there c o' e1 hx
 tups:=fun c xs q=>b.tups c xs (a.tups c xs q)
 frzs:=fun c ob xs q=>b.frzs c ob xs (a.frzs c ob xs q)
 tbls:=fun c ps q=>by
  obtain⟨m1,e1⟩:=a.tbls c ps q;obtain⟨m2,e2⟩:=b.tbls c _ e1;exact⟨m1++m2,by rw[e2,Array.append_assoc]⟩
theorem Un.kept (k:∀b u,h.get? b=some u->h'.get? b=some u):Un fs ex H H h h' :=
 ⟨fun b ob q _ _ _=>k b ob q,fun b ob q _ _ _=>⟨ob.slots,k b ob q⟩,fun _ _ _ n _=>n,fun b ob q _=>⟨ob,k b ob q⟩,fun _ _ q=>q,fun _ _ _ q=>q,fun _ ps q=>⟨#[],by rw[q];simp⟩⟩
theorem Un.refl:Un fs ex H H h h:=Un.kept fun _ _ q=>q
theorem Un.laid (k:∀b u,h.get? b=some u->h'.get? b=some u) (hp:h.objs.size<=a) (hn:H a=none):Un fs ex H (upd H a o) h h' where
 keep:=fun b u q _ _ _=>k b u q
 slot:=fun b u q _ _ _=>⟨u.slots,k b u q⟩
 free:=fun b u q n _=>by rw[jaK (xax (xam (Heap.lt_size q) hp))];exact n
 there:=fun b u q _=>⟨u,k b u q⟩
 tups:=fun b xs q=>by rw[jaK (jaA q hn)];exact q
 frzs:=fun b u xs q=>by rw[jaK (jaA q hn)];exact q
 tbls:=fun b ps q=>⟨#[],by rw[jaK (jaA q hn),q];simp⟩
theorem Un.write (mu:Mut (H x)) (he:e=x\/H e=some (.own x)) (k:∀b u,b≠e->h.get? b=some u->h'.get? b=some u) (heo:∃u,h'.get? e=some u):Un fs ex H (upd H x o) h h':=by
 have hx:∀b,H b=none->b≠x:=fun b n z=>by subst z;rw[n] at mu;exact mu
 have hb:∀b,H b=none->b≠e:=fun b n z=>by
  subst z;rcases he with r | r
  ·exact hx b n r
  ·rw[n] at r;cases r
 have hm:∀b u,H b=some u->¬Mut (some u)->b≠x:=fun b u q nm z=>by subst z;rw[q] at mu;exact nm mu
 refine⟨fun b u q n _ _=>k b u (hb b n) q,fun b u q n _ _=>⟨u.slots,k b u (hb b n) q⟩,fun b u q n _=>by rw[jaK (hx b n)];exact n,fun b u q _=>?_,
  fun b xs q=>by rw[jaK (hm b _ q fun z=>z)];exact q,fun b u xs q=>by rw[jaK (hm b _ q fun z=>z)];exact q,fun b ps q=>⟨#[],by rw[jaK (hm b _ q fun z=>z),q];simp⟩⟩
 by_cases hbe:b=e
 ·subst hbe;exact heo
 ·exact⟨u,k b u hbe q⟩
theorem Un.mono (u:Un fs ex H H1 h h1) (hs:∀b∈fs,b∈fs') (hx:∀b∈ex,b∈ex'):Un fs' ex' H H1 h h1 :=
 ⟨fun b ob q n hb he=>u.keep b ob q n (fun z=>hb (hs b z)) fun z=>he (hx b z),fun _ _ q n _ he=>u.any q n fun z=>he (hx _ z),fun b ob q n he=>u.free b ob q n fun z=>he (hx b z),fun b ob q he=>u.there b ob q fun z=>he (hx b z),u.tups,u.frzs,u.tbls⟩
end
def trk (h:Heap) (H:Hp):List Addr:=(List.range h.objs.size).filter fun a=>(H a).isSome
def jjk (h:Heap) (H:Hp):Heap:=PySem.W.hideAll h (trk h H)
theorem jhw (h:Heap) (H:Hp):(jjk h H).objs.size=h.objs.size:=PySem.W.hideAll_size _ _
theorem jjl {h:Heap} {H:Hp} {b:Addr} {o:Obj} (e:h.get? b=some o) (n:H b=none):(jjk h H).get? b=some o :=
 PySem.W.hideAll_get _ e fun hm=>by
  have q:(H b).isSome=true:=(xbl.mp hm).2;rw[n] at q;simp at q
theorem jlg {h:Heap} {H:Hp} {b:Addr} {o:Obj} (e:(jjk h H).get? b=some o):h.get? b=some o/\H b=none:=by
  have e':h.get? b=some o:=PySem.W.of_hideAll (trk h H) e;refine⟨e',?_⟩;cases q:H b with
  | none=>rfl
  | some x =>
    have hm:b∈trk h H:=xbl.mpr ⟨xaU.mpr (Heap.lt_size e'),by simp [q]⟩;have z:(jjk h H).get? b=none:=PySem.W.hideAll_none (trk h H) hm;rw[z] at e;cases e
def jlh (g h:Heap) (L:Addr):List (Addr × Obj):=(List.range h.objs.size).filterMap fun a=>if a=L\/(g.get? a).isSome=true then none else (h.get? a).map fun o=>(a,o)
def jbz (g h:Heap) (L d:Addr):List (Addr × Obj):=(jlh g h L).filter fun p=>decide (p.1≠d)
structure Mod (K:PySem.W.Frag) (mg:Str->Option Value) (base:Heap):Prop where
 kin:K.In base
 glob:base.Ns mainGlobals mg
 blt:∃mb,base.Ns builtinsNs mb/\∀x:Str,x≠"__name__"->mb x=bootBuiltins x
 nolimit:base.NoLimit
structure Cx where
 prog:Program
 w:World
 K:PySem.W.Frag
 mg:Str->Option Value
 base:Heap
 A:Around
 N:List Str
 s₀:Shared
 H₀:Hp
 env:Env
 outer:List Env
 stack:List Env
 ex:List Addr
 fn:Str->Bool
 calm:Bool
 pn:List (Addr × Obj)
 xe:Value->Shared->Prop
def frs (l:List Env):List Addr:=l.filterMap (·.frame)
abbrev Cx.fs (X:Cx):List Addr:=frs X.outer
def Vis (sc:Scope) (x:Str):Prop:=sc.names.lookup x=some .local\/sc.names.lookup x=some .cell\/sc.names.lookup x=some .free
def Loc (sc:Scope) (x:Str):Prop:=sc.names.lookup x=some .local\/sc.names.lookup x=some .cell
def Look (env:Env) (h:Heap) (m:Str->Option Value) (x:Str) (u:Value):Prop :=
 (env.kindOf x=some .local/\m x=some u)\/((env.kindOf x=some .cell\/env.kindOf x=some .free)/\∃c,env.cells.lookup x=some c/\h.IsCell c (some u))
structure Cx.Ok (X:Cx):Prop where
 mod:Mod X.K X.mg X.base
 kind:X.env.scope.kind=.function
 glob:X.env.globals=mainGlobals
 blt:X.env.builtins=builtinsNs
 above:X.s₀.heap.objs.size<=X.env.locals
 inj:∀x y c,X.env.cells.lookup x=some c->X.env.cells.lookup y=some c->x=y
 has:∀x,(X.env.kindOf x=some .cell\/X.env.kindOf x=some .free)->∃c,X.env.cells.lookup x=some c
 cab:∀x c,X.fn x=true->X.env.cells.lookup x=some c->X.s₀.heap.objs.size<=c
 hd:X.calm=true->X.A.handled=none
 frames:X.A.frames=some X.stack
 stk:X.stack=X.outer\/(X.stack=X.env::X.outer/\X.env.frame=some X.env.locals)
 exf:∀b∈X.ex,b≠X.env.locals/\∀x c,X.env.cells.lookup x=some c->c≠b
 bs:∀b o,X.base.get? b=some o->X.s₀.heap.get? b=some o/\X.H₀ b=none
 bsz:X.base.objs.size<=X.s₀.heap.objs.size
 noex:∀b o,X.base.get? b=some o->b∉X.ex
 exfs:∀b∈X.ex,b∉X.fs
 funs:X.s₀.heap.FunFrames X.base X.outer
 frf:∀b∈X.fs,X.H₀ b=none
structure Inv (X:Cx) (pins:List (Addr × Obj)) (σ:List (Option V)) (H:Hp) (s:Shared):Prop where
 ok:X.Ok
 os:s.os=X.s₀.os
 bare:AllBare s.gens
 base:Un X.fs X.ex X.H₀ H X.s₀.heap s.heap
 loc:∃m,s.heap.Ns X.env.locals m/\∀(i:Nat) (x:Str) (v:V),X.N[i]?=some x->σ[i]?=some (some v)->Vis X.env.scope x->∃u,RelV v u/\Look X.env s.heap m x u
 cell:∀x c,X.env.cells.lookup x=some c->∃v,s.heap.IsCell c v
 free:H X.env.locals=none
 freeC:∀x c,X.env.cells.lookup x=some c->H c=none
 pin:∀p∈X.pn++pins,s.heap.get? p.1=some p.2/\H p.1=none/\p.1≠X.env.locals/\p.1∉X.fs/\∀v,p.2.data≠.cell v
 hok:HOk X.prog X.w H s.heap
 len:σ.length=X.N.length
section
variable {X:Cx} {pins:List (Addr × Obj)} {σ:List (Option V)} {H H':Hp} {s:Shared} {h':Heap}
theorem Cx.Ok.nofr (ok:X.Ok) {b:Addr} {o:Obj} (e:X.base.get? b=some o):b∉X.fs:=fun hb=>by
 have:=(ok.funs.mem hb).1;rw[e] at this;cases this
theorem Inv.bs (I:Inv X pins σ H s):∀b o,X.base.get? b=some o->s.heap.get? b=some o/\H b=none:=fun b o e =>
 ⟨I.base.keep b o (I.ok.bs b o e).1 (I.ok.bs b o e).2 (I.ok.nofr e) (I.ok.noex b o e),I.base.free b o (I.ok.bs b o e).1 (I.ok.bs b o e).2 (I.ok.noex b o e)⟩
theorem Inv.bk (I:Inv X pins σ H s):∀b o,X.base.get? b=some o->s.heap.get? b=some o:=fun b o e=>(I.bs b o e).1
theorem Inv.mod (I:Inv X pins σ H s):Mod X.K X.mg X.base:=I.ok.mod
theorem Inv.kIn (I:Inv X pins σ H s):X.K.In s.heap:=I.ok.mod.kin.keeps I.bk
theorem Inv.nolimit (I:Inv X pins σ H s):s.heap.NoLimit:=I.ok.mod.nolimit.keeps I.bk
theorem Inv.fr (I:Inv X pins σ H s):∃m,Fr X.base X.env.locals s.heap m :=
 let ⟨m,hn,_⟩:=I.loc
 ⟨m,hn,I.bk,xaA I.ok.bsz I.ok.above⟩
theorem Inv.lt (I:Inv X pins σ H s):X.env.locals<s.heap.objs.size:=let ⟨_,hn,_⟩:=I.loc;hn.lt
theorem Inv.sz (I:Inv X pins σ H s):X.s₀.heap.objs.size<=s.heap.objs.size:=xaA I.ok.above (xa2 I.lt)
theorem Inv.nofs (I:Inv X pins σ H s) {a:Addr} (h:s.heap.objs.size<=a):a∉X.fs:=fun hb=>by
 obtain⟨_,o,ho,_⟩:=I.ok.funs.mem hb;exact absurd (xam (Heap.lt_size ho) (xaA I.sz h)) (xbg _)
theorem Inv.cne (I:Inv X pins σ H s):∀x c,X.env.cells.lookup x=some c->c≠X.env.locals:=fun x c e z=>by
 obtain⟨v,o,ho,hd⟩:=I.cell x c e;obtain⟨m,⟨o',es,ep,ho',hd',_⟩,_⟩:=I.loc;rw[z,ho'] at ho;cases ho;rw[hd'] at hd;cases hd
theorem Inv.funs (I:Inv X pins σ H s):s.heap.FunFrames X.base X.outer:=by
  have all:∀(l:List Env),(∀b∈frs l,b∈X.fs)->X.s₀.heap.FunFrames X.base l->s.heap.FunFrames X.base l:=by
    intro l;induction l with
    | nil=>intro _ _;trivial
    | cons env r ih =>
      intro hs hl;obtain⟨hk,⟨L,o,hf,hn,ho,hd⟩,hr⟩:=hl;have hL:L∈X.fs:=hs L (by unfold frs;rw[xby,hf];exact xaX);obtain⟨sl,e⟩:=I.base.slot L o ho (I.ok.frf L hL) hL fun z=>I.ok.exfs L z hL;exact⟨hk,⟨L,_,hf,hn,e,hd⟩,ih (fun b hb=>hs b (by unfold frs;rw[xby,hf];exact xan _ hb)) hr⟩
  exact all X.outer (fun _ hb=>hb) I.ok.funs
theorem Inv.stack (I:Inv X pins σ H s):s.heap.FunFrames X.base X.stack:=by
 rcases I.ok.stk with e | ⟨e,hf⟩
 ·rw[e];exact I.funs
 ·rw[e];obtain⟨m,hn,_⟩:=I.loc;refine .cons (by rw[I.ok.kind];decide) hf hn ?_ I.funs;exact Heap.get?_none_of_le (xaA I.ok.bsz I.ok.above)
theorem Inv.stkSub (I:Inv X pins σ H s):∀b∈frs X.stack,b∈X.env.locals::X.fs:=fun b hb=>by
 rcases I.ok.stk with e | ⟨e,hf⟩
 ·rw[e] at hb;exact xan _ hb
 ·rw[e] at hb;unfold frs at hb;rw[xby,hf] at hb;exact hb
theorem Inv.stkFree (I:Inv X pins σ H s):∀b∈frs X.stack,H b=none:=fun b hb=>by
 rcases xav.mp (I.stkSub b hb) with e | hb
 ·rw[e];exact I.free
 ·obtain⟨_,o,ho,_⟩:=I.ok.funs.mem hb;exact I.base.free b o ho (I.ok.frf b hb) fun z=>I.ok.exfs b z hb
theorem Inv.step {g':Array GenState} {t':Nat} {d':Drawn} {ch:List Addr} (I:Inv X pins σ H s)
  (hch:∀b∈ch,(b∈X.ex\/X.s₀.heap.objs.size<=b)/\b≠X.env.locals/\(∀x c,X.env.cells.lookup x=some c->c≠b)/\∀p∈X.pn++pins,p.1≠b)
  (keep:∀b o,b≠X.env.locals->b∉X.fs->b∉ch->s.heap.get? b=some o->H b=none->h'.get? b=some o)
  (slot:∀b o,b≠X.env.locals->b∈X.fs->b∉ch->s.heap.get? b=some o->H b=none->∃sl,h'.get? b=some { o with slots:=sl }) (free:∀b o,b∉ch->s.heap.get? b=some o->H b=none->H' b=none)
  (there:∀b o,b∉ch->s.heap.get? b=some o->∃o',h'.get? b=some o')
  (tups:∀b xs,H b=some (.tup xs)->H' b=some (.tup xs)) (frzs:∀b o u,H b=some (.frz o u)->H' b=some (.frz o u)) (tbls:∀b ps,H b=some (.tbl ps)->∃more,H' b=some (.tbl (ps++more)))
  (ns:∀m,s.heap.Ns X.env.locals m->h'.Ns X.env.locals m) (hok:HOk X.prog X.w H' h') (hg:AllBare g') :
  Inv X pins σ H' { s with heap:=h',gens:=g',drawn:=d',toks:=t' }:=by
 have neL:∀b o,X.s₀.heap.get? b=some o->b≠X.env.locals:=fun b o e=>xax (xam (Heap.lt_size e) I.ok.above);have neC:∀b o,X.s₀.heap.get? b=some o->b∉X.ex->b∉ch:=fun b o e hx hb=>by
  rcases (hch b hb).1 with z | z
  ·exact hx z
  ·exact absurd (xam (Heap.lt_size e) z) (xbg _)
 have cellK:∀x c,X.env.cells.lookup x=some c->∀v,s.heap.IsCell c v->h'.IsCell c v:=fun x c e v ⟨o,ho,hd⟩=>by
  have nch:c∉ch:=fun z=>(hch c z).2.2.1 x c e rfl;by_cases hc:c∈X.fs
  ·obtain⟨sl,q⟩:=slot c o (I.cne x c e) hc nch ho (I.freeC x c e);exact⟨_,q,hd⟩
  ·exact⟨o,keep c o (I.cne x c e) hc nch ho (I.freeC x c e),hd⟩
 refine⟨I.ok,I.os,hg,⟨fun b o e n hb hx=>?_,fun b o e n hb hx=>?_,fun b o e n hx=>?_,fun b o e hx=>?_,fun b xs e=>tups b xs (I.base.tups b xs e),fun b o xs e=>frzs b o xs (I.base.frzs b o xs e),fun b ps e=>?_⟩,?_,fun x c e=>?_,?_,fun x c e=>?_,fun p hp=>?_,hok,I.len⟩
 ·exact keep b o (neL b o e) hb (neC b o e hx) (I.base.keep b o e n hb hx) (I.base.free b o e n hx)
 ·obtain⟨sl,e1⟩:=I.base.slot b o e n hb hx;obtain⟨sl',e2⟩:=slot b _ (neL b o e) hb (neC b o e hx) e1 (I.base.free b o e n hx);exact⟨sl',e2⟩
 ·obtain⟨o',e1⟩:=I.base.there b o e hx;exact free b o' (neC b o e hx) e1 (I.base.free b o e n hx)
 ·obtain⟨o',e1⟩:=I.base.there b o e hx;exact there b o' (neC b o e hx) e1
 ·obtain⟨m1,e1⟩:=I.base.tbls b ps e;obtain⟨m2,e2⟩:=tbls b _ e1;exact⟨m1++m2,by rw[e2,Array.append_assoc]⟩
 ·obtain⟨m,hn,hl⟩:=I.loc;refine⟨m,ns m hn,fun i x v e1 e2 e3=>?_⟩;obtain⟨u,r,l⟩:=hl i x v e1 e2 e3;refine⟨u,r,?_⟩;rcases l with l | ⟨k,c,e,z⟩
  ·exact .inl l
  ·exact .inr ⟨k,c,e,cellK x c e _ z⟩
 ·obtain⟨v,z⟩:=I.cell x c e;exact⟨v,cellK x c e v z⟩
 ·obtain⟨m,⟨o,_,_,ho,_⟩,_⟩:=I.loc;exact free _ o (fun z=>(hch _ z).2.1 rfl) ho I.free
 ·obtain⟨v,o,ho,hd⟩:=I.cell x c e;exact free c o (fun z=>(hch c z).2.2.1 x c e rfl) ho (I.freeC x c e)
 ·obtain⟨e,n,ne,nf,d⟩:=I.pin p hp;have nch:p.1∉ch:=fun z=>(hch p.1 z).2.2.2 p hp rfl;exact⟨keep p.1 p.2 ne nf nch e n,free p.1 p.2 nch e n,ne,nf,d⟩
theorem Inv.un {t':Nat} (I:Inv X pins σ H s) (u:Un X.fs [] H H' s.heap h') (hok:HOk X.prog X.w H' h'):Inv X pins σ H' { s with heap:=h',toks:=t' }:=by
 obtain⟨m,⟨o,es,ep,ho,r⟩,_⟩:=id I.loc;obtain⟨sl,hL⟩:=u.any ho I.free (by simp);exact I.step (g':=s.gens) (d':=s.drawn) (ch:=[]) (fun _ z=>nomatch z) (fun b o _ hb _ e n=>u.keep b o e n hb (by simp)) (fun b o _ hb _ e n=>u.slot b o e n hb (by simp)) (fun b o _ e n=>u.free b o e n (by simp)) (fun b o _ e=>u.there b o e (by simp)) u.tups u.frzs u.tbls (fun m' hm=>by
  obtain⟨o',es',ep',ho',r'⟩:=hm;rw[ho] at ho';cases ho';exact⟨_,es',ep',hL,r'⟩) hok I.bare
theorem Inv.call {g':Array GenState} {t':Nat} {d':Drawn} {ch:List Addr} (I:Inv X pins σ H s) (u:Un (frs X.stack) ch H H' s.heap h') (hok:HOk X.prog X.w H' h') (hg:AllBare g')
  (hch:∀b∈ch,(b∈X.ex\/X.s₀.heap.objs.size<=b)/\b≠X.env.locals/\(∀x c,X.env.cells.lookup x=some c->c≠b)/\∀p∈X.pn++pins,p.1≠b) :
  Inv X pins σ H' { s with heap:=h',gens:=g',drawn:=d',toks:=t' }:=by
 obtain⟨m,⟨o,es,ep,ho,r⟩,_⟩:=id I.loc;obtain⟨sl,hL⟩:=u.any ho I.free fun z=>(hch _ z).2.1 rfl;exact I.step (ch:=ch) hch (fun b o hL hb hc e n=>u.keep b o e n (fun z=>(xav.mp (I.stkSub b z)).elim hL hb) hc) (fun b o _ _ hc e n=>u.any e n hc) (fun b o hc e n=>u.free b o e n hc) (fun b o hc e=>u.there b o e hc) u.tups u.frzs u.tbls (fun m' hm=>by
  obtain⟨o',es',ep',ho',r'⟩:=hm;rw[ho] at ho';cases ho';exact⟨_,es',ep',hL,r'⟩) hok hg
theorem Inv.turned {t':Nat} {it:Addr} (I:Inv X pins σ H s) (k:∀b o,b≠it->s.heap.get? b=some o->h'.get? b=some o) (hn:H it=none) (hL:it≠X.env.locals)
  (h1:it∈X.ex\/X.s₀.heap.objs.size<=it) (h2:∀x c,X.env.cells.lookup x=some c->c≠it) (h3:∀p∈X.pn++pins,p.1≠it):Inv X pins σ H { s with heap:=h',toks:=t' }:=by
 have nit:∀b u,H b=some u->b≠it:=fun b u e z=>by rw[z,hn] at e;cases e
 refine I.step (g':=s.gens) (d':=s.drawn) (ch:=[it]) (fun b hb=>?_) (fun b o _ _ hc e _=>k b o (fun z=>hc (by simp [z])) e) (fun b o _ _ hc e _=>⟨o.slots,k b o (fun z=>hc (by simp [z])) e⟩) (fun _ _ _ _ n=>n)
  (fun b o hc e=>⟨o,k b o (fun z=>hc (by simp [z])) e⟩) (fun _ _ e=>e) (fun _ _ _ e=>e) (fun b ps e=>⟨#[],by rw[e];simp⟩) (fun m hm=>?_) (fun b u e=>?_) I.bare
 ·have e:b=it:=by simpa using hb
  subst e;exact⟨h1,hL,h2,h3⟩
 ·obtain⟨o,es,ep,ho,r⟩:=hm;exact⟨o,es,ep,k _ o (Ne.symm hL) ho,r⟩
 ·refine (I.hok b u e).stay (fun c v hc q=>k c v ?_ q) (fun _ q=>q) fun _ _ q=>q;rcases hc with z | z
  ·rw[z];exact nit b u e
  ·exact nit c _ z
theorem Inv.tok (I:Inv X pins σ H s) (t:Nat):Inv X pins σ H { s with toks:=t }:=I.un (h':=s.heap) (t':=t) Un.refl I.hok
theorem Inv.kept {t':Nat} (I:Inv X pins σ H s) (k:∀b u,s.heap.get? b=some u->h'.get? b=some u):Inv X pins σ H { s with heap:=h',toks:=t' }:=I.un (Un.kept k) (I.hok.kept k)
theorem Inv.laid {a:Addr} {o:HO} {t':Nat} (I:Inv X pins σ H s) (k:∀b u,s.heap.get? b=some u->h'.get? b=some u) (hp:s.heap.objs.size<=a) (new:ObjOk X.prog X.w (upd H a o) h' a o) :
  Inv X pins σ (upd H a o) { s with heap:=h',toks:=t' }:=I.un (Un.laid k hp (I.hok.fresh hp)) (I.hok.laid k hp new)
theorem Inv.write {x e:Addr} {o:HO} {t':Nat} (I:Inv X pins σ H s) (mu:Mut (H x)) (he:e=x\/H e=some (.own x)) (k:∀b u,b≠e->s.heap.get? b=some u->h'.get? b=some u) (heo:∃u,h'.get? e=some u)
  (new:ObjOk X.prog X.w (upd H x o) h' x o):Inv X pins σ (upd H x o) { s with heap:=h',toks:=t' }:=I.un (Un.write mu he k heo) (I.hok.write mu he k heo new)
theorem Inv.pins_of {pins':List (Addr × Obj)} (I:Inv X pins σ H s) (h:∀p∈pins',s.heap.get? p.1=some p.2/\H p.1=none/\p.1≠X.env.locals/\p.1∉X.fs/\∀v,p.2.data≠.cell v):Inv X pins' σ H s :=
 ⟨I.ok,I.os,I.bare,I.base,I.loc,I.cell,I.free,I.freeC,fun p hp=>(xaO.mp hp).elim (fun z=>I.pin p (xbs _ z)) (h p),I.hok,I.len⟩
theorem jgg {N:List Str} (hN:N.Nodup) {i j:Nat} {x:Str} (a:N[i]?=some x) (b:N[j]?=some x):i=j:=by
 obtain⟨h1,e1⟩:=xaf.mp a;obtain⟨h2,e2⟩:=xaf.mp b;exact (List.getElem_inj hN).mp (e1.trans e2.symm)
theorem jfg {M:Model} {A:Around} {E:Value->Shared->Prop} {i:Nat} {x:Str} {v:V} {u:Value} {Q:Unit->Shared->Prop} (I:Inv X pins σ H s) (hN:X.N.Nodup) (hi:X.N[i]?=some x) (hx:Loc X.env.scope x) (r:RelV v u)
  (h:∀s',Inv X pins (σ.set i (some v)) H s'->(∃a,Heap.SameBut a s.heap s'.heap/\(a=X.env.locals\/X.env.cells.lookup x=some a))->Q () s') (hf:X.fn x=true\/X.env.scope.names.lookup x=some .local:=by first | exact .inl rfl | exact .inr rfl | assumption):wpAny M A (storeName X.env x u) Q E s:=by
 obtain⟨m,hn,hl⟩:=id I.loc;have hcls:(X.env.scope.kind==.class||(X.env.scope.kind==.module&&X.env.locals != X.env.globals))=false:=by rw[I.ok.kind];rfl
 have hiσ:i<σ.length:=by rw[I.len];exact (xaf.mp hi).1
 have cne:=I.cne;have tracked:∀{a:Addr} {h':Heap},(∃o,s.heap.get? a=some o/\H a=none)->Heap.SameBut a s.heap h'->HOk X.prog X.w H h':=fun {a h'} ha hs b ob e=>by
  obtain⟨_,_,hfree⟩:=ha;refine (I.hok b ob e).stay (fun c w' hc q=>(hs.2 c ?_).trans q) (fun _ q=>q) fun _ _ q=>q;rintro rfl;rcases hc with rfl | hc
  ·rw[hfree] at e;cases e
  ·rw[hfree] at hc;cases hc
 rcases hx with hk | hk
 ·refine wpAny_storeName_local hk hn (fun h' hn' hs=>?_) hcls;obtain⟨oL,_,_,hoL,_⟩:=id hn;refine h _ ⟨I.ok,I.os,I.bare,⟨fun b o e n hb hx=>?_,fun b o e n hb hx=>?_,I.base.free,fun b o e hx=>?_,I.base.tups,I.base.frzs,I.base.tbls⟩,⟨_,hn',fun j y v' e1 e2 e3=>?_⟩,fun y c e=>?_,I.free,I.freeC,fun p hp=>?_,tracked ⟨oL,hoL,I.free⟩ hs,by simpa using I.len⟩ ⟨_,hs,.inl rfl⟩
  ·exact (hs.2 b (xax (xam (Heap.lt_size e) I.ok.above))).trans (I.base.keep b o e n hb hx)
  ·obtain⟨sl,e1⟩:=I.base.slot b o e n hb hx;exact⟨sl,(hs.2 b (xax (xam (Heap.lt_size e) I.ok.above))).trans e1⟩
  ·obtain⟨o',e1⟩:=I.base.there b o e hx;exact⟨o',(hs.2 b (xax (xam (Heap.lt_size e) I.ok.above))).trans e1⟩
  ·by_cases hj:j=i
   ·subst hj;rw[hi] at e1;cases e1;rw[List.getElem?_set_self hiσ] at e2;cases e2;exact⟨u,r,.inl ⟨hk,by simp⟩⟩
   ·rw[List.getElem?_set_ne (Ne.symm hj)] at e2;obtain⟨u',r',q⟩:=hl j y v' e1 e2 e3;refine⟨u',r',?_⟩;rcases q with ⟨k,e⟩ | ⟨k,c,e,z⟩
    ·refine .inl ⟨k,?_⟩;have:y≠x:=fun e=>hj (jgg hN e1 (e▸hi));simp [this,e]
    ·exact .inr ⟨k,c,e,z.sameBut hs (cne y c e)⟩
  ·obtain⟨w',z⟩:=I.cell y c e;exact⟨w',z.sameBut hs (cne y c e)⟩
  ·obtain⟨e,n,ne,nf,d⟩:=I.pin p hp;exact⟨(hs.2 p.1 ne).trans e,n,ne,nf,d⟩
 ·have hfn:X.fn x=true:=by
   rcases hf with z | z
   ·exact z
   ·rw[z] at hk;cases hk
  obtain⟨c,hc⟩:=I.ok.has x (.inl hk);obtain⟨w',z⟩:=I.cell x c hc;refine wpAny_storeName_cell I.ok.kind hk hc z (fun h' hc' hs=>?_);obtain⟨oc,hoc,hocd⟩:=id z;refine h { s with heap:=h' } ⟨I.ok,I.os,I.bare,⟨fun b o e n hb hx=>?_,fun b o e n hb hx=>?_,I.base.free,fun b o e hx=>?_,I.base.tups,I.base.frzs,I.base.tbls⟩,⟨m,hn.sameBut hs (Ne.symm (cne x c hc)),fun j y v' e1 e2 e3=>?_⟩,fun y c' e=>?_,I.free,I.freeC,fun p hp=>?_,tracked ⟨oc,hoc,I.freeC x c hc⟩ hs,by simpa using I.len⟩ ⟨c,hs,.inr hc⟩
  ·exact (hs.2 b (xax (xam (Heap.lt_size e) (I.ok.cab x c hfn hc)))).trans (I.base.keep b o e n hb hx)
  ·obtain⟨sl,e1⟩:=I.base.slot b o e n hb hx;exact⟨sl,(hs.2 b (xax (xam (Heap.lt_size e) (I.ok.cab x c hfn hc)))).trans e1⟩
  ·obtain⟨o',e1⟩:=I.base.there b o e hx;exact⟨o',(hs.2 b (xax (xam (Heap.lt_size e) (I.ok.cab x c hfn hc)))).trans e1⟩
  ·by_cases hj:j=i
   ·subst hj;rw[hi] at e1;cases e1;rw[List.getElem?_set_self hiσ] at e2;cases e2;exact⟨u,r,.inr ⟨.inl hk,c,hc,hc'⟩⟩
   ·rw[List.getElem?_set_ne (Ne.symm hj)] at e2;obtain⟨u',r',q⟩:=hl j y v' e1 e2 e3;refine⟨u',r',?_⟩;rcases q with q | ⟨k,c',e,z'⟩
    ·exact .inl q
    ·refine .inr ⟨k,c',e,z'.sameBut hs ?_⟩;rintro rfl;exact hj (jgg hN e1 (I.ok.inj _ _ _ e hc▸hi))
  ·by_cases hcc:c'=c
   ·subst hcc;exact⟨_,hc'⟩
   ·obtain⟨w2,z2⟩:=I.cell y c' e;exact⟨w2,z2.sameBut hs hcc⟩
  ·obtain⟨e,n,ne,nf,d⟩:=I.pin p hp;refine⟨(hs.2 p.1 ?_).trans e,n,ne,nf,d⟩;intro q;rw[q,hoc] at e;have q':oc=p.2:=Option.some.inj e;exact d w' (by rw[<- q'];exact hocd)
theorem jdF {M:Model} {A:Around} {E:Value->Shared->Prop} {i:Nat} {x:Str} {v:V} {u:Value} {Q:Unit->Shared->Prop} (I:Inv X pins σ H s) (hN:X.N.Nodup) (hi:X.N[i]?=some x) (hx:Loc X.env.scope x) (r:RelV v u)
  (h:∀s',Inv X pins (σ.set i (some v)) H s'->Q () s') (hf:X.fn x=true\/X.env.scope.names.lookup x=some .local:=by first | exact .inl rfl | exact .inr rfl | assumption):wpAny M A (storeName X.env x u) Q E s :=
 jfg I hN hi hx r (fun s' I' _=>h s' I') hf
theorem Inv.call' {s':Shared} {ch:List Addr} (I:Inv X pins σ H s) (ho:s'.os=s.os) (u:Un (frs X.stack) ch H H' s.heap s'.heap) (hok:HOk X.prog X.w H' s'.heap) (hg:AllBare s'.gens)
  (hch:∀b∈ch,(b∈X.ex\/X.s₀.heap.objs.size<=b)/\b≠X.env.locals/\(∀x c,X.env.cells.lookup x=some c->c≠b)/\∀p∈X.pn++pins,p.1≠b):Inv X pins σ H' s':=by
 obtain⟨h',g',d',t',o'⟩:=s';have e:o'=s.os:=ho;subst e;exact I.call (g':=g') (t':=t') (d':=d') u hok hg hch
end
abbrev XK:=Value->Option Addr->Hp->Prop
abbrev St:=List (Option V)
abbrev VK:=V->Hp->Prop
abbrev TE:=St->Hp->VK->Prop
abbrev TT:=St->Hp->(Bool->Hp->Prop)->Prop
abbrev TA:=St->Hp->(List V->Hp->Prop)->Prop
structure Ends where
 nx:St->Hp->Prop
 rt:VK
 bk:St->Hp->Prop:=fun _ _=>False
 ct:St->Hp->Prop:=fun _ _=>False
abbrev TS:=Ends->St->Hp->Prop
def EP (X:Cx) (pins:List (Addr × Obj)) (σ:St) (Q:VK) (u:Value) (s':Shared):Prop:=∃v H',Inv X pins σ H' s'/\RelV v u/\Q v H'
def TP (X:Cx) (pins:List (Addr × Obj)) (σ:St) (Q:Bool->Hp->Prop) (b:Bool) (s':Shared):Prop:=∃H',Inv X pins σ H' s'/\Q b H'
def AP (X:Cx) (pins:List (Addr × Obj)) (σ:St) (Q:List V->Hp->Prop) (us:List Value) (s':Shared):Prop:=∃vs H',Inv X pins σ H' s'/\Vals vs us/\Q vs H'
def SP (X:Cx) (pins:List (Addr × Obj)) (D:Ends) (f:Flow) (s':Shared):Prop :=
 match f with
 | .next=>∃σ' H',Inv X pins σ' H' s'/\D.nx σ' H'
 | .brk=>∃σ' H',Inv X pins σ' H' s'/\D.bk σ' H'
 | .cont=>∃σ' H',Inv X pins σ' H' s'/\D.ct σ' H'
 | .ret u=>∃v σ' H',Inv X pins σ' H' s'/\RelV v u/\D.rt v H'
def PE (X:Cx) (e:Expr) (t:TE):Prop :=
 ∀(pins:List (Addr × Obj)) (s:Shared) (σ:St) (H:Hp) (Q:VK),Inv X pins σ H s->t σ H Q->wpAny (model X.prog X.w) X.A (eval e X.env) (EP X pins σ Q) X.xe s
def PT (X:Cx) (e:Expr) (t:TT):Prop :=
 ∀(pins:List (Addr × Obj)) (s:Shared) (σ:St) (H:Hp) (Q:Bool->Hp->Prop),Inv X pins σ H s->t σ H Q->wpAny (model X.prog X.w) X.A (isTrue e X.env (eval e X.env)) (TP X pins σ Q) X.xe s
def PW (X:Cx) (e:Expr) (t:TT):Prop :=
 ∀(whole:Sem Value) (pins:List (Addr × Obj)) (s:Shared) (σ:St) (H:Hp) (Q:Bool->Hp->Prop),Inv X pins σ H s->t σ H Q->wpAny (model X.prog X.w) X.A (isTrue e X.env whole) (TP X pins σ Q) X.xe s
theorem PW.pt {X:Cx} {e:Expr} {t:TT} (h:PW X e t):PT X e t:=h _
def PA (X:Cx) (es:List Expr) (t:TA):Prop :=
 ∀(pos:Pos) (pins:List (Addr × Obj)) (s:Shared) (σ:St) (H:Hp) (Q:List V->Hp->Prop),Inv X pins σ H s->t σ H Q->wpAny (model X.prog X.w) X.A (spliced (backTo pos (starEach es X.env))) (AP X pins σ Q) X.xe s
def PS (X:Cx) (st:Stmt) (t:TS):Prop :=
 ∀(pins:List (Addr × Obj)) (s:Shared) (σ:St) (H:Hp) (D:Ends),Inv X pins σ H s->t D σ H->wpAny (model X.prog X.w) X.A (exec st X.env) (SP X pins D) X.xe s
def PSs (X:Cx) (st:List Stmt) (t:TS):Prop :=
 ∀(pins:List (Addr × Obj)) (s:Shared) (σ:St) (H:Hp) (D:Ends),Inv X pins σ H s->t D σ H->wpAny (model X.prog X.w) X.A (execs st X.env) (SP X pins D) X.xe s
theorem thn {α:Type} {t:Sem α} {Q Q':α->Shared->Prop} {M:Model} {A:Around} {E:Value->Shared->Prop} {s:Shared} (h:wpAny M A t Q E s) (hQ:∀a s,Q a s->Q' a s):wpAny M A t Q' E s:=wpAny_mono h hQ fun _ _ x=>x
section
variable {X:Cx}
def jli (i:Nat):TE:=fun σ H Q=>∃v,σ[i]?=some (some v)/\Q v H
def tC (v:V):TE:=fun _ H Q=>Q v H
theorem jmR {i:Nat} {x:Str} {pos:Pos} (hN:X.N[i]?=some x) (hv:Vis X.env.scope x) (hd:(x==("__debug__":Str))=false:=by decide) (hcd:(x==("__classdict__":Str))=false:=by decide):PE X (.Name x pos) (jli i):=by
 intro pins s σ H Q I h;obtain⟨v,e,h⟩:=h;obtain⟨m,hn,hl⟩:=I.loc;obtain⟨u,r,l⟩:=hl i x v hN e hv;have fin:EP X pins σ Q u s:=⟨v,H,I,r,h⟩;rcases l with ⟨hk,hm⟩ | ⟨hk,c,hc,hcell⟩
 ·exact wpAny_Name (wpAny_loadName_local I.ok.kind hk hn hm fin) hd
 ·rcases hk with hk | hk
  ·exact wpAny_Name (wpAny_loadName_cell I.ok.kind hk hc hcell fin) hd
  ·exact wpAny_Name (wpAny_loadName_free I.ok.kind hk hc hcell fin hcd) hd
theorem jab {i j pos}:PE X (.Constant (.int i) j pos) (tC (.int i)):=fun _ _ _ H _ I h=>wpAny_Constant_int ⟨.int i,H,I.tok _,⟨_,rfl⟩,h⟩
theorem jdD {b j pos}:PE X (.Constant (.bool b) j pos) (tC (.bl b)):=fun _ _ _ H _ I h=>Constant_bool ⟨.bl b,H,I,rfl,h⟩
theorem ja6 {j pos}:PE X (.Constant .none j pos) (tC .non):=fun _ _ _ H _ I h=>Constant_none ⟨.non,H,I,rfl,h⟩
def Gl (X:Cx) (x:Str):Prop:=X.env.kindOf x=some .globalImplicit
theorem jhx {E:Value->Shared->Prop} {pins:List (Addr × Obj)} {s:Shared} {σ:St} {H:Hp} {x:Str} {u:Value} {pos:Pos} {Q:Value->Shared->Prop} (I:Inv X pins σ H s) (hg:Gl X x) (hm:X.mg x=some u) (h:Q u s)
  (hd:(x==("__debug__":Str))=false:=by decide):wpAny (model X.prog X.w) X.A (eval (.Name x pos) X.env) Q E s :=
 Calls.Name_function_global I.ok.kind hg (Calls.loadGlobal_global (by rw[I.ok.glob];exact I.mod.glob.keeps I.bk) hm h) hd
theorem jdM {E:Value->Shared->Prop} {pins:List (Addr × Obj)} {s:Shared} {σ:St} {H:Hp} {x:Str} {u:Value} {pos:Pos} {Q:Value->Shared->Prop} (I:Inv X pins σ H s) (hg:Gl X x) (hm:X.mg x=none) (hv:bootBuiltins x=some u) (h:Q u s)
  (hn:x≠"__name__":=by decide) (hd:(x==("__debug__":Str))=false:=by decide):wpAny (model X.prog X.w) X.A (eval (.Name x pos) X.env) Q E s:=by
 obtain⟨mb,h1,h2⟩:=I.mod.blt;exact Calls.Name_function_global I.ok.kind hg (Calls.loadGlobal_builtin (by rw[I.ok.glob];exact I.mod.glob.keeps I.bk) hm (by rw[I.ok.blt];exact h1.keeps I.bk) ((h2 x hn).trans hv) h) hd
theorem jhy {x:Str} {v:V} {u:Value} {pos:Pos} (hg:Gl X x) (hm:X.mg x=some u) (r:RelV v u) (hd:(x==("__debug__":Str))=false:=by decide):PE X (.Name x pos) (tC v) :=
 fun _ _ _ H _ I h=>jhx I hg hm ⟨v,H,I,r,h⟩ hd
theorem jcQ {x:Str} {v:V} {u:Value} {pos:Pos} (hg:Gl X x) (hm:X.mg x=none) (hv:bootBuiltins x=some u) (r:RelV v u) (hn:x≠"__name__":=by decide) (hd:(x==("__debug__":Str))=false:=by decide):PE X (.Name x pos) (tC v) :=
 fun _ _ _ H _ I h=>jdM I hg hm hv ⟨v,H,I,r,h⟩ hn hd
variable {a b:Expr} {ta tb:TE} {pos:Pos}
def tB (t:TE):TT:=fun σ H Q=>t σ H fun x H1=>∃c,x=.bl c/\Q c H1
theorem jbH {e:Expr} {t:TE} (h:PE X e t) (he:∀whole,isTrue e X.env whole=(do let v <- whole;standAt e.pos;holding [v] (truthy v)):=by intro _;rfl):PT X e (tB t):=by
 intro pins s σ H Q I hw;refine isTrue_plain (thn (h pins s σ H _ I hw) fun v s1 ⟨x,H1,I1,r1,q1⟩=>?_) (he _);obtain⟨d,rfl,q⟩:=q1;cases r1;exact wpAny_truthy_bool ⟨H1,I1,q⟩
variable {tA tB':TT} {jbz:List Expr}
def jmS (t u:TT):TT:=fun σ H Q=>t σ H fun c H1=>if c=true then u σ H1 Q else Q false H1
def tOr (t u:TT):TT:=fun σ H Q=>t σ H fun c H1=>if c=true then Q true H1 else u σ H1 Q
def jmT (t:TT):TT:=fun σ H Q=>t σ H fun c H1=>Q (!c) H1
theorem jeF (ha:PT X a tA):PW X (.BoolOp .And [a] pos) tA:=by
 intro wh pins s σ H Q I h;refine isTrue_and (thn (ha pins s σ H Q I h) fun c s1 e=>?_);cases c with
 | true=>exact isTrue_and_nil e
 | false=>exact e
theorem jfh (ha:PT X a tA):PW X (.BoolOp .Or [a] pos) tA:=by
 intro wh pins s σ H Q I h;refine isTrue_or (thn (ha pins s σ H Q I h) fun c s1 e=>?_);cases c with
 | false=>exact isTrue_or_nil e
 | true=>exact e
theorem jfi (ha:PT X a tA) (hb:PW X (.BoolOp .And (b::jbz) pos) tB'):PW X (.BoolOp .And (a::b::jbz) pos) (jmS tA tB'):=by
 intro wh pins s σ H Q I h;refine isTrue_and (thn (ha pins s σ H _ I h) fun c s1 ⟨H1,I1,q1⟩=>?_);cases c with
 | true=>exact hb wh pins s1 σ H1 Q I1 q1
 | false=>exact⟨H1,I1,q1⟩
theorem jfW (ha:PT X a tA) (hb:PW X (.BoolOp .Or (b::jbz) pos) tB'):PW X (.BoolOp .Or (a::b::jbz) pos) (tOr tA tB'):=by
 intro wh pins s σ H Q I h;refine isTrue_or (thn (ha pins s σ H _ I h) fun c s1 ⟨H1,I1,q1⟩=>?_);cases c with
 | true=>exact⟨H1,I1,q1⟩
 | false=>exact hb wh pins s1 σ H1 Q I1 q1
theorem jcZ (ha:PT X a tA):PT X (.UnaryOp .Not a pos) (jmT tA):=by
 intro pins s σ H Q I h;exact isTrue_not (ha pins s σ H (fun c H1=>Q (!c) H1) I h)
def jhz (ta tb:TE):TE:=fun σ H Q=>ta σ H fun x H1=>∃c,x=.bl c/\if c=true then tb σ H1 Q else Q (.bl false) H1
def jmU (ta tb:TE):TE:=fun σ H Q=>ta σ H fun x H1=>∃c,x=.bl c/\if c=true then Q (.bl true) H1 else tb σ H1 Q
def jhA (ta:TE):TE:=fun σ H Q=>ta σ H fun x H1=>∃c,x=.bl c/\Q (.bl (!c)) H1
theorem jeo {op} {t:TE} (h:PE X a t):PE X (.BoolOp op [a] pos) t:=fun pins s σ H Q I hw=>BoolOp_one (h pins s σ H Q I hw)
theorem jdu (ha:PE X a ta) (hb:PE X (.BoolOp .And (b::jbz) pos) tb):PE X (.BoolOp .And (a::b::jbz) pos) (jhz ta tb):=by
 intro pins s σ H Q I h;refine BoolOp_and (thn (ha pins s σ H _ I h) fun v s1 ⟨x,H1,I1,r1,q1⟩=>?_);obtain⟨c,rfl,q1⟩:=q1;cases r1;refine wpAny_truthy_bool ?_;cases c with
 | true=>exact hb pins s1 σ H1 Q I1 q1
 | false=>exact⟨.bl false,H1,I1,rfl,q1⟩
theorem pe_or (ha:PE X a ta) (hb:PE X (.BoolOp .Or (b::jbz) pos) tb):PE X (.BoolOp .Or (a::b::jbz) pos) (jmU ta tb):=by
 intro pins s σ H Q I h;refine BoolOp_or (thn (ha pins s σ H _ I h) fun v s1 ⟨x,H1,I1,r1,q1⟩=>?_);obtain⟨c,rfl,q1⟩:=q1;cases r1;refine wpAny_truthy_bool ?_;cases c with
 | false=>exact hb pins s1 σ H1 Q I1 q1
 | true=>exact⟨.bl true,H1,I1,rfl,q1⟩
theorem jmV (ha:PE X a ta):PE X (.UnaryOp .Not a pos) (jhA ta):=by
 intro pins s σ H Q I h;refine UnaryOp_ (thn (ha pins s σ H _ I h) fun v s1 ⟨x,H1,I1,r1,q1⟩=>?_);obtain⟨c,rfl,q1⟩:=q1;cases r1;exact not_of (wpAny_truthy_bool ⟨.bl (!c),H1,I1,rfl,q1⟩)
def tIf (t:TT) (ta tb:TE):TE:=fun σ H Q=>t σ H fun c H1=>if c=true then ta σ H1 Q else tb σ H1 Q
theorem jeG {c:Expr} (hc:PT X c tA) (ha:PE X a ta) (hb:PE X b tb):PE X (.IfExp c a b pos) (tIf tA ta tb):=by
 intro pins s σ H Q I h;refine wpAny_IfExp (thn (hc pins s σ H _ I h) fun d s1 ⟨H1,I1,q1⟩=>?_);cases d with
 | true=>exact ha pins s1 σ H1 Q I1 q1
 | false=>exact hb pins s1 σ H1 Q I1 q1
end
def SqL (K:PySem.W.Frag) (H:Hp) (a:Addr) (xs:List V):Prop :=
 Rd H a (.lst xs) \/
  ∃(o:Obj) (its:Array Value) (n:Nat),K.lookup a=some o/\o.cls=.type "list"/\o.dict=none/\o.data=.seq its n/\its.size<=sizeLine/\Vals xs its.toList
def SqT (K:PySem.W.Frag) (H:Hp) (a:Addr) (xs:List V):Prop :=
 Rd H a (.tup xs) \/
  ∃(o:Obj) (its:Array Value) (n:Nat),K.lookup a=some o/\o.cls=.type "tuple"/\o.data=.seq its n/\its.size<=sizeLine/\Vals xs its.toList
def absV:Value->Option V
 | .none=>some .non
 | .bool b=>some (.bl b)
 | .int i _=>some (.int i)
 | .str x _=>some (.str x)
 | .bytes b _=>some (.byt b)
 | .float b _=>some (.flt b)
 | .ref a=>some (.ref a)
 | .type n=>some (.ty n)
 | _=>none
theorem RelV.abs {x:V} {u:Value} (r:RelV x u):absV u=some x:=by
 cases x with
 | non=>cases r;rfl
 | bl _=>cases r;rfl
 | int _=>obtain⟨t,rfl⟩:=r;rfl
 | str _=>obtain⟨t,rfl⟩:=r;rfl
 | byt _=>obtain⟨t,rfl⟩:=r;rfl
 | flt _=>obtain⟨t,rfl⟩:=r;rfl
 | ref _=>cases r;rfl
 | ty _=>cases r;rfl
theorem RelV.inj {x y:V} {u:Value} (r:RelV x u) (q:RelV y u):x=y:=Option.some.inj (r.abs.symm.trans q.abs)
theorem Vals.inj:∀{xs ys:List V} {us:List Value},Vals xs us->Vals ys us->xs=ys
 | _,_,_,.nil,.nil=>rfl
 | _,_,_,.cons r t,.cons r' t'=>by rw[r.inj r',Vals.inj t t']
section
variable {X:Cx} {pins:List (Addr × Obj)} {σ:St} {H:Hp} {s:Shared} {a:Addr} {xs ys:List V}
theorem SqL.of {K:PySem.W.Frag} (h:H a=some (.lst xs)):SqL K H a xs:=.inl (.inl h)
theorem SqT.of {K:PySem.W.Frag} (h:H a=some (.tup xs)):SqT K H a xs:=.inl (.inl h)
theorem Inv.list (I:Inv X pins σ H s) (h:SqL X.K H a xs):∃its:List Value,Vals xs its/\PlainL s.heap a its.toArray/\xs.length<=sizeLine:=by
 rcases h with h | ⟨o,its,n,hk,hc,hd,hs,hz,r⟩
 ·obtain⟨z,its,n,r,e⟩:=h.ok I.hok;exact⟨its,r,⟨_,n,e,rfl,rfl,rfl⟩,z⟩
 ·refine⟨its.toList,r,⟨o,n,I.kIn a o hk,hc,hd,by simpa using hs⟩,?_⟩;have e:=r.length;simp only[Array.length_toList] at e;omega
theorem Inv.tuple (I:Inv X pins σ H s) (h:SqT X.K H a xs):∃its:List Value,Vals xs its/\IsTup s.heap a its.toArray/\xs.length<=sizeLine:=by
 rcases h with h | ⟨o,its,n,hk,hc,hs,hz,r⟩
 ·obtain⟨z,its,r,p⟩:=h.ok I.hok;exact⟨its,r,p,z⟩
 ·refine⟨its.toList,r,⟨o,I.kIn a o hk,hc,n,by simpa using hs⟩,?_⟩;have e:=r.length;simp only[Array.length_toList] at e;omega
theorem Inv.list_inj (I:Inv X pins σ H s) (h:SqL X.K H a xs) (h':SqL X.K H a ys):xs=ys:=by
 obtain⟨its,r,⟨o,n,e,_,_,d⟩,_⟩:=I.list h;obtain⟨its',r',⟨o',n',e',_,_,d'⟩,_⟩:=I.list h';rw[e] at e';cases e';rw[d] at d';injection d' with d1 _
 have:its=its':=by simpa using congrArg Array.toList d1
 subst this;exact r.inj r'
theorem Inv.tuple_inj (I:Inv X pins σ H s) (h:SqT X.K H a xs) (h':SqT X.K H a ys):xs=ys:=by
 obtain⟨its,r,⟨o,e,_,n,d⟩,_⟩:=I.tuple h;obtain⟨its',r',⟨o',e',_,n',d'⟩,_⟩:=I.tuple h';rw[e] at e';cases e';rw[d] at d';injection d' with d1 _
 have:its=its':=by simpa using congrArg Array.toList d1
 subst this;exact r.inj r'
end
abbrev Cx.wish (X:Cx) (E:Value->Shared->Prop):Cx:={ X with xe:=E }
abbrev Cx.nox (X:Cx):Cx:=X.wish fun _ _=>False
theorem Cx.Ok.wish {X:Cx} (ok:X.Ok) (E:Value->Shared->Prop):(X.wish E).Ok :=
 ⟨ok.mod,ok.kind,ok.glob,ok.blt,ok.above,ok.inj,ok.has,ok.cab,ok.hd,ok.frames,ok.stk,ok.exf,ok.bs,ok.bsz,ok.noex,ok.exfs,ok.funs,ok.frf⟩
theorem Cx.Ok.unwish {X:Cx} {E:Value->Shared->Prop} (ok:(X.wish E).Ok):X.Ok :=
 ⟨ok.mod,ok.kind,ok.glob,ok.blt,ok.above,ok.inj,ok.has,ok.cab,ok.hd,ok.frames,ok.stk,ok.exf,ok.bs,ok.bsz,ok.noex,ok.exfs,ok.funs,ok.frf⟩
section
variable {X:Cx} {pins:List (Addr × Obj)} {σ:St} {H:Hp} {s:Shared} {E:Value->Shared->Prop}
theorem Inv.wish (I:Inv X pins σ H s) (E:Value->Shared->Prop):Inv (X.wish E) pins σ H s:=⟨I.ok.wish E,I.os,I.bare,I.base,I.loc,I.cell,I.free,I.freeC,I.pin,I.hok,I.len⟩
theorem Inv.unwish (I:Inv (X.wish E) pins σ H s):Inv X pins σ H s:=⟨I.ok.unwish,I.os,I.bare,I.base,I.loc,I.cell,I.free,I.freeC,I.pin,I.hok,I.len⟩
theorem SP.unwish {D:Ends} {f:Flow} {s':Shared} (h:SP (X.wish E) pins D f s'):SP X pins D f s':=by
 cases f with
 | next=>obtain⟨σ',H',I,q⟩:=h;exact⟨σ',H',I.unwish,q⟩
 | brk=>obtain⟨σ',H',I,q⟩:=h;exact⟨σ',H',I.unwish,q⟩
 | cont=>obtain⟨σ',H',I,q⟩:=h;exact⟨σ',H',I.unwish,q⟩
 | ret u=>obtain⟨v,σ',H',I,r,q⟩:=h;exact⟨v,σ',H',I.unwish,r,q⟩
theorem PE.nox {e:Expr} {t:TE} (h:PE X.nox e t):PE X e t:=fun pins s σ H Q I hw =>
 wpAny_mono (h pins s σ H Q (I.wish _) hw) (fun _ _ ⟨v,H',I',r,q⟩=>⟨v,H',I'.unwish,r,q⟩) fun _ _ z=>False.elim z
theorem PT.nox {e:Expr} {t:TT} (h:PT X.nox e t):PT X e t:=fun pins s σ H Q I hw =>
 wpAny_mono (h pins s σ H Q (I.wish _) hw) (fun _ _ ⟨H',I',q⟩=>⟨H',I'.unwish,q⟩) fun _ _ z=>False.elim z
theorem PSs.nox {st:List Stmt} {t:TS} (h:PSs X.nox st t):PSs X st t:=fun pins s σ H D I hw =>
 wpAny_mono (h pins s σ H D (I.wish _) hw) (fun _ _ q=>q.unwish) fun _ _ z=>False.elim z
end
section
variable {X:Cx} {st:Stmt} {jbz:List Stmt} {t u:TS} {e:Expr} {te:TE} {pos:Pos}
def jhB:TS:=fun D σ H=>D.nx σ H
def jmG (t u:TS):TS:=fun D σ H=>t { D with nx:=u D } σ H
theorem jaz:PSs X [] jhB:=fun _ _ σ H _ I h=>wpAny_execs_nil ⟨σ,H,I,h⟩
theorem jad (h1:PS X st t) (h2:PSs X jbz u):PSs X (st::jbz) (jmG t u):=by
  intro pins s σ H D I h;refine wpAny_execs_cons (thn (h1 pins s σ H { D with nx:=u D } I h) fun f s1 q=>?_);cases f with
  | next =>
    obtain⟨σ',H',I',q⟩:=q;exact h2 pins s1 σ' H' D I' q
  | ret v=>exact q
  | brk=>exact q
  | cont=>exact q
theorem jai (h1:PS X st t):PSs X [st] t:=by
 intro pins s σ H D I h;refine wpAny_execs_cons (thn (h1 pins s σ H D I h) fun f s1 q=>?_);cases f with
 | next=>exact wpAny_execs_nil q
 | ret v=>exact q
 | brk=>exact q
 | cont=>exact q
def jgh:TS:=fun D σ H=>D.bk σ H
def jjm:TS:=fun D σ H=>D.ct σ H
theorem Inv.quiet {pins:List (Addr × Obj)} {σ:St} {H:Hp} {s:Shared} (I:Inv X pins σ H s):interactive X.env=false:=by simp [interactive,I.ok.kind]
def jhC (te:TE):TS:=fun D σ H=>te σ H fun _ H1=>D.nx σ H1
theorem jbY (he:PE X e te) (hs:swapsWith e none pos.line X.env=pure false:=by rfl):PS X (.Expr e pos) (jhC te):=by
 intro pins s σ H D I h;exact wpAny_Expr_any (thn (he pins s σ H _ I h) fun v s1 ⟨x,H1,I1,r1,q1⟩=>⟨σ,H1,I1,q1⟩) I.quiet hs
def jmW (te:TE):TS:=fun D σ H=>te σ H D.rt
theorem jas (he:PE X e te):PS X (.Return (some e) pos) (jmW te):=by
 intro pins s σ H D I h;exact wpAny_Return_some (thn (he pins s σ H _ I h) fun v s1 ⟨x,H1,I1,r1,q1⟩=>⟨x,σ,H1,I1,r1,q1⟩)
def jjn:TS:=fun D _ H=>D.rt .non H
def jmX (c:TT) (t u:TS):TS:=fun D σ H=>c σ H fun b H1=>if b=true then t D σ H1 else u D σ H1
theorem jaW {c:Expr} {a b:List Stmt} {tc:TT} (hc:PT X c tc) (ha:PSs X a t) (hb:PSs X b u):PS X (.If c a b pos) (jmX tc t u):=by
 intro pins s σ H D I h;refine wpAny_If (thn (hc pins s σ H _ I h) fun d s1 ⟨H1,I1,q1⟩=>?_);cases d with
 | true=>exact ha pins s1 σ H1 D I1 q1
 | false=>exact hb pins s1 σ H1 D I1 q1
def jmY:TS:=fun _ _ _=>False
theorem jbB {sts:List Stmt}:PSs X sts jmY:=fun _ _ _ _ _ _ h=>h.elim
end
abbrev TG:=V->St->Hp->(St->Hp->Prop)->Prop
abbrev TGs:=List V->St->Hp->(St->Hp->Prop)->Prop
def PG (X:Cx) (target:Expr) (t:TG):Prop :=
  ∀ (pins : List (Addr × Obj)) (s : Shared) (σ : St) (H : Hp) (v : V) (u : Value) (Q : St -> Hp -> Prop), Inv X pins σ H s -> RelV v u -> t v σ H Q ->
    wpAny (model X.prog X.w) X.A (assign target X.env u) (fun _ s'=>∃σ' H',Inv X pins σ' H' s'/\Q σ' H') X.xe s
def PGs (X:Cx) (ts:List Expr) (t:TGs):Prop :=
  ∀ (pins : List (Addr × Obj)) (s : Shared) (σ : St) (H : Hp) (vs : List V) (us : List Value) (Q : St -> Hp -> Prop), Inv X pins σ H s -> Vals vs us -> t vs σ H Q ->
    wpAny (model X.prog X.w) X.A (assignInOrder ((assignEach ts X.env).map (·.2)) us) (fun _ s'=>∃σ' H',Inv X pins σ' H' s'/\Q σ' H') X.xe s
abbrev TSet:=V->V->V->Hp->(Hp->Prop)->Prop
def PSet (X:Cx) (t:TSet):Prop :=
  ∀ (pins : List (Addr × Obj)) (s : Shared) (σ : St) (H : Hp) (o i v : V) (ov iv u : Value) (Q : Hp -> Prop), Inv X pins σ H s -> RelV o ov -> RelV i iv -> RelV v u -> t o i v H Q ->
    wpAny (model X.prog X.w) X.A (setItem ov iv u) (fun _ s'=>∃H',Inv X pins σ H' s'/\Q H') X.xe s
section
variable {X:Cx} {pos:Pos}
def jbM (i:Nat):TG:=fun v σ H Q=>Q (σ.set i (some v)) H
theorem jao {i:Nat} {x:Str} (hN:X.N.Nodup) (hi:X.N[i]?=some x) (hx:Loc X.env.scope x) (hf:X.fn x=true\/X.env.scope.names.lookup x=some .local:=by first | exact .inl rfl | exact .inr rfl | assumption):PG X (.Name x pos) (jbM i):=by
 intro pins s σ H v u Q I r h;exact wpAny_assign_Name (jdF I hN hi hx r (fun s' I'=>⟨_,H,I',h⟩) hf)
def jmH:TGs:=fun vs σ H Q=>vs=[]/\Q σ H
def jfX (t:TG) (u:TGs):TGs:=fun vs σ H Q=>∃v r,vs=v::r/\t v σ H fun σ' H'=>u r σ' H' Q
theorem jbZ:PGs X [] jmH:=by
 intro pins s σ H vs us Q I r h;obtain⟨e,h⟩:=h;subst e;cases r;exact assignInOrder_nil ⟨σ,H,I,h⟩
theorem jaC {e:Expr} {es:List Expr} {t:TG} {u:TGs} (h1:PG X e t) (h2:PGs X es u)
    (hs:(assignEach (e::es) X.env).map (·.2)=assign e X.env::(assignEach es X.env).map (·.2):=by rfl):PGs X (e::es) (jfX t u):=by
  intro pins s σ H vs us Q I r h;obtain⟨v,vr,e1,h⟩:=h;subst e1;cases r with
  | cons r rr =>
    rw[hs];refine assignInOrder_cons (thn (h1 pins s σ H _ _ _ I r h) fun _ s1 ⟨σ1,H1,I1,q1⟩=>?_);exact h2 pins s1 σ1 H1 _ _ Q I1 rr q1
def jlj (K:PySem.W.Frag) (n:Nat) (t:TGs):TG:=fun v σ H Q=>∃a xs,v=.ref a/\SqT K H a xs/\xs.length=n/\t xs σ H Q
theorem jep {es:List Expr} {k:Nat} {t:TGs} {n:Nat} (hc:X.calm=true) (h:PGs X es t)
  (hn:(assignEach es X.env).length=n:=by rfl) (hst:(assignEach es X.env).findIdx? (·.1)=none:=by rfl):PG X (.Tuple es k pos) (jlj X.K n t):=by
 intro pins s σ H v u Q I r hw;obtain⟨a,xs,e1,hq,hl,hw⟩:=hw;subst e1;cases r;obtain⟨its,rv,ht,hz⟩:=I.tuple hq;refine assign_Tuple_tuple (I.ok.hd hc) ht (by simp [hn,<- hl,rv.length]) hst fun h' hx=>?_;have I1:Inv X pins σ H { s with heap:=h' }:=I.kept (t':=s.toks) fun b o e=>hx b o (xax (Heap.lt_size e)) e;exact h pins _ σ H xs _ Q I1 (by simpa using rv) hw
def gSub (to ti:TE) (t:TSet):TG:=fun v σ H Q=>to σ H fun o H1=>ti σ H1 fun i H2=>t o i v H2 fun H3=>Q σ H3
theorem jhD {o i:Expr} {to ti:TE} {t:TSet} (ho:PE X o to) (hi:PE X i ti) (hs:PSet X t)
  (ha:∀v,assign (.Subscript o i pos) X.env v=(do
   let ov <- holding [v] (eval o X.env)
   let iv <- holding [v,ov] (eval i X.env)
   standAt pos
   holding [v,ov,iv] (setItem ov iv v)
   release [v,ov,iv] []):=by intro _;rfl):PG X (.Subscript o i pos) (gSub to ti t):=by
 intro pins s σ H v u Q I r h;rw[ha];refine wpAny_bind (wpAny_holding (thn (ho pins s σ H _ I h) fun ov s1 ⟨x,H1,I1,r1,q1⟩=>?_));refine wpAny_bind (wpAny_holding (thn (hi pins s1 σ H1 _ I1 q1) fun iv s2 ⟨y,H2,I2,r2,q2⟩=>?_));refine wpAny_bind (wpAny_standAt (wpAny_bind (wpAny_holding (thn (hs pins s2 σ H2 x y v ov iv u _ I2 r1 r2 r q2) fun _ s3 ⟨H3,I3,q3⟩=>?_))));exact wpAny_release ⟨σ,H3,I3,q3⟩
def jkj (te:TE) (g:TG):TS:=fun D σ H=>te σ H fun x H1=>g x σ H1 D.nx
theorem jc0 {tg e:Expr} {te:TE} {g:TG} (he:PE X e te) (hg:PG X tg g) (hs:swapsWithSole [tg] e pos.line X.env=pure false:=by rfl) (hw:swappedStores [tg] e X.env=pure none:=by rfl)
  (h1:(assignEach [tg] X.env).map (·.2)=[assign tg X.env]:=by rfl):PS X (.Assign [tg] e pos) (jkj te g):=by
 intro pins s σ H D I h;refine wpAny_Assign_stores (thn (he pins s σ H _ I h) fun v s1 ⟨x,H1,I1,r1,q1⟩=>?_) hs hw;rw[h1];exact thn (hg pins s1 σ H1 x v _ I1 r1 q1) fun _ s2 q=>q
theorem jat {i:Nat} {x:Str} {e:Expr} {te:TE} {pos':Pos} (hN:X.N.Nodup) (hi:X.N[i]?=some x) (hx:Loc X.env.scope x) (he:PE X e te) (hs:swapsWith e (some (.Name x pos')) pos.line X.env=pure false:=by rfl) (hf:X.fn x=true\/X.env.scope.names.lookup x=some .local:=by first | exact .inl rfl | exact .inr rfl | assumption) :
  PS X (.Assign [.Name x pos'] e pos) (jkj te (jbM i)):=by
 intro pins s σ H D I h;refine wpAny_Assign_Name (thn (he pins s σ H _ I h) fun v s1 ⟨y,H1,I1,r1,q1⟩=>?_) hs;exact jdF I1 hN hi hx r1 (fun s2 I2=>⟨_,H1,I2,q1⟩) hf
def jmZ (i j:Nat) (ta:TA):TS:=fun D σ H=>ta σ H fun vs H1=>∃v w,vs=[v,w]/\D.nx ((σ.set i (some v)).set j (some w)) H1
theorem jm0 {i j:Nat} {x y:Str} {a b:Expr} {ta:TA} {px py pt:Pos} {kt k2 pt2} (hc:X.calm=true) (hN:X.N.Nodup) (hi:X.N[i]?=some x) (hj:X.N[j]?=some y) (hij:i≠j)
    (hx:X.env.scope.names.lookup x=some .local) (hy:X.env.scope.names.lookup y=some .local) (ha:PA X [a,b] ta)
    (hw:swappedStores [.Tuple [.Name x px,.Name y py] kt pt] (.Tuple [a,b] k2 pt2) X.env=pure (some [x,y]))
    (hs:swapsWithSole [.Tuple [.Name x px,.Name y py] kt pt] (.Tuple [a,b] k2 pt2) pos.line X.env=pure false:=by rfl) :
    PS X (.Assign [.Tuple [.Name x px,.Name y py] kt pt] (.Tuple [a,b] k2 pt2) pos) (jmZ i j ta):=by
  intro pins s σ H D I h;rw[exec_Assign_arm];refine wpAny_bind (wpAny_standAt ?_);rw[hs];refine wpAny_bind (wpAny_pure ?_);rw[if_neg (by decide)];refine wpAny_bind (Tuple_ (thn (ha _ pins s σ H _ I h) fun us s1 ⟨vs,H1,I1,r1,q1⟩=>?_));obtain⟨v,w,e1,q1⟩:=q1;subst e1;obtain⟨u1,u2,rfl,rv,rw'⟩:∃u1 u2,us=[u1,u2]/\RelV v u1/\RelV w u2:=by
    cases r1 with
    | cons p q =>
      cases q with
      | cons p' q' =>
        cases q';exact⟨_,_,rfl,p,p'⟩
  refine wpAny_newObj_type ?_ (by show 2<=sizeLine;decide);have I2:Inv X pins σ H1 { s1 with heap:=s1.heap.push { cls:=.type "tuple",data:=.seq [u1,u2].toArray } }:=I1.kept (t':=s1.toks) fun b o e=>Heap.get?_push_of_some _ e;rw[hw];refine wpAny_bind (wpAny_pure ?_);show wpAny (model X.prog X.w) X.A (do rule "assign.swapped-stores";let items <- unpackItems (.ref s1.heap.objs.size) 2 none;assignInOrder [fun v=>bindName X.env y v,fun v=>bindName X.env x v] items.reverse;pure Flow.next) _ _ _;refine wpAny_bind (wpAny_rule (wpAny_bind (unpackItems_tuple (items:=#[u1,u2]) (I.ok.hd hc) (IsTup.new s1.heap _) fun h' hx'=>?_)));have I3:=I2.kept (h':=h') (t':=s1.toks) fun b o e=>hx' b o (xax (Heap.lt_size e)) e;show wpAny _ _ (assignInOrder [fun v=>bindName X.env y v,fun v=>bindName X.env x v] [u2,u1] >>= fun _=>pure Flow.next) _ _ _;refine wpAny_bind (assignInOrder_cons (wpAny_bindName (jdF I3 hN hj (.inl hy) rw' (fun s2 I4=>?_) (.inr hy))));refine assignInOrder_cons (wpAny_bindName (jdF I4 hN hi (.inl hx) rv (fun s3 I5=>assignInOrder_nil (wpAny_pure ?_)) (.inr hx)));rw[List.set_comm _ _ (Ne.symm hij)] at I5;exact⟨_,H1,I5,q1⟩
def jm1 (c:TT) (tb:TS):TS:=fun D σ H=>∃W:Nat->St->Hp->Prop,(∃m,W m σ H)/\∀m σ H,W m σ H ->
 c σ H fun b H1=>if b=true then ∃N:St->Hp->Prop,(∀σ' H',N σ' H'->∃m',m'<m/\W m' σ' H')/\tb { D with nx:=N,ct:=N,bk:=D.nx } σ H1 else D.nx σ H1
theorem jdG {c:Expr} {body:List Stmt} {tc:TT} {tb:TS} (hp:PassesOwn (model X.prog X.w) X.A X.env X.xe) (hc:PT X c tc) (hb:PSs X body tb):PS X (.While c body [] pos) (jm1 tc tb):=by
  intro pins s σ H D I h;obtain⟨W,⟨m0,w0⟩,turn⟩:=h;refine wpAny_While (codeAny_whileLoop (fun n s'=>∃σ' H',Inv X pins σ' H' s'/\W n σ' H') ?_ m0 ⟨σ,H,I,w0⟩);rintro n s1 ⟨σ1,H1,I1,w1⟩;refine wpAny_passesOwn hp (thn (hc pins s1 σ1 H1 _ I1 (turn n σ1 H1 w1)) fun b s2 ⟨H2,I2,q2⟩=>?_);cases b with
  | true =>
    obtain⟨N,hN,q2⟩:=q2;rw[if_pos rfl];refine wpAny_passesOwn hp (thn (hb pins s2 σ1 H2 _ I2 q2) fun f s3 q3=>?_);cases f with
    | next =>
      obtain⟨σ3,H3,I3,n3⟩:=q3;obtain⟨m',hm,w3⟩:=hN σ3 H3 n3;exact⟨m',hm,σ3,H3,I3,w3⟩
    | cont =>
      obtain⟨σ3,H3,I3,n3⟩:=q3;obtain⟨m',hm,w3⟩:=hN σ3 H3 n3;exact⟨m',hm,σ3,H3,I3,w3⟩
    | brk=>exact q3
    | ret v=>exact q3
  | false =>
    rw[if_neg xao];exact wpAny_execs_nil ⟨σ1,H2,I2,q2⟩
end
structure It where
 go:Nat->Hp->Prop
 yld:Nat->Hp->V->Hp->Prop
 stop:Nat->Hp->Prop
def jgi (X:Cx) (pins:List (Addr × Obj)) (H:Hp) (b:Addr):Prop :=
 H b=none/\b≠X.env.locals/\b∉X.fs/\(b∈X.ex\/X.s₀.heap.objs.size<=b)/\(∀x c,X.env.cells.lookup x=some c->c≠b)/\∀p∈X.pn++pins,p.1≠b
theorem Inv.fpOk {X:Cx} {pins:List (Addr × Obj)} {σ:St} {H H':Hp} {s:Shared} {b:Addr} (I:Inv X pins σ H s) (hb:s.heap.objs.size<=b) (hn:H' b=none):jgi X pins H' b:=by
 refine⟨hn,Nat.ne_of_gt (xam I.lt hb),I.nofs hb,.inr (xaA I.sz hb),fun x c e z=>?_,fun p hp z=>?_⟩
 ·obtain⟨v,q⟩:=I.cell x c e;exact absurd (xam q.lt (by rw[z];exact hb)) (xbg _)
 ·exact absurd (xam (Heap.lt_size (I.pin p hp).1) (by rw[z];exact hb)) (xbg _)
structure Turn (P:Program) (w:World) (K:PySem.W.Frag) (tg:Expr) (J:It) (fp:List Addr) (it:Addr) (tn:Nat->Heap->Prop):Prop where
 mem:it∈fp
 obj:∀i h,tn i h->∀b∈fp,∃o,h.get? b=some o/\∀v,o.data≠.cell v
 keep:∀i h h',tn i h->(∀b∈fp,∀o,h.get? b=some o->h'.get? b=some o)->tn i h'
 item:∀(X:Cx),X.prog=P->X.w=w->X.K=K->X.calm=true->∀(i:Nat) (pins:List (Addr × Obj)) (s:Shared) (σ:St) (H:Hp) (E:Value->Shared->Prop),Inv X pins σ H s->(∀b∈fp,jgi X pins H b)->tn i s.heap->J.go i H ->
  wpAny (model P w) X.A (pyNext (.ref it)) (fun r s1=>∃u,r=some u /\
   wpAny (model P w) X.A (letOwnedTupleGo tg (.ref it) u) (fun _ s2=>∃x H',Inv X pins σ H' s2/\RelV x u/\J.yld i H x H'/\tn (i+1) s2.heap/\∀b∈fp,H' b=none) E s1) E s
 done:∀(X:Cx),X.prog=P->X.w=w->X.K=K->X.calm=true->∀(i:Nat) (pins:List (Addr × Obj)) (s:Shared) (σ:St) (H:Hp) (E:Value->Shared->Prop),Inv X pins σ H s->(∀b∈fp,jgi X pins H b)->tn i s.heap->J.stop i H ->
  wpAny (model P w) X.A (pyNext (.ref it)) (fun r s1=>r=none/\Inv X pins σ H s1) E s
 self:∀(A:Around) (i:Nat) (s:Shared) (Q:Value->Shared->Prop) (E:Value->Shared->Prop),tn i s.heap->Q (.ref it) s->wpAny (model P w) A (pyIter (.ref it)) Q E s
abbrev TI:=St->Hp->(It->Hp->Prop)->Prop
def PIE (X:Cx) (pins:List (Addr × Obj)) (σ:St) (tg:Expr) (R:It->Hp->Prop) (itv:Value) (s2:Shared):Prop :=
 ∃(it:Addr) (fp:List Addr) (tn:Nat->Heap->Prop) (J:It) (H':Hp),itv=.ref it/\Inv X pins σ H' s2/\Turn X.prog X.w X.K tg J fp it tn/\tn 0 s2.heap/\(∀b∈fp,jgi X pins H' b)/\R J H'
def PI (X:Cx) (tg iter:Expr) (wi:TI):Prop :=
  ∀ (pins : List (Addr × Obj)) (s : Shared) (σ : St) (H : Hp) (R : It -> Hp -> Prop), Inv X pins σ H s -> wi σ H R ->
    wpAny (model X.prog X.w) X.A (eval iter X.env) (fun v s1=>wpAny (model X.prog X.w) X.A (pyIter v) (PIE X pins σ tg R) X.xe s1) X.xe s
theorem jlk {M:Model} {A:Around} {E:Value->Shared->Prop} {s:Shared} {tg:Expr} {it:Addr} {u:Value} {o:Obj} {n:String} {vs:Array Value} {Q:Unit->Shared->Prop} (ho:s.heap.get? it=some o) (hc:o.cls=.type n) (hd:o.data=.fields vs)
    (hn:["enumerate","zip","dict_itemiterator","dict_reverseitemiterator","odict_iterator","itertools.zip_longest","itertools.pairwise"].contains n=false) (hQ:Q () s):wpAny M A (letOwnedTupleGo tg (.ref it) u) Q E s:=by
  unfold letOwnedTupleGo;cases tg<;>first
    | exact wpAny_pure hQ
    | (cases u<;>first
        | exact wpAny_pure hQ
        | (refine wpAny_bind (wpAny_load ho ?_)
           rw[hc,hd];show wpAny M A (if (["enumerate","zip","dict_itemiterator","dict_reverseitemiterator","odict_iterator","itertools.zip_longest","itertools.pairwise"].contains n&&vs[0]?==some (rawInt _))=true then _ else _) Q E s;rw[if_neg (by intro h;rw[hn,Bool.false_and] at h;cases h)];exact wpAny_pure hQ))
def Itl (K:PySem.W.Frag) (a:Addr):It :=
 ⟨fun i H=>∃xs x,SqL K H a xs/\xs[i]?=some x,fun i H x H'=>H'=H/\∀xs,SqL K H a xs->xs[i]?=some x,fun i H=>∃xs,SqL K H a xs/\xs.length<=i⟩
def Itt (K:PySem.W.Frag) (a:Addr):It :=
 ⟨fun i H=>∃xs x,SqT K H a xs/\xs[i]?=some x,fun i H x H'=>H'=H/\∀xs,SqT K H a xs->xs[i]?=some x,fun i H=>∃xs,SqT K H a xs/\xs.length<=i⟩
def Itr (lo:Int) (n:Nat):It:=⟨fun i _=>i<n,fun i H x H'=>H'=H/\x=.int (lo+i),fun i _=>n<=i⟩
theorem jhE {P:Program} {w:World} {K:PySem.W.Frag} {tg:Expr} (a it:Addr):Turn P w K tg (Itl K a) [it] it (fun i h=>h.IsListIter it a i) where
 mem:=by simp
 obj:=fun i h st b hb=>by
  have e:b=it:=by simpa using hb
  subst e;obtain⟨o,e,c,d⟩:=st;exact⟨o,e,fun v z=>by rw[d] at z;cases z⟩
 keep:=fun i h h' st k=>st.at fun o e=>k it (by simp) o e
 item:=by
  intro X hP hw hK hc i pins s σ H E I hf st hg;subst hP hw hK;obtain⟨xs,x,hq,hx⟩:=hg;obtain⟨its,rv,p,hz⟩:=I.list hq;obtain⟨u,hu,ru⟩:=rv.get hx;obtain⟨f0,f1,f2,f3,f4,f5⟩:=hf it (by simp);refine wpAny_pyNext_list_item st p.isList (x:=u) (by simpa using hu) fun h' st' sb=>?_;have I1:Inv X pins σ H { s with heap:=h' }:=I.turned (t':=s.toks) (fun b o hb e=>(sb.2 b hb).trans e) f0 f1 f3 f4 f5;obtain⟨o,e,c,d⟩:=id st';exact⟨u,rfl,jlk (s:={ s with heap:=h' }) e c d (by decide) ⟨x,H,I1,ru,⟨rfl,fun ys hy=>by rw[I.list_inj hy hq];exact hx⟩,st',fun b hb=>(hf b hb).1⟩⟩
 done:=by
  intro X hP hw hK hc i pins s σ H E I hf st hg;subst hP hw hK;obtain⟨xs,hq,hx⟩:=hg;obtain⟨its,rv,p,hz⟩:=I.list hq;obtain⟨f0,f1,f2,f3,f4,f5⟩:=hf it (by simp);have hl:=rv.length;exact wpAny_pyNext_list_end (I.ok.hd hc) st p.isList (by simp;omega) fun h' eb=>⟨rfl,I.turned (t':=s.toks) (fun b o hb e=>eb b o hb e) f0 f1 f3 f4 f5⟩
 self:=fun _ _ _ _ _ st h=>wpAny_pyIter_listiter st h
theorem jg8 {P:Program} {w:World} {K:PySem.W.Frag} {tg:Expr} (a it:Addr):Turn P w K tg (Itt K a) [it] it (fun i h=>h.IsTupleIter it a i) where
 mem:=by simp
 obj:=fun i h st b hb=>by
  have e:b=it:=by simpa using hb
  subst e;obtain⟨o,e,c,d⟩:=st;exact⟨o,e,fun v z=>by rw[d] at z;cases z⟩
 keep:=fun i h h' st k=>st.at fun o e=>k it (by simp) o e
 item:=by
  intro X hP hw hK hc i pins s σ H E I hf st hg;subst hP hw hK;obtain⟨xs,x,hq,hx⟩:=hg;obtain⟨its,rv,p,hz⟩:=I.tuple hq;obtain⟨u,hu,ru⟩:=rv.get hx;obtain⟨f0,f1,f2,f3,f4,f5⟩:=hf it (by simp);refine wpAny_pyNext_tuple_item st (show s.heap.IsTuple a its.toArray from p) (x:=u) (by simpa using hu) fun h' st' sb=>?_;have I1:Inv X pins σ H { s with heap:=h' }:=I.turned (t':=s.toks) (fun b o hb e=>(sb.2 b hb).trans e) f0 f1 f3 f4 f5;obtain⟨o,e,c,d⟩:=id st';exact⟨u,rfl,jlk (s:={ s with heap:=h' }) e c d (by decide) ⟨x,H,I1,ru,⟨rfl,fun ys hy=>by rw[I.tuple_inj hy hq];exact hx⟩,st',fun b hb=>(hf b hb).1⟩⟩
 done:=by
  intro X hP hw hK hc i pins s σ H E I hf st hg;subst hP hw hK;obtain⟨xs,hq,hx⟩:=hg;obtain⟨its,rv,p,hz⟩:=I.tuple hq;obtain⟨f0,f1,f2,f3,f4,f5⟩:=hf it (by simp);have hl:=rv.length;exact wpAny_pyNext_tuple_end (I.ok.hd hc) st (show s.heap.IsTuple a its.toArray from p) (by simp;omega) fun h' eb=>⟨rfl,I.turned (t':=s.toks) (fun b o hb e=>eb b o hb e) f0 f1 f3 f4 f5⟩
 self:=fun _ _ _ _ _ st h=>wpAny_pyIter_tupleiter st h
theorem jg9 {P:Program} {w:World} {K:PySem.W.Frag} {tg:Expr} (it:Addr) (lo:Int) (n:Nat):Turn P w K tg (Itr lo n) [it] it (fun i h=>IsRangeIter h it (lo+(i:Nat)*1) ((n:Int)-(i:Nat)) 1) where
 mem:=by simp
 obj:=fun i h st b hb=>by
  have e:b=it:=by simpa using hb
  subst e;exact⟨_,st,fun v z=>by
   have z':Data.fields _=Data.cell v:=z;cases z'⟩
 keep:=fun i h h' st k=>k it (by simp) _ st
 item:=by
  intro X hP hw hK hc i pins s σ H E I hf st hg;subst hP hw hK;obtain⟨f0,f1,f2,f3,f4,f5⟩:=hf it (by simp);have W:=Walks.range (prog:=X.prog) (w:=X.w) (I.ok.hd hc) it lo 1 n;refine W.item i s _ _ hg st fun v h' tk hv st' kk=>?_;obtain⟨t,rfl⟩:=hv;have I1:Inv X pins σ H { s with heap:=h',toks:=tk }:=I.turned (fun b o hb e=>kk b o (by simpa using hb) e) f0 f1 f3 f4 f5;refine⟨_,rfl,jlk (s:={ s with heap:=h',toks:=tk }) (n:="range_iterator") st' rfl rfl (by decide) ⟨.int (lo+i),H,I1,⟨t,?_⟩,⟨rfl,rfl⟩,st',fun b hb=>(hf b hb).1⟩⟩;rw[xbB]
 done:=by
  intro X hP hw hK hc i pins s σ H E I hf st hg;subst hP hw hK;obtain⟨f0,f1,f2,f3,f4,f5⟩:=hf it (by simp);exact wpAny_pyNext_range_end (I.ok.hd hc) st (by have:n<=i:=hg;omega) fun h' eb=>⟨rfl,I.turned (t':=s.toks) (fun b o hb e=>eb b o hb e) f0 f1 f3 f4 f5⟩
 self:=fun _ _ _ _ _ st h=>wpAny_pyIter_rangeiter st h
section
variable {X:Cx} {tg:Expr}
def jjo (K:PySem.W.Frag) (tl:TE):TI:=fun σ H R=>tl σ H fun x H1=>∃a,x=.ref a/\(∃xs,SqL K H1 a xs)/\R (Itl K a) H1
def iTup (K:PySem.W.Frag) (tl:TE):TI:=fun σ H R=>tl σ H fun x H1=>∃a,x=.ref a/\(∃xs,SqT K H1 a xs)/\R (Itt K a) H1
theorem jbN {l:Expr} {tl:TE} (hl:PE X l tl):PI X tg l (jjo X.K tl):=by
 intro pins s σ H R I h;refine thn (hl pins s σ H _ I h) fun v s1 ⟨x,H1,I1,r1,q1⟩=>?_;obtain⟨a,e,⟨xs,hq⟩,q⟩:=q1;subst e;cases r1;obtain⟨its,rv,p,hz⟩:=I1.list hq;refine wpAny_pyIter_list p.isList ?_;refine⟨s1.heap.objs.size,[s1.heap.objs.size],_,_,H1,rfl,I1.kept (t':=s1.toks) fun b o e=>Heap.get?_push_of_some _ e,jhE a _,⟨_,Heap.get?_push_size _ rfl,rfl,rfl⟩,fun b hb=>?_,q⟩;have e:b=s1.heap.objs.size:=by simpa using hb
 subst e;exact I1.fpOk (xag _) (I1.hok.fresh (xag _))
theorem jc1 {l:Expr} {tl:TE} (hl:PE X l tl):PI X tg l (iTup X.K tl):=by
 intro pins s σ H R I h;refine thn (hl pins s σ H _ I h) fun v s1 ⟨x,H1,I1,r1,q1⟩=>?_;obtain⟨a,e,⟨xs,hq⟩,q⟩:=q1;subst e;cases r1;obtain⟨its,rv,p,hz⟩:=I1.tuple hq;refine wpAny_pyIter_tuple (show s1.heap.IsTuple a its.toArray from p) ?_;refine⟨s1.heap.objs.size,[s1.heap.objs.size],_,_,H1,rfl,I1.kept (t':=s1.toks) fun b o e=>Heap.get?_push_of_some _ e,jg8 a _,⟨_,Heap.get?_push_size _ rfl,rfl,rfl⟩,fun b hb=>?_,q⟩;have e:b=s1.heap.objs.size:=by simpa using hb
 subst e;exact I1.fpOk (xag _) (I1.hok.fresh (xag _))
theorem jgj {pins:List (Addr × Obj)} {σ:St} {H:Hp} {s:Shared} {R:It->Hp->Prop} {E:Value->Shared->Prop} {lo hi:Int} {t u v:Tok} {tk:Nat} (I:Inv X pins σ H s) (h1:-(2^62)<=lo) (h2:lo<2^62) (h3:-(2^62)<=hi) (h4:hi<2^62)
  (q:R (Itr lo (hi-lo).toNat) H):wpAny (model X.prog X.w) X.A (pyIter (.ref s.heap.objs.size)) (PIE X pins σ tg R) E { s with heap:=s.heap.push { cls:=.type "range",data:=.fields #[.int lo t,.int hi u,.int 1 v] },toks:=tk }:=by
 refine wpAny_pyIter_range (IsRange.new ..) (small_one h1 h2 h3 h4) ?_;have I1:Inv X pins σ H { s with heap:=s.heap.push { cls:=.type "range",data:=.fields #[.int lo t,.int hi u,.int 1 v] },toks:=tk }:=I.kept fun b o e=>Heap.get?_push_of_some _ e;refine⟨(s.heap.push { cls:=.type "range",data:=.fields #[.int lo t,.int hi u,.int 1 v] }).objs.size,[(s.heap.push { cls:=.type "range",data:=.fields #[.int lo t,.int hi u,.int 1 v] }).objs.size],_,_,H,rfl,
  I1.kept (t':=tk) fun b o e=>Heap.get?_push_of_some _ e,jg9 _ lo (hi-lo).toNat,?_,fun b hb=>?_,q⟩
 ·have e1:lo+((0:Nat):Int)*1=lo:=by simp
  have e2:(((hi-lo).toNat:Nat):Int)-((0:Nat):Int)=Builtin.Range.rangeSize lo hi 1:=by rw[rangeSize_one];split<;>omega
  show IsRangeIter _ _ (lo+((0:Nat):Int)*1) ((((hi-lo).toNat:Nat):Int)-((0:Nat):Int)) 1;rw[e1,e2];exact Heap.get?_push_size _ rfl
 ·have e:b=(s.heap.push { cls:=.type "range",data:=.fields #[.int lo t,.int hi u,.int 1 v] }).objs.size:=by simpa using hb
  subst e;exact I1.fpOk (xag _) (I1.hok.fresh (xag _))
def jll (ta:TA):TI:=fun σ H R=>ta σ H fun vs H1=>∃j:Int,vs=[.int j]/\-(2^62)<=j/\j<2^62/\R (Itr 0 j.toNat) H1
def jlm (ta:TA):TI:=fun σ H R=>ta σ H fun vs H1=>∃i j:Int,vs=[.int i,.int j]/\(-(2^62)<=i/\i<2^62/\-(2^62)<=j/\j<2^62)/\R (Itr i (j-i).toNat) H1
theorem jaN {a:Expr} {ta:TA} {p pos:Pos} (hg:Gl X "range") (hm:X.mg "range"=none) (ha:PA X [a] ta) (hs:starEach [a] X.env=[(false,eval a X.env)]:=by rfl):PI X tg (.Call (.Name "range" p) [a] [] pos) (jll ta):=by
  intro pins s σ H R I h;refine Call_ (jdM I hg hm boot_range (PyProof.Rows.callWith_type1 (thn (ha pos pins s σ H _ I h) fun us s1 ⟨vs,H1,I1,r1,q1⟩=>?_) hs rfl));obtain⟨j,e,q1,q2,q⟩:=q1;subst e;cases r1 with
  | cons r rr =>
    cases rr;obtain⟨t,rfl⟩:=r;exact call_range_1 (jgj I1 (by omega) (by omega) q1 q2 (by simpa using q))
theorem jdN {a b:Expr} {ta:TA} {p pos:Pos} (hg:Gl X "range") (hm:X.mg "range"=none) (ha:PA X [a,b] ta) (hs:starEach [a,b] X.env=[(false,eval a X.env),(false,eval b X.env)]:=by rfl) (hs2:starEach [b] X.env=[(false,eval b X.env)]:=by rfl) :
    PI X tg (.Call (.Name "range" p) [a,b] [] pos) (jlm ta):=by
  intro pins s σ H R I h;refine Call_ (jdM I hg hm boot_range (PyProof.Rows.callWith_type1 (thn (ha pos pins s σ H _ I h) fun us s1 ⟨vs,H1,I1,r1,q1⟩=>?_) (by rw[hs,hs2]) (by rw[hs2];rfl)));obtain⟨i,j,e,⟨q1,q2,q3,q4⟩,q⟩:=q1;subst e;cases r1 with
  | cons r rr =>
    cases rr with
    | cons r' rr =>
      cases rr;obtain⟨t,rfl⟩:=r;obtain⟨t',rfl⟩:=r';exact call_range_2 (jgj I1 q1 q2 q3 q4 q)
def jln (wi:TI) (g:TG) (tb:TS):TS:=fun D σ H=>wi σ H fun J H1=>∃W:Nat->Nat->St->Hp->Prop,(∃m,W 0 m σ H1)/\∀i m σ H,W i m σ H ->
 (J.stop i H/\D.nx σ H)\/(J.go i H/\∃N:St->Hp->Prop,(∀σ' H',N σ' H'->∃m',m'<m/\W (i+1) m' σ' H')/\∀x H',J.yld i H x H'->g x σ H' fun σ2 H2=>tb { D with nx:=N,ct:=N,bk:=D.nx } σ2 H2)
def jfj (fp:List Addr) (h:Heap):List (Addr × Obj):=fp.filterMap fun b=>(h.get? b).map fun o=>(b,o)
theorem jcE {fp:List Addr} {h:Heap} {b:Addr} {o:Obj} (hb:b∈fp) (e:h.get? b=some o):(b,o)∈jfj fp h:=List.mem_filterMap.mpr ⟨b,hb,by rw[e];rfl⟩
theorem jhF {fp:List Addr} {h:Heap} {p:Addr × Obj} (hp:p∈jfj fp h):p.1∈fp/\h.get? p.1=some p.2:=by
  obtain⟨b,hb,e⟩:=List.mem_filterMap.mp hp;cases q:h.get? b with
  | none=>rw[q] at e;cases e
  | some o =>
    rw[q] at e;have e':(b,o)=p:=Option.some.inj e;subst e';exact⟨hb,q⟩
theorem Inv.pinned {pins:List (Addr × Obj)} {σ:St} {H:Hp} {s:Shared} {fp:List Addr} (I:Inv X pins σ H s) (hf:∀b∈fp,jgi X pins H b) (ho:∀b∈fp,∃o,s.heap.get? b=some o/\∀v,o.data≠.cell v):Inv X (pins++jfj fp s.heap) σ H s :=
 I.pins_of fun p hp=>(xaO.mp hp).elim (fun z=>I.pin p (xaB _ z)) fun z=>by
  obtain⟨hb,e⟩:=jhF z;obtain⟨f0,f1,f2,_⟩:=hf p.1 hb;obtain⟨o,e',d⟩:=ho p.1 hb;rw[e] at e';cases e';exact⟨e,f0,f1,f2,d⟩
theorem Inv.unpinned {pins pl:List (Addr × Obj)} {σ:St} {H:Hp} {s:Shared} (I:Inv X (pins++pl) σ H s):Inv X pins σ H s:=I.pins_of fun p hp=>I.pin p (xaB _ (xbs _ hp))
theorem jbx {iter:Expr} {body:List Stmt} {wi:TI} {g:TG} {tb:TS} {pos:Pos} (hp:PassesOwn (model X.prog X.w) X.A X.env X.xe) (hc:X.calm=true) (hi:PI X tg iter wi) (hg:PG X tg g) (hb:PSs X body tb)
  (hs:∀x,foldedSetIterable iter X.env x=pure x:=by intro _;rfl):PS X (.For tg iter body [] pos) (jln wi g tb):=by
 intro pins s σ H D I h;refine wpAny_For (thn (hi pins s σ H _ I h) fun v s1 h1=>thn h1 fun itv s2 h2=>?_) hs;obtain⟨it,fp,tn,J,H2,e,I2,T,st2,f2,W,⟨m0,w0⟩,turn⟩:=h2;subst e;have stat:∀{H':Hp},(∀b∈fp,H' b=none)->∀b∈fp,jgi X pins H' b:=fun hn b hb=>⟨hn b hb,(f2 b hb).2⟩;refine codeAny_forLoop_any (fun n s'=>∃i σ' H',Inv X pins σ' H' s'/\tn i s'.heap/\(∀b∈fp,H' b=none)/\W i n σ' H') ?_ m0 ⟨0,σ,H2,I2,st2,fun b hb=>(f2 b hb).1,w0⟩;rintro n s3 ⟨i,σ3,H3,I3,st3,fr3,w3⟩;rcases turn i n σ3 H3 w3 with ⟨stop,qn⟩ | ⟨go,N,hN,step⟩
 ·refine wpAny_passesOwn hp (thn (T.done X rfl rfl rfl hc i pins s3 σ3 H3 X.xe I3 (stat fr3) st3 stop) fun r s4 ⟨hr,I4⟩=>?_);subst hr;exact wpAny_execs_nil ⟨σ3,H3,I4,qn⟩
 ·refine wpAny_passesOwn hp (thn (T.item X rfl rfl rfl hc i pins s3 σ3 H3 X.xe I3 (stat fr3) st3 go) fun r s4 ⟨u,hr,h4⟩=>?_);subst hr;refine wpAny_passesOwn hp (thn h4 fun _ s5 ⟨x,H5,I5,r5,y5,st5,fr5⟩=>?_);have I5':=I5.pinned (stat fr5) (T.obj _ _ st5);refine wpAny_passesOwn hp (thn (hg _ s5 σ3 H5 x u _ I5' r5 (step x H5 y5)) fun _ s6 ⟨σ6,H6,I6,q6⟩=>?_);refine wpAny_passesOwn hp (thn (hb _ s6 σ6 H6 _ I6 q6) fun f s7 q7=>?_);have again:∀{σ7:St} {H7:Hp},Inv X (pins++jfj fp s5.heap) σ7 H7 s7->N σ7 H7->∃m,m<n/\∃i σ' H',Inv X pins σ' H' s7/\tn i s7.heap/\(∀b∈fp,H' b=none)/\W i m σ' H':=fun {σ7 H7} I7 n7=>by
   obtain⟨m',hm,w7⟩:=hN σ7 H7 n7;refine⟨m',hm,i+1,σ7,H7,I7.unpinned,T.keep _ _ _ st5 fun b hb o e=>(I7.pin (b,o) (xaB _ (xaB _ (jcE hb e)))).1,fun b hb=>?_,w7⟩;obtain⟨o,e,d⟩:=T.obj _ _ st5 b hb;exact (I7.pin (b,o) (xaB _ (xaB _ (jcE hb e)))).2.1
  cases f with
  | next=>obtain⟨σ7,H7,I7,n7⟩:=q7;exact again I7 n7
  | cont=>obtain⟨σ7,H7,I7,n7⟩:=q7;exact again I7 n7
  | brk=>obtain⟨σ7,H7,I7,q7⟩:=q7;exact⟨σ7,H7,I7.unpinned,q7⟩
  | ret v=>obtain⟨x7,σ7,H7,I7,r7,q7⟩:=q7;exact⟨x7,σ7,H7,I7.unpinned,r7,q7⟩
end
theorem jb0 {K:PySem.W.Frag} {a:Addr} {xs:List V} {g:TG} {tb:TS} {D:Ends} {σ:St} {H:Hp} (Pv:Nat->St->Hp->Prop) (h0:Pv 0 σ H) (hl:∀i σ H,i<=xs.length->Pv i σ H->SqL K H a xs)
    (hs:∀i x σ H,xs[i]?=some x->Pv i σ H->g x σ H fun σ2 H2=>tb { D with nx:=Pv (i+1),ct:=Pv (i+1),bk:=D.nx } σ2 H2) (hd:∀σ H,Pv xs.length σ H->D.nx σ H) :
    ∃ W : Nat -> Nat -> St -> Hp -> Prop, (∃ m, W 0 m σ H) /\ ∀ i m σ H, W i m σ H ->
      ((Itl K a).stop i H/\D.nx σ H)\/((Itl K a).go i H/\∃N:St->Hp->Prop,(∀σ' H',N σ' H'->∃m',m'<m/\W (i+1) m' σ' H')/\∀x H',(Itl K a).yld i H x H'->g x σ H' fun σ2 H2=>tb { D with nx:=N,ct:=N,bk:=D.nx } σ2 H2):=by
  refine⟨fun i m σ H=>m=xs.length-i/\i<=xs.length/\Pv i σ H,⟨xs.length,by simp,xaQ _,h0⟩,?_⟩;rintro i m σ H ⟨rfl,hi,p⟩;have q:=hl i σ H hi p;by_cases hlt:i<xs.length
  . refine .inr ⟨⟨xs,xs[i],q,by simp [hlt]⟩,Pv (i+1),fun σ' H' p'=>⟨xs.length-(i+1),by omega,rfl,hlt,p'⟩,fun x H' y=>?_⟩
    obtain⟨e,y⟩:=y;subst e;exact hs i x σ _ (y xs q) p
  . have e:i=xs.length:=by omega
    subst e;exact .inl ⟨⟨xs,q,xag _⟩,hd σ H p⟩
theorem jhG {K:PySem.W.Frag} {a:Addr} {xs:List V} {g:TG} {tb:TS} {D:Ends} {σ:St} {H:Hp} (Pv:Nat->St->Hp->Prop) (h0:Pv 0 σ H) (hl:∀i σ H,i<=xs.length->Pv i σ H->SqT K H a xs)
    (hs:∀i x σ H,xs[i]?=some x->Pv i σ H->g x σ H fun σ2 H2=>tb { D with nx:=Pv (i+1),ct:=Pv (i+1),bk:=D.nx } σ2 H2) (hd:∀σ H,Pv xs.length σ H->D.nx σ H) :
    ∃ W : Nat -> Nat -> St -> Hp -> Prop, (∃ m, W 0 m σ H) /\ ∀ i m σ H, W i m σ H ->
      ((Itt K a).stop i H/\D.nx σ H)\/((Itt K a).go i H/\∃N:St->Hp->Prop,(∀σ' H',N σ' H'->∃m',m'<m/\W (i+1) m' σ' H')/\∀x H',(Itt K a).yld i H x H'->g x σ H' fun σ2 H2=>tb { D with nx:=N,ct:=N,bk:=D.nx } σ2 H2):=by
  refine⟨fun i m σ H=>m=xs.length-i/\i<=xs.length/\Pv i σ H,⟨xs.length,by simp,xaQ _,h0⟩,?_⟩;rintro i m σ H ⟨rfl,hi,p⟩;have q:=hl i σ H hi p;by_cases hlt:i<xs.length
  . refine .inr ⟨⟨xs,xs[i],q,by simp [hlt]⟩,Pv (i+1),fun σ' H' p'=>⟨xs.length-(i+1),by omega,rfl,hlt,p'⟩,fun x H' y=>?_⟩
    obtain⟨e,y⟩:=y;subst e;exact hs i x σ _ (y xs q) p
  . have e:i=xs.length:=by omega
    subst e;exact .inl ⟨⟨xs,q,xag _⟩,hd σ H p⟩
theorem jbt {lo:Int} {n:Nat} {g:TG} {tb:TS} {D:Ends} {σ:St} {H:Hp} (Pv:Nat->St->Hp->Prop) (h0:Pv 0 σ H)
    (hs:∀i σ H,i<n->Pv i σ H->g (.int (lo+i)) σ H fun σ2 H2=>tb { D with nx:=Pv (i+1),ct:=Pv (i+1),bk:=D.nx } σ2 H2) (hd:∀σ H,Pv n σ H->D.nx σ H) :
    ∃ W : Nat -> Nat -> St -> Hp -> Prop, (∃ m, W 0 m σ H) /\ ∀ i m σ H, W i m σ H ->
      ((Itr lo n).stop i H/\D.nx σ H)\/((Itr lo n).go i H/\∃N:St->Hp->Prop,(∀σ' H',N σ' H'->∃m',m'<m/\W (i+1) m' σ' H')/\∀x H',(Itr lo n).yld i H x H'->g x σ H' fun σ2 H2=>tb { D with nx:=N,ct:=N,bk:=D.nx } σ2 H2):=by
  refine⟨fun i m σ H=>m=n-i/\i<=n/\Pv i σ H,⟨n,by simp,xaQ _,h0⟩,?_⟩;rintro i m σ H ⟨rfl,hi,p⟩;by_cases hlt:i<n
  . refine .inr ⟨hlt,Pv (i+1),fun σ' H' p'=>⟨n-(i+1),by omega,rfl,hlt,p'⟩,fun x H' y=>?_⟩
    obtain⟨e,y⟩:=y;subst e y;exact hs i σ _ hlt p
  . have e:i=n:=by omega
    subst e;exact .inl ⟨xag _,hd σ H p⟩
abbrev R2:=V->V->Hp->VK->Prop
def OpR (X:Cx) (f:Value->Value->Sem Value) (r:R2):Prop :=
  ∀ (pins : List (Addr × Obj)) (s : Shared) (σ : St) (H : Hp) (x y : V) (v u : Value) (Q : VK), Inv X pins σ H s -> RelV x v -> RelV y u -> r x y H Q ->
    wpAny (model X.prog X.w) X.A (f v u) (EP X pins σ Q) X.xe s
def UnR (X:Cx) (f:Value->Sem Value) (r:V->Hp->VK->Prop):Prop :=
  ∀ (pins : List (Addr × Obj)) (s : Shared) (σ : St) (H : Hp) (x : V) (v : Value) (Q : VK), Inv X pins σ H s -> RelV x v -> r x H Q ->
    wpAny (model X.prog X.w) X.A (f v) (EP X pins σ Q) X.xe s
def CallR (X:Cx) (f:Value) (r:List V->Hp->VK->Prop):Prop :=
  ∀ (pins : List (Addr × Obj)) (s : Shared) (σ : St) (H : Hp) (xs : List V) (us : List Value) (Q : VK), Inv X pins σ H s -> Vals xs us -> r xs H Q ->
    wpAny (model X.prog X.w) X.A (call f us) (EP X pins σ Q) X.xe s
def tOp (r:R2) (ta tb:TE):TE:=fun σ H Q=>ta σ H fun x H1=>tb σ H1 fun y H2=>r x y H2 Q
def tUn (r:V->Hp->VK->Prop) (ta:TE):TE:=fun σ H Q=>ta σ H fun x H1=>r x H1 Q
def rI (C:Int->Int->Prop) (g:Int->Int->V):R2:=fun x y H Q=>∃i j,x=.int i/\y=.int j/\C i j/\Q (g i j) H
def rI0 (g:Int->Int->V):R2:=fun x y H Q=>∃i j,x=.int i/\y=.int j/\Q (g i j) H
def rU (g:Int->V):V->Hp->VK->Prop:=fun x H Q=>∃i,x=.int i/\Q (g i) H
section
variable {X:Cx} {a b c:Expr} {ta tb tc:TE} {pos:Pos}
theorem binT (ha:PE X a ta) (hb:PE X b tb) {pins:List (Addr × Obj)} {s:Shared} {σ:St} {H:Hp} {R:V->V->Hp->Prop} (I:Inv X pins σ H s)
  (h:ta σ H fun x H1=>tb σ H1 fun y H2=>R x y H2) {Q:Value->Shared->Prop} {f:Value->Value->Sem Value}
  (hf:∀v u s2 x y H2,Inv X pins σ H2 s2->RelV x v->RelV y u->R x y H2->wpAny (model X.prog X.w) X.A (f v u) Q X.xe s2) :
  wpAny (model X.prog X.w) X.A (eval a X.env) (fun v s₁=>wpAny (model X.prog X.w) X.A (eval b X.env) (fun u s₂=>wpAny (model X.prog X.w) X.A (f v u) Q X.xe s₂) X.xe s₁) X.xe s:=by
 refine thn (ha pins s σ H _ I h) fun v s1 ⟨x,H1,I1,r1,q1⟩=>?_;refine thn (hb pins s1 σ H1 _ I1 q1) fun u s2 ⟨y,H2,I2,r2,q2⟩=>?_;exact hf v u s2 x y H2 I2 r1 r2 q2
theorem jap {op:Operator} {r:R2} (ho:OpR X (binaryOp op) r) (ha:PE X a ta) (hb:PE X b tb):PE X (.BinOp a op b pos) (tOp r ta tb):=by
 intro pins s σ H Q I h;exact wpAny_BinOp (binT ha hb I h fun v u s2 x y H2 I2 rx ry q=>ho pins s2 σ H2 x y v u Q I2 rx ry q)
theorem jdE {op:UnaryOp} {r:V->Hp->VK->Prop} (ho:UnR X (unaryOp op) r) (ha:PE X a ta):PE X (.UnaryOp op a pos) (tUn r ta):=by
 intro pins s σ H Q I h;exact UnaryOp_ (thn (ha pins s σ H _ I h) fun v s1 ⟨x,H1,I1,r1,q1⟩=>ho pins s1 σ H1 x v Q I1 r1 q1)
theorem opI {f:Value->Value->Sem Value} {C:Int->Int->Prop} {g:Int->Int->Int}
  (rule:∀(i j:Int) (t u:Tok) (s:Shared) (Q:Value->Shared->Prop) (E:Value->Shared->Prop),C i j->Q (.int (g i j) s.toks) { s with toks:=s.toks+1 }->wpAny (model X.prog X.w) X.A (f (.int i t) (.int j u)) Q E s) :
  OpR X f (rI C fun i j=>.int (g i j)):=by
 intro pins s σ H x y v u Q I rx ry h;obtain⟨i,j,rfl,rfl,hc,q⟩:=h;obtain⟨t,rfl⟩:=rx;obtain⟨t',rfl⟩:=ry;exact rule i j t t' s _ _ hc ⟨.int (g i j),H,I.tok _,⟨_,rfl⟩,q⟩
theorem opI0 {f:Value->Value->Sem Value} {g:Int->Int->Int}
  (rule:∀(i j:Int) (t u:Tok) (s:Shared) (Q:Value->Shared->Prop) (E:Value->Shared->Prop),Q (.int (g i j) s.toks) { s with toks:=s.toks+1 }->wpAny (model X.prog X.w) X.A (f (.int i t) (.int j u)) Q E s) :
  OpR X f (rI0 fun i j=>.int (g i j)):=by
 intro pins s σ H x y v u Q I rx ry h;obtain⟨i,j,rfl,rfl,q⟩:=h;obtain⟨t,rfl⟩:=rx;obtain⟨t',rfl⟩:=ry;exact rule i j t t' s _ _ ⟨.int (g i j),H,I.tok _,⟨_,rfl⟩,q⟩
theorem opB0 {f:Value->Value->Sem Value} {g:Int->Int->Bool}
  (rule:∀(i j:Int) (t u:Tok) (s:Shared) (Q:Value->Shared->Prop) (E:Value->Shared->Prop),Q (.bool (g i j)) s->wpAny (model X.prog X.w) X.A (f (.int i t) (.int j u)) Q E s) :
  OpR X f (rI0 fun i j=>.bl (g i j)):=by
 intro pins s σ H x y v u Q I rx ry h;obtain⟨i,j,rfl,rfl,q⟩:=h;obtain⟨t,rfl⟩:=rx;obtain⟨t',rfl⟩:=ry;exact rule i j t t' s _ _ ⟨.bl (g i j),H,I,rfl,q⟩
def CPow (i j:Int):Prop:=0<=j/\j<=1000000/\i.natAbs<2^64
theorem jbl:OpR X (binaryOp .Add) (rI0 fun i j=>.int (i+j)):=opI0 fun _ _ _ _ _ _ _ q=>add_int q
theorem jaZ:OpR X (binaryOp .Sub) (rI0 fun i j=>.int (i-j)):=opI0 fun _ _ _ _ _ _ _ q=>sub_int q
theorem jbI:OpR X (binaryOp .Mod) (rI (fun _ j=>0<j) fun i j=>.int (i % j)):=opI fun i j _ _ _ _ _ hc q=>by
 have h1:(0:Int)<j:=hc;exact mod_int' (by omega) (by rw[Int.fmod_eq_emod_of_nonneg i (by omega)];exact q)
theorem jgk:OpR X (binaryOp .Pow) (rI CPow fun i j=>.int (i^j.toNat)):=opI fun _ _ _ _ _ _ _ hc q=>pow_int_small hc.1 hc.2.1 hc.2.2 q
theorem unI {f:Value->Sem Value} {g:Int->Int}
  (rule:∀(i:Int) (t:Tok) (s:Shared) (Q:Value->Shared->Prop) (E:Value->Shared->Prop),Q (.int (g i) s.toks) { s with toks:=s.toks+1 }->wpAny (model X.prog X.w) X.A (f (.int i t)) Q E s) :
  UnR X f (rU fun i=>.int (g i)):=by
 intro pins s σ H x v Q I rx h;obtain⟨i,rfl,q⟩:=h;obtain⟨t,rfl⟩:=rx;exact rule i t s _ _ ⟨.int (g i),H,I.tok _,⟨_,rfl⟩,q⟩
theorem jcb:UnR X (unaryOp .USub) (rU fun i=>.int (-i)):=unI fun _ _ _ _ _ q=>neg_int q
end
def jmI:V->V->Bool
 | .non,.non=>true | .non,.int _=>true | .int _,.non=>true | .non,.bl _=>true | .bl _,.non=>true | .non,.str _=>true | .str _,.non=>true
 | .int _,.int _=>true | .bl _,.bl _=>true | .str _,.str _=>true | .byt _,.byt _=>true
 | .int _,.str _=>true | .str _,.int _=>true | .bl _,.str _=>true | .str _,.bl _=>true
 | _,_=>false
def rEq:R2:=fun x y H Q=>jmI x y=true/\Q (.bl (decide (x=y))) H
def rNe:R2:=fun x y H Q=>jmI x y=true/\Q (.bl (!decide (x=y))) H
theorem jhH {i j:Int}:decide (V.int i=V.int j)=(i==j):=by
 rw[xbC];simp
theorem jkk {i j:Bool}:decide (V.bl i=V.bl j)=(i==j):=by
 rw[xbC];simp
theorem jhI {i j:Str}:decide (V.str i=V.str j)=(i==j):=by
 rw[xbC];simp
theorem jhJ {i j:Array UInt8}:decide (V.byt i=V.byt j)=(i.toList==j.toList):=by
 rw[xbC];cases i;cases j;simp
section
variable {X:Cx} {a b c:Expr} {ta tb tc:TE} {pos:Pos}
theorem jaO {pins:List (Addr × Obj)} {σ:St} {H:Hp} {s:Shared} {Q:VK} {k k':Bool} (I:Inv X pins σ H s) (q:Q (.bl k) H) (e:k=k'):EP X pins σ Q (.bool k') s:=by
 subst e;exact⟨.bl k,H,I,rfl,q⟩
theorem jdO:OpR X (compareOp .Eq) rEq:=by
  intro pins s σ H x y v u Q I rx ry h;obtain⟨hs,q⟩:=h;cases x with
  | non =>
    cases rx;cases y with
    | non=>cases ry;exact PySem.EqNone.eq_none_none (jaO I q (by simp))
    | bl j=>cases ry;exact PySem.EqNone.eq_none_bool (jaO I q (by simp))
    | int j=>obtain⟨t',rfl⟩:=ry;exact PySem.EqNone.eq_none_int (jaO I q (by simp))
    | str j=>obtain⟨t',rfl⟩:=ry;exact PySem.EqNone.eq_none_str (jaO I q (by simp))
    | _=>exact absurd (show false=true from hs) xao
  | bl i =>
    cases rx;cases y with
    | non=>cases ry;exact PySem.EqNone.eq_bool_none (jaO I q (by simp))
    | bl j=>cases ry;exact eq_bool (jaO I q jkk)
    | str j=>obtain⟨t',rfl⟩:=ry;exact PySem.EqMixed.eq_bool_str (jaO I q (by simp))
    | _=>exact absurd (show false=true from hs) xao
  | int i =>
    obtain⟨t,rfl⟩:=rx;cases y with
    | non=>cases ry;exact PySem.EqNone.eq_int_none (jaO I q (by simp))
    | int j=>obtain⟨t',rfl⟩:=ry;exact eq_int (jaO I q jhH)
    | str j=>obtain⟨t',rfl⟩:=ry;exact PySem.EqMixed.eq_int_str (jaO I q (by simp))
    | _=>exact absurd (show false=true from hs) xao
  | str i =>
    obtain⟨t,rfl⟩:=rx;cases y with
    | non=>cases ry;exact PySem.EqNone.eq_str_none (jaO I q (by simp))
    | bl j=>cases ry;exact PySem.EqMixed.eq_str_bool (jaO I q (by simp))
    | int j=>obtain⟨t',rfl⟩:=ry;exact PySem.EqMixed.eq_str_int (jaO I q (by simp))
    | str j=>obtain⟨t',rfl⟩:=ry;exact eq_str (jaO I q jhI)
    | _=>exact absurd (show false=true from hs) xao
  | byt i =>
    obtain⟨t,rfl⟩:=rx;cases y with
    | byt j=>obtain⟨t',rfl⟩:=ry;exact PySem.W.eq_bytes (jaO I q jhJ)
    | _=>exact absurd (show false=true from hs) xao
  | _=>cases y<;>exact absurd (show false=true from hs) xao
theorem jdP:OpR X (compareOp .NotEq) rNe:=by
  intro pins s σ H x y v u Q I rx ry h;obtain⟨hs,q⟩:=h;cases x with
  | non =>
    cases rx;cases y with
    | non=>cases ry;exact PySem.EqNone.ne_none_none (jaO I q (by simp))
    | bl j=>cases ry;exact PySem.EqNone.ne_none_bool (jaO I q (by simp))
    | int j=>obtain⟨t',rfl⟩:=ry;exact PySem.EqNone.ne_none_int (jaO I q (by simp))
    | str j=>obtain⟨t',rfl⟩:=ry;exact PySem.EqNone.ne_none_str (jaO I q (by simp))
    | _=>exact absurd (show false=true from hs) xao
  | bl i =>
    cases rx;cases y with
    | non=>cases ry;exact PySem.EqNone.ne_bool_none (jaO I q (by simp))
    | bl j=>cases ry;exact ne_bool (jaO I q (congrArg not jkk))
    | str j=>obtain⟨t',rfl⟩:=ry;exact PySem.EqMixed.ne_bool_str (jaO I q (by simp))
    | _=>exact absurd (show false=true from hs) xao
  | int i =>
    obtain⟨t,rfl⟩:=rx;cases y with
    | non=>cases ry;exact PySem.EqNone.ne_int_none (jaO I q (by simp))
    | int j=>obtain⟨t',rfl⟩:=ry;exact ne_int (jaO I q (congrArg not jhH))
    | str j=>obtain⟨t',rfl⟩:=ry;exact PySem.EqMixed.ne_int_str (jaO I q (by simp))
    | _=>exact absurd (show false=true from hs) xao
  | str i =>
    obtain⟨t,rfl⟩:=rx;cases y with
    | non=>cases ry;exact PySem.EqNone.ne_str_none (jaO I q (by simp))
    | bl j=>cases ry;exact PySem.EqMixed.ne_str_bool (jaO I q (by simp))
    | int j=>obtain⟨t',rfl⟩:=ry;exact PySem.EqMixed.ne_str_int (jaO I q (by simp))
    | str j=>obtain⟨t',rfl⟩:=ry;exact ne_str (jaO I q (congrArg not jhI))
    | _=>exact absurd (show false=true from hs) xao
  | byt i =>
    obtain⟨t,rfl⟩:=rx;cases y with
    | byt j=>obtain⟨t',rfl⟩:=ry;exact PySem.W.ne_bytes (jaO I q (congrArg not jhJ))
    | _=>exact absurd (show false=true from hs) xao
  | _=>cases y<;>exact absurd (show false=true from hs) xao
theorem jfk:OpR X (compareOp .Lt) (rI0 fun i j=>.bl (decide (i<j))):=opB0 fun _ _ _ _ _ _ _ q=>lt_int q
theorem jm2:OpR X (compareOp .LtE) (rI0 fun i j=>.bl (decide (i<=j))):=opB0 fun _ _ _ _ _ _ _ q=>le_int q
theorem jfY:OpR X (compareOp .Gt) (rI0 fun i j=>.bl (decide (j<i))):=opB0 fun _ _ _ _ _ _ _ q=>gt_int q
theorem jjp:OpR X (compareOp .GtE) (rI0 fun i j=>.bl (decide (j<=i))):=opB0 fun _ _ _ _ _ _ _ q=>ge_int q
theorem jeq:OpR X (compareOp .Is) (fun x y H Q=>y=.non/\Q (.bl (decide (x=.non))) H):=by
 intro pins s σ H x y v u Q I rx ry h;obtain⟨rfl,q⟩:=h;cases ry;refine is_none_gen (jaO I q ?_);cases x<;>first
  | (cases rx;rfl)
  | (obtain⟨t,rfl⟩:=rx;rfl)
theorem OpR.or {f:Value->Value->Sem Value} {r r':R2} (h:OpR X f r) (h':OpR X f r'):OpR X f (fun x y H Q=>r x y H Q\/r' x y H Q):=by
 intro pins s σ H x y v u Q I rx ry q;rcases q with q | q
 ·exact h pins s σ H x y v u Q I rx ry q
 ·exact h' pins s σ H x y v u Q I rx ry q
theorem jax (b:Expr) {op:CmpOp} (h:op≠.In:=by decide) (h2:op≠.NotIn:=by decide):behindInMarks op b=false:=by
 have e1:(op==CmpOp.In)=false:=by cases op<;>first | rfl | exact absurd rfl h
 have e2:(op==CmpOp.NotIn)=false:=by cases op<;>first | rfl | exact absurd rfl h2
 cases b<;>simp [behindInMarks,e1,e2]
theorem jch {op:CmpOp} {r:R2} (ho:OpR X (compareOp op) r) (ha:PE X a ta) (hb:PE X b tb) (hm:behindInMarks op b=false):PE X (.Compare a [op] [b] pos) (tOp r ta tb):=by
 intro pins s σ H Q I h;exact wpAny_Compare1 (binT ha hb I h fun v u s2 x y H2 I2 rx ry q=>ho pins s2 σ H2 x y v u Q I2 rx ry q) hm
def jhK (t:TE):TT:=fun σ H Q=>t σ H fun x H'=>∃k,x=.bl k/\Q k H'
theorem jau {op:CmpOp} {r:R2} (ho:OpR X (compareOp op) r) (ha:PE X a ta) (hb:PE X b tb) (hm:behindInMarks op b=false):PT X (.Compare a [op] [b] pos) (jhK (tOp r ta tb)):=by
 intro pins s σ H Q I h;refine wpAny_isTrue_Compare1 (thn (ha pins s σ H _ I h) fun v s1 ⟨x,H1,I1,r1,q1⟩=>thn (hb pins s1 σ H1 _ I1 q1) fun u s2 ⟨y,H2,I2,r2,q2⟩ =>
  thn (ho pins s2 σ H2 x y v u _ I2 r1 r2 q2) fun c s3 ⟨z,H3,I3,r3,k,e,q3⟩=>?_) hm
 subst e;cases r3;exact wpAny_truthy_bool ⟨H3,I3,q3⟩
def jkl (r r':R2) (ta tb tc:TE):TE:=fun σ H Q=>ta σ H fun x H1=>tb σ H1 fun y H2=>r x y H2 fun z H3=>∃k,z=.bl k /\
 (if k=true then tc σ H3 fun w' H4=>r' y w' H4 Q else Q (.bl false) H3)
theorem jgl:(sizeLine:Nat)<2^63:=by rw[sizeLine_eq];decide
theorem jei {x:V} {us:List Value} (r:Vals [x] us):∃u,us=[u]/\RelV x u:=by
 cases r with
 | cons r1 r2=>cases r2;exact⟨_,rfl,r1⟩
theorem jlo {x y:V} {us:List Value} (r:Vals [x,y] us):∃u w',us=[u,w']/\RelV x u/\RelV y w':=by
  cases r with
  | cons r1 r2 =>
    cases r2 with
    | cons r3 r4=>cases r4;exact⟨_,_,rfl,r1,r3⟩
theorem jcF:CallR X (.builtin "abs") (fun xs H Q=>∃i,xs=[.int i]/\Q (.int (if i<0 then -i else i)) H):=by
 intro pins s σ H xs us Q I r h;obtain⟨i,rfl,q⟩:=h;obtain⟨u,rfl,t,rfl⟩:=jei r;exact call_abs_int fun u tk=>⟨.int (if i<0 then -i else i),H,I.tok _,⟨_,rfl⟩,q⟩
theorem jhL (hc:X.calm=true):CallR X (.builtin "max") (fun xs H Q=>∃i j,xs=[.int i,.int j]/\Q (.int (if j>i then j else i)) H):=by
 intro pins s σ H xs us Q I r h;obtain⟨i,j,rfl,q⟩:=h;obtain⟨u,w',rfl,⟨t,rfl⟩,⟨t',rfl⟩⟩:=jlo r;refine max_two_ints (I.ok.hd hc) fun h' tk k=>⟨_,H,I.kept k,?_,q⟩;by_cases hj:j>i
 ·rw[if_pos hj,if_pos hj];exact⟨_,rfl⟩
 ·rw[if_neg hj,if_neg hj];exact⟨_,rfl⟩
theorem jhM (hc:X.calm=true):CallR X (.builtin "min") (fun xs H Q=>∃i j,xs=[.int i,.int j]/\Q (.int (if j<i then j else i)) H):=by
 intro pins s σ H xs us Q I r h;obtain⟨i,j,rfl,q⟩:=h;obtain⟨u,w',rfl,⟨t,rfl⟩,⟨t',rfl⟩⟩:=jlo r;refine min_two_ints (I.ok.hd hc) fun h' tk k=>⟨_,H,I.kept k,?_,q⟩;by_cases hj:j<i
 ·rw[if_pos hj,if_pos hj];exact⟨_,rfl⟩
 ·rw[if_neg hj,if_neg hj];exact⟨_,rfl⟩
end
structure ObjM (h:Heap) (x dx C:Addr) (mA:Str->Option Value):Prop where
 obj:h.get? x=some (PySem.W.instObj C dx)
 ns:h.Ns1 dx mA
 ne:dx≠x
theorem jhN {h:Heap} {dx:Addr} {mA:Str->Option Value} (n:h.Ns1 dx mA):∃od,h.get? dx=some od/\∀name,PySem.W.lookIn name od=some (mA name):=by
 obtain⟨o,es,ep,ho,hd,hk,_,hm⟩:=n;refine⟨o,ho,fun name=>?_⟩;have e:=hm name;unfold nsFind findBy at e;rw[<- Array.find?_toList] at e;unfold PySem.W.lookIn;rw[hd];dsimp only;split
 ·rename_i y q
  rw[q] at e;exact congrArg some e
 ·rename_i q
  rw[q] at e;have a:es.toList.any (·.refKey)=false:=by
   rw[List.any_eq_false];intro y hy;obtain⟨z,t,hkey⟩:=hk y (Array.mem_toList_iff.mp hy);simp [DictEntry.refKey,hkey]
  have a':¬es.toList.any (·.refKey)=true:=by rw[a];exact xao
  rw[if_neg a'];exact congrArg some e
theorem ObjM.look {h:Heap} {x dx C:Addr} {mA:Str->Option Value} (I:ObjM h x dx C mA):∃od,PySem.W.InstAt h x (PySem.W.instObj C dx) C (some od)/\∀name,PySem.W.lookIn name od=some (mA name) :=
 let ⟨od,ho,hl⟩:=jhN I.ns
 ⟨od,⟨I.obj,rfl,rfl,ho⟩,hl⟩
theorem RelO.some_of {v:V} {o:Option Value} (r:RelO (some v) o):∃u,o=some u/\RelV v u:=by
 cases o with
 | none=>exact (show False from r).elim
 | some u=>exact⟨u,rfl,r⟩
section
variable {P:Program} {w:World} {H H':Hp} {h h':Heap} {a C dx:Addr} {fs fs':List (Str × V)}
theorem jlp (hok:HOk P w H h) (e:H a=some (.ins C dx fs)):∃mA,ObjM h a dx C mA/\(∀f,RelO (fs.lookup f) (mA f))/\PySem.Within mA (fs.map (·.1))/\fs.length<=1000/\H dx=some (.own a):=by
 obtain⟨d,z,ne,ob,mA,n,r,q⟩:=(show ObjOk P w H h a (.ins C dx fs) from hok a _ e);exact⟨mA,⟨ob,n,ne⟩,r,q,z,d⟩
end
structure Cls (K:PySem.W.Frag) (C:Addr):Prop where
 pg:PySem.W.plainGet K C Str.empty=true
 hd:PySem.W.hasDictIn K C=true
 po:PySem.W.plainOver K C=true
 sa:PySem.W.findIn K (.ref C) "__setattr__"=some (some (.builtin "object.__setattr__"))
theorem Cls.get {K:PySem.W.Frag} {C:Addr} (c:Cls K C) (f:Str):PySem.W.plainGet K C f=true:=c.pg
section
variable {X:Cx} {pins:List (Addr × Obj)} {σ:St} {H:Hp} {s:Shared} {a C dx:Addr} {fs:List (Str × V)} {f:Str} {v:V} {A:Around} {E:Value->Shared->Prop}
theorem Inv.made (I:Inv X pins σ H s):Inv X pins σ (upd (upd H s.heap.objs.size (.own (s.heap.objs.size+1))) (s.heap.objs.size+1) (.ins C s.heap.objs.size []))
  { s with heap:=(s.heap.push PySem.W.emptyDict).push (PySem.W.instObj C s.heap.objs.size) }:=by
 have e1:(s.heap.push PySem.W.emptyDict).get? s.heap.objs.size=some PySem.W.emptyDict:=Heap.get?_push_size s.heap rfl;have e2:((s.heap.push PySem.W.emptyDict).push (PySem.W.instObj C s.heap.objs.size)).get? (s.heap.objs.size+1)=some (PySem.W.instObj C s.heap.objs.size):=by
  have:=Heap.get?_push_size (s.heap.push PySem.W.emptyDict) (o:=PySem.W.instObj C s.heap.objs.size) rfl
  rwa [Heap.size_push] at this
 have e3:(s.heap.push PySem.W.emptyDict).Ns s.heap.objs.size (fun _=>none):=⟨PySem.W.emptyDict,#[],_,e1,rfl,(fun e he=>absurd he (by simp)),fun _=>rfl⟩;have I1:=I.laid (a:=s.heap.objs.size) (o:=.own (s.heap.objs.size+1)) (h':=s.heap.push PySem.W.emptyDict) (t':=s.toks) (fun b u q=>Heap.get?_push_of_some _ q) (xag _) ⟨_,e1⟩;refine I1.laid (a:=s.heap.objs.size+1) (o:=.ins C s.heap.objs.size []) (t':=s.toks) (fun b u q=>Heap.get?_push_of_some _ q) (Nat.le_of_eq (Heap.size_push _ _)) ?_;have ne:s.heap.objs.size≠s.heap.objs.size+1:=xax (Nat.lt_succ_self _);refine⟨by rw[jaK ne,jag],xaQ _,ne,e2,fun _=>none,(Heap.Ns1.of_empty e3).at fun o q=>Heap.get?_push_of_some _ q,fun _=>True.intro,fun y hy=>absurd rfl hy⟩
end
section
variable {X:Cx} {pins:List (Addr × Obj)} {σ:St} {H:Hp} {s:Shared} {A:Around} {E:Value->Shared->Prop} {Q:Value->Shared->Prop} {c:Value} {b:Bool}
inductive TyOf (K:PySem.W.Frag) (H:Hp):V->Value->Prop where
 | non:TyOf K H .non (.type "NoneType")
 | bl (x:Bool):TyOf K H (.bl x) (.type "bool")
 | int (i:Int):TyOf K H (.int i) (.type "int")
 | str (x:Str):TyOf K H (.str x) (.type "str")
 | flt (x:UInt64):TyOf K H (.flt x) (.type "float")
 | lst {a:Addr} {xs:List V} (e:H a=some (.lst xs)):TyOf K H (.ref a) (.type "list")
 | frz {a:Addr} {o:Obj} {xs:List V} (e:H a=some (.frz o (.lst xs))):TyOf K H (.ref a) (.type "list")
 | tup {a:Addr} {xs:List V} (e:H a=some (.tup xs)):TyOf K H (.ref a) (.type "tuple")
 | dK {a:Addr} {kvs:List (Key × V)} (e:H a=some (.dK kvs)):TyOf K H (.ref a) (.type "dict")
 | dT {a:Addr} {kvs:List (List Key × V)} (e:H a=some (.dT kvs)):TyOf K H (.ref a) (.type "dict")
 | ins {a C dx:Addr} {fs:List (Str × V)} (e:H a=some (.ins C dx fs)) (cl:Cls K C) (ha:PySem.W.findIn K (.ref C) "__class__"=some (some (.builtin "object.__class__")))
   (hn:PySem.W.specialIn K (.builtin "object.__class__") "__get__"=some (some (.builtin "getset_descriptor.__get__"))) (htk:PySem.W.takesIn K (.builtin "object.__class__")=some true)
   (hm:PySem.W.mroIn K C (.type "object")=some true):TyOf K H (.ref a) (.ref C)
theorem jhO {x:V} {u t:Value} (I:Inv X pins σ H s) (rx:RelV x u) (ty:TyOf X.K H x t) (e:PySem.W.kitOne X.K t c=some b) (h:∀tk,Q (.bool b) { s with toks:=tk }) :
    wpAny (model X.prog X.w) A (call (.builtin "isinstance") [u,c]) Q E s:=by
  cases ty with
  | non=>cases (show u=Value.none from rx);exact PySem.W.kia_one PySem.W.kitx_none I.kIn True.intro e (fun z=>nomatch z) h
  | bl y=>cases (show u=Value.bool y from rx);exact PySem.W.kia_one PySem.W.kitx_bool I.kIn True.intro e (fun z=>nomatch z) h
  | int i=>obtain⟨t,q⟩:=(show ∃t,u=Value.int i t from rx);cases q;exact PySem.W.kia_one PySem.W.kitx_int I.kIn True.intro e (fun z=>nomatch z) h
  | str y=>obtain⟨t,q⟩:=(show ∃t,u=Value.str y t from rx);cases q;exact PySem.W.kia_one PySem.W.kitx_str I.kIn True.intro e (fun z=>nomatch z) h
  | flt y=>obtain⟨t,q⟩:=(show ∃t,u=Value.float y t from rx);cases q;exact PySem.W.kia_one PySem.W.kitx_float I.kIn True.intro e (fun z=>nomatch z) h
  | @lst a xs ea =>
    cases (show u=Value.ref a from rx);obtain⟨_,_,n,_,h1⟩:=(show ObjOk X.prog X.w H s.heap a (.lst xs) from I.hok a _ ea);exact PySem.W.kia_one PySem.W.kitx_list I.kIn ⟨_,h1,rfl⟩ e (fun z=>nomatch z) h
  | @frz a ob xs ea =>
    cases (show u=Value.ref a from rx);obtain⟨_,_,_,n,_,h1⟩:=(show ObjOk X.prog X.w H s.heap a (.frz ob (.lst xs)) from I.hok a _ ea);exact PySem.W.kia_one PySem.W.kitx_list I.kIn ⟨_,h1,rfl⟩ e (fun z=>nomatch z) h
  | @tup a xs ea =>
    cases (show u=Value.ref a from rx);obtain⟨_,_,_,p⟩:=(show ObjOk X.prog X.w H s.heap a (.tup xs) from I.hok a _ ea);obtain⟨o,h1,h2,_⟩:=p;exact PySem.W.kia_one PySem.W.kitx_tuple I.kIn ⟨o,h1,h2⟩ e (fun z=>nomatch z) h
  | @dK a kvs ea =>
    cases (show u=Value.ref a from rx);obtain⟨_,_,vs,_,p⟩:=(show ObjOk X.prog X.w H s.heap a (.dK kvs) from I.hok a _ ea);obtain⟨o,es,ep,h1,h2,_⟩:=p;exact PySem.W.kia_one PySem.W.kitx_dict I.kIn ⟨o,h1,h2.1⟩ e (fun z=>nomatch z) h
  | @dT a kvs ea =>
    cases (show u=Value.ref a from rx);obtain⟨_,_,xs,_,o,es,ep,h1,h2,_⟩:=(show ObjOk X.prog X.w H s.heap a (.dT kvs) from I.hok a _ ea);exact PySem.W.kia_one PySem.W.kitx_dict I.kIn ⟨o,h1,h2.1⟩ e (fun z=>nomatch z) h
  | @ins a C dx fs ea cl ha hn htk hm =>
    cases (show u=Value.ref a from rx);obtain⟨mA,O,_⟩:=jlp I.hok ea;obtain⟨od,J,_⟩:=O.look;exact PySem.W.kia_one (PySem.W.kitx_own (cl.get _) cl.hd ha hn htk hm) I.kIn J e (fun z=>nomatch z) h
end
structure Room (k:Nat) (A:Around):Prop where
 hd:A.handled=none
 dp:A.depth+3*k+5<recursionLimit
 un:A.units+16*k+200<cLine
theorem Room.mono {j k:Nat} {A:Around} (r:Room k A) (h:j<=k):Room j A:=⟨r.hd,by have:=r.dp;omega,by have:=r.un;omega⟩
theorem Room.m {j k:Nat} {A:Around} (r:Room k A) (h:j≤k:=by decide):Room j A:=r.mono h
theorem Room.deeper {k:Nat} {A:Around} (r:Room (k+1) A) (env:Env):Room k (A.deeper env) :=
 ⟨r.hd,by have:=r.dp;show A.depth+1+3*k+5<_;omega,by have:=r.un;show A.units+3+16*k+200<_;omega⟩
theorem Room.in1 {k:Nat} {A:Around} (r:Room (k+1) A):Room k A.in1 :=
 ⟨r.hd,by have:=r.dp;show A.depth+3*k+5<_;omega,by have:=r.un;show A.units+1+16*k+200<_;omega⟩
theorem Room.depth {k:Nat} {A:Around} (r:Room k A):A.depth<recursionLimit:=by have:=r.dp;omega
theorem Room.units {k:Nat} {A:Around} (r:Room k A):A.units+64<cLine:=by have:=r.un;omega
def jjq:TA:=fun _ H Q=>Q [] H
def jej (ta:TE) (tr:TA):TA:=fun σ H Q=>ta σ H fun x H1=>tr σ H1 fun xs H2=>Q (x::xs) H2
section
variable {X:Cx} {e:Expr} {es:List Expr} {te:TE} {t:TA} {pos:Pos}
theorem jac:PA X [] jjq:=fun _ _ _ _ H Q I h=>Calls.spliced_nil ⟨[],H,I,.nil,h⟩
theorem jaa (ha:PE X e te) (hr:PA X es t) (hs:starEach (e::es) X.env=(false,eval e X.env)::starEach es X.env:=by rfl):PA X (e::es) (jej te t):=by
 intro pos pins s σ H Q I h;rw[hs];show wpAny _ _ (spliced ((false,eval e X.env)::backTo pos (starEach es X.env))) _ _ s;refine Calls.spliced_cons (thn (ha pins s σ H _ I h) fun u s1 ⟨x,H1,I1,r1,q1⟩=>?_);exact thn (hr pos pins s1 σ H1 _ I1 q1) fun us s2 ⟨xs,H2,I2,r2,q2⟩=>⟨x::xs,H2,I2,.cons r1 r2,q2⟩
def jlq (t:TA):TE:=fun σ H Q=>t σ H fun xs H1=>xs.length<=sizeLine/\∀p,H1 p=none->Q (.ref p) (upd H1 p (.tup xs))
def jkm (t:TA):TE:=fun σ H Q=>t σ H fun xs H1=>xs.length<=sizeLine/\∀p,H1 p=none->Q (.ref p) (upd H1 p (.lst xs))
theorem jaG {x1} (h:PA X es t):PE X (.Tuple es x1 pos) (jlq t):=by
 intro pins s σ H Q I hq;refine wpAny_Tuple_spliced (thn (h pos pins s σ H _ I hq) fun us s1 ⟨xs,H1,I1,r,z,q⟩=>⟨by rw[<- r.length];exact z,?_⟩);have hf:H1 s1.heap.objs.size=none:=I1.hok.fresh (xag _);refine⟨.ref s1.heap.objs.size,upd H1 s1.heap.objs.size (.tup xs),I1.laid (t':=s1.toks) (fun b u e=>Heap.get?_push_of_some _ e) (xag _) ?_,rfl,q _ hf⟩;exact⟨z,us,r,⟨_,Heap.get?_push_size _ rfl,rfl,_,rfl⟩⟩
theorem jbk (h:PA X es t):PE X (.List es pos) (jkm t):=by
 intro pins s σ H Q I hq;refine wpAny_List_spliced (thn (h pos pins s σ H _ I hq) fun us s1 ⟨xs,H1,I1,r,z,q⟩=>⟨by rw[<- r.length];exact z,?_⟩);have hf:H1 s1.heap.objs.size=none:=I1.hok.fresh (xag _);refine⟨.ref s1.heap.objs.size,upd H1 s1.heap.objs.size (.lst xs),I1.laid (t':=s1.toks) (fun b u e=>Heap.get?_push_of_some _ e) (xag _) ?_,rfl,q _ hf⟩;exact⟨z,us,0,r,Heap.get?_push_size _ rfl⟩
end
abbrev Sp:=List V->Hp->VK->XK->Prop
abbrev CXT:=List Env->Hp->Shared->XK->Value->Shared->Prop
structure Env0 (P:Program) (w:World) (K:PySem.W.Frag) (mg:Str->Option Value) (base:Heap) (A:Around) (outer:List Env) (s:Shared) (H:Hp):Prop where
 frames:A.frames=some outer
 mod:Mod K mg base
 bs:∀b o,base.get? b=some o->s.heap.get? b=some o/\H b=none
 bsz:base.objs.size<=s.heap.objs.size
 funs:s.heap.FunFrames base outer
 frf:∀b∈frs outer,H b=none
 hok:HOk P w H s.heap
 bare:AllBare s.gens
def CE (outer:List Env) (P:Program) (w:World) (H:Hp) (s:Shared) (Q:VK) (u:Value) (s':Shared):Prop :=
 ∃v H',s'.os=s.os/\AllBare s'.gens/\Un (frs outer) [] H H' s.heap s'.heap/\HOk P w H' s'.heap/\RelV v u/\Q v H'
def CR (CX:CXT) (outer:List Env) (P:Program) (w:World) (H:Hp) (s:Shared) (Q:VK) (E:XK) (r:Result) (s':Shared):Prop :=
 match r with
 | .ok (.ret u)=>CE outer P w H s Q u s'
 | .ok _=>False
 | .error e=>CX outer H s E e s'
structure FnOk (P:Program) (w:World) (K:PySem.W.Frag) (mg:Str->Option Value) (base:Heap) (CX:CXT) (k:Nat) (f:Addr) (fd:FuncData) (ps:List Str) (sp:Sp):Prop where
 len:∀vs H Q E,sp vs H Q E->vs.length=ps.length
 run:∀(A:Around) (outer:List Env) (s:Shared) (H:Hp) (args:Args) (us:List Value) (vs:List V) (Q:VK) (E:XK),Room k A->Env0 P w K mg base A outer s H->BindsTo s fd args (ps.zip us)->Vals vs us->sp vs H Q E ->
  codeAny (model P w) A (.call (.ref f) args) (CR CX outer P w H s Q E) s
theorem FnOk.mono {P:Program} {w:World} {K:PySem.W.Frag} {mg:Str->Option Value} {base:Heap} {CX:CXT} {j k:Nat} {f:Addr} {fd:FuncData} {ps:List Str} {sp:Sp} (F:FnOk P w K mg base CX j f fd ps sp) (h:j<=k) :
  FnOk P w K mg base CX k f fd ps sp:=⟨F.len,fun A outer s H args us vs Q E hr=>F.run A outer s H args us vs Q E (hr.mono h)⟩
theorem Env0.in1 {P:Program} {w:World} {K:PySem.W.Frag} {mg:Str->Option Value} {base:Heap} {A:Around} {outer:List Env} {s:Shared} {H:Hp} (e:Env0 P w K mg base A outer s H) :
  Env0 P w K mg base A.in1 outer s H:=⟨e.frames,e.mod,e.bs,e.bsz,e.funs,e.frf,e.hok,e.bare⟩
section
variable {X:Cx} {pins:List (Addr × Obj)} {σ:St} {H:Hp} {s s':Shared}
theorem Inv.env0 (I:Inv X pins σ H s):Env0 X.prog X.w X.K X.mg X.base X.A X.stack s H :=
 ⟨I.ok.frames,I.ok.mod,I.bs,xaA I.ok.bsz I.sz,I.stack,I.stkFree,I.hok,I.bare⟩
theorem Inv.after {Q:VK} {u:Value} (I:Inv X pins σ H s) (h:CE X.stack X.prog X.w H s Q u s'):EP X pins σ Q u s':=by
 obtain⟨v,H',os,bare,un,hok,r,q⟩:=h;obtain⟨hh,g,d,t,os'⟩:=s';obtain rfl:os'=s.os:=os;exact⟨v,H',I.call (h':=hh) (g':=g) (d':=d) (t':=t) (ch:=[]) un hok bare (fun b z=>absurd z (by simp)),r,q⟩
end
def jha (sp:Sp) (dvs:List V) (E:XK) (t:TA):TE:=fun σ H Q=>t σ H fun vs H1=>sp (vs++dvs) H1 Q E
def Binds (K:PySem.W.Frag) (fd:FuncData) (ps:List Str) (ds:List Value):Prop :=
 ∀(s:Shared) (us:List Value),K.In s.heap->(us++ds).length=ps.length->BindsTo s fd ⟨us,[]⟩ (ps.zip (us++ds))
theorem Binds.all {K:PySem.W.Frag} {fd:FuncData} {ps:List Str} (h:∀us:List Value,us.length=ps.length->bindArgs fd ⟨us,[]⟩=pure (ps.zip us)):Binds K fd ps []:=fun s us _ hl=>by
 rw[xbv] at hl |-
 exact .of_eq (h us hl)
def jgm (CX:CXT) (X:Cx) (E:XK):Prop:=∀(pins:List (Addr × Obj)) (σ:St) (H:Hp) (s:Shared) (e:Value) (s':Shared),Inv X pins σ H s->CX X.stack H s E e s'->X.xe e s'
section
variable {X:Cx} {CX:CXT} {k:Nat} {f C:Addr} {fd:FuncData} {ps:List Str} {sp:Sp} {dvs:List V} {ds:List Value} {E:XK} {x m:Str} {p pos apos:Pos} {e o:Expr} {es:List Expr} {ta:TE} {t:TA}
theorem jm3 {pins:List (Addr × Obj)} {σ:St} {H:Hp} {s:Shared} {Q:VK} {us:List Value} {vs:List V} (F:FnOk X.prog X.w X.K X.mg X.base CX k f fd ps sp) (hr:Room k X.A) (hb:Binds X.K fd ps ds) (hd:Vals dvs ds) (hx:jgm CX X E)
    (I:Inv X pins σ H s) (r:Vals vs us) (h:sp (vs++dvs) H Q E):wpAny (model X.prog X.w) X.A (call (.ref f) us) (EP X pins σ Q) X.xe s:=by
  have r2:Vals (vs++dvs) (us++ds):=r.append hd;have hl:(us++ds).length=ps.length:=by rw[<- r2.length];exact F.len _ _ _ _ h
  refine wpAny_call (codeAny_mono (F.run X.A X.stack s H ⟨us,[]⟩ (us++ds) (vs++dvs) Q E hr I.env0 (hb s us I.kIn hl) r2 h) fun r s' hq=>?_);cases r with
  | error e=>exact hx pins σ H s e s' I hq
  | ok fl =>
    cases fl with
    | ret u=>exact I.after hq
    | next=>exact False.elim hq
    | brk=>exact False.elim hq
    | cont=>exact False.elim hq
theorem jlr (F:FnOk X.prog X.w X.K X.mg X.base CX k f fd ps sp) (hr:Room k X.A) (hg:Gl X x) (hm:X.mg x=some (.ref f)) (hk:PySem.W.keepIn X.K (.ref f)=true) (hb:Binds X.K fd ps ds) (hd:Vals dvs ds) (hx:jgm CX X E)
  (ha:PA X (e::es) t) (hdb:(x==("__debug__":Str))=false:=by decide) (he:starEach (e::es) X.env=(false,eval e X.env)::starEach es X.env:=by rfl) (hpl:(backTo pos (starEach es X.env)).any (·.1)=false:=by rfl) :
  PE X (.Call (.Name x p) (e::es) [] pos) (jha sp dvs E t):=by
 intro pins s σ H Q I h;refine wpAny_Call_Name_kw (jhx I hg hm ?_ hdb);refine PySem.W.callWith_K (h₀:=X.base) I.ok.mod.kin hk (thn (ha pos pins s σ H _ I h) fun us s1 ⟨vs,H1,I1,r,q⟩=>⟨I1.kIn,?_⟩) he hpl;exact jm3 F hr hb hd hx I1 r q
structure Mk (K:PySem.W.Frag) (C f:Addr):Prop where
 makes:PySem.W.makesIn K C=true
 init:PySem.W.findIn K (.ref C) "__init__"=some (some (.ref f))
 fn:PySem.W.isFn K (.ref f)=true
 kp:PySem.W.keepIn K (.ref C)=true
end
section
variable {X:Cx} {CX:CXT} {k:Nat} {f C:Addr} {fd:FuncData} {ps ks:List Str} {sp:Sp} {E:XK} {x m:Str} {p pos apos kpos:Pos} {e o:Expr} {es:List Expr} {kws:List Keyword} {te ta:TE} {t tk:TA} {nm:Option Str}
structure KBinds (K:PySem.W.Frag) (fd:FuncData) (ps ks:List Str) (g:List Value->List Value->List Value) (gV:List V->List V->List V):Prop where
 to:∀(s:Shared) (us ws:List Value),K.In s.heap->(g us ws).length=ps.length->BindsTo s fd ⟨us,ks.zip ws⟩ (ps.zip (g us ws))
 rel:∀{vs:List V} {us:List Value} {zs:List V} {ws:List Value},Vals vs us->Vals zs ws->Vals (gV vs zs) (g us ws)
variable {g:List Value->List Value->List Value} {gV:List V->List V->List V}
end
structure FnScope (N P:List Str) (sc:Scope):Prop where
 kind:sc.kind=.function
 co:sc.isCoroutine=false
 gen:sc.isGenerator=false
 nd:N.Nodup
 pre:N.take P.length=P
 par:∀x∈P,sc.names.lookup x=some .local\/sc.names.lookup x=some .cell
 nofree:∀y∈sc.names,y.2≠.free
theorem jfl {kindOf:Str->Option NameKind} {x:Str}:∀{binds:List (Str × Value)} {m:Str->Option Value},(∀v,(x,v)∉binds)->bindL kindOf binds m x=m x
  | [],_,_=>rfl
  | (n, v) :: r, m, h => by
    unfold bindL;rw[jfl fun w hw=>h w (xan _ hw)];split
    . have:x≠n:=by rintro rfl; exact h v xaX
      simp [this]
    . rfl
theorem jfm {kindOf:Str->Option NameKind} {x:Str}:∀{binds:List (Str × Value)} {m:Str->Option Value},(∀v,(x,v)∉binds)->bindC kindOf binds m x=m x
  | [],_,_=>rfl
  | (n, v) :: r, m, h => by
    unfold bindC;rw[jfm fun w hw=>h w (xan _ hw)];split
    . rfl
    . have:x≠n:=by rintro rfl; exact h v xaX
      simp [this]
theorem jfn {kindOf:Str->Option NameKind} {x:Str} {v:Value}:∀{P:List Str} {vs:List Value} {i:Nat} {m:Str->Option Value},P.Nodup->P[i]?=some x->vs[i]?=some v->kindOf x=some .local ->
    bindL kindOf (P.zip vs) m x=some v
  | [],_,_,_,_,h,_,_=>by simp at h
  | _::_,[],_,_,_,_,h,_=>by simp at h
  | p :: P, w :: vs, 0, m, nd, h1, h2, hk => by
    simp at h1 h2;subst h1;subst h2;show bindL kindOf ((p,w)::P.zip vs) m p=_;unfold bindL;rw[jfl fun v hv=>(xaJ.mp nd).1 (List.of_mem_zip hv).1,if_pos hk];simp
  | p :: P, w :: vs, i + 1, m, nd, h1, h2, hk => by
    show bindL kindOf ((p,w)::P.zip vs) m x=_;unfold bindL;exact jfn (i:=i) (xaJ.mp nd).2 (by simpa using h1) (by simpa using h2) hk
theorem jfo {kindOf:Str->Option NameKind} {x:Str} {v:Value}:∀{P:List Str} {vs:List Value} {i:Nat} {m:Str->Option Value},P.Nodup->P[i]?=some x->vs[i]?=some v->kindOf x≠some .local ->
    bindC kindOf (P.zip vs) m x=some v
  | [],_,_,_,_,h,_,_=>by simp at h
  | _::_,[],_,_,_,_,h,_=>by simp at h
  | p :: P, w :: vs, 0, m, nd, h1, h2, hk => by
    simp at h1 h2;subst h1;subst h2;show bindC kindOf ((p,w)::P.zip vs) m p=_;unfold bindC;rw[jfm fun v hv=>(xaJ.mp nd).1 (List.of_mem_zip hv).1,if_neg hk];simp
  | p :: P, w :: vs, i + 1, m, nd, h1, h2, hk => by
    show bindC kindOf ((p,w)::P.zip vs) m x=_;unfold bindC;exact jfo (i:=i) (xaJ.mp nd).2 (by simpa using h1) (by simpa using h2) hk
def jc2 (N:List Str) (vs:List V):St:=vs.map some++List.replicate (N.length-vs.length) none
def jhr (CX:CXT) (P:Program) (w:World) (K:PySem.W.Frag) (mg:Str->Option Value) (base:Heap) (N:List Str) (qual:Str) (scope:Scope) (f:Addr) (cd:Value) (A:Around) (outer:List Env) (s:Shared) (H:Hp) (E:XK):Cx where
 prog:=P
 w:=w
 K:=K
 mg:=mg
 base:=base
 A:=A.deeper (envOfC qual scope s.heap.objs.size f cd)
 N:=N
 s₀:=s
 H₀:=H
 env:=envOfC qual scope s.heap.objs.size f cd
 outer:=outer
 stack:=envOfC qual scope s.heap.objs.size f cd::outer
 ex:=[]
 calm:=true
 fn:=fun _=>true
 pn:=[]
 xe:=fun e s'=>wpAny (model P w) (A.deeper (envOfC qual scope s.heap.objs.size f cd)) (leaving (envOfC qual scope s.heap.objs.size f cd) e) (fun _ s''=>CX outer H s E e s'') (fun e' s''=>CX outer H s E e' s'') s'
theorem jgn {sc:Scope} {n:Nat} {x:Str} (h:sc.names.lookup x=some .cell):∃c,(cellsFrom n sc.names []).lookup x=some c:=by
 have q:=PySem.W.cellsFrom_some sc.names n [] (.inl h);exact Option.isSome_iff_exists.mp q
theorem jhP {CX:CXT} {P:Program} {w:World} {K:PySem.W.Frag} {mg:Str->Option Value} {base:Heap} {N ps:List Str} {qual:Str} {scope:Scope} {f:Addr} {cd:Value} {A:Around} {outer:List Env} {s s1:Shared} {H:Hp} {E:XK} {us:List Value} {vs:List V}
  (S:FnScope N ps scope) (hd:A.handled=none) (e0:Env0 P w K mg base A outer s H) (hl:vs.length=ps.length) (r:Vals vs us)
  (x:InCallC s s.heap.objs.size (bindL (envOfC qual scope s.heap.objs.size f cd).kindOf (ps.zip us) fun _=>none) (cellsFrom (s.heap.objs.size+1) scope.names []) (bindC (envOfC qual scope s.heap.objs.size f cd).kindOf (ps.zip us) fun _=>none) s1) :
  Inv (jhr CX P w K mg base N qual scope f cd A outer s H E) [] (jc2 N vs) H s1:=by
 have hpl:ps.length<=N.length:=by have:=congrArg List.length S.pre;rw[xay] at this;omega
 obtain⟨h1,tk,rfl,hk⟩:=x.done;have noA:∀b:Addr,b∉(jhr CX P w K mg base N qual scope f cd A outer s H E).ex:=fun b z=>absurd (show b∈([]:List Addr) from z) (by simp);refine⟨⟨e0.mod,S.kind,rfl,rfl,xag _,fun y z c h1 h2=>?_,fun y hy=>?_,fun y c _ h=>?_,fun _=>hd,Around.frames_deeper e0.frames,.inr ⟨rfl,rfl⟩,fun b z=>absurd z (noA b),e0.bs,e0.bsz,fun b _ _=>noA b,fun b z=>absurd z (noA b),e0.funs,e0.frf⟩,
  rfl,e0.bare,Un.kept hk,⟨_,x.toInCall.ns,fun i y v h1 h2 h3=>?_⟩,fun y c h=>⟨_,x.cell y c h⟩,e0.hok.fresh (xag _),fun y c h=>?_,fun p hp=>absurd (show p∈([]:List (Addr × Obj)) from hp) (by simp),e0.hok.kept hk,?_⟩
 ·exact name_of_addr x.apart (PySem.mem_of_lookup h1) (PySem.mem_of_lookup h2)
 ·have hy:scope.names.lookup y=some .cell\/scope.names.lookup y=some .free:=hy;rcases hy with hy | hy
  ·exact jgn hy
  ·exact absurd rfl (S.nofree _ (PySem.mem_of_lookup hy))
 ·exact xa2 (x.above y c (PySem.mem_of_lookup h))
 ·have hi:i<vs.length:=by
   unfold jc2 at h2;by_cases hi:i<vs.length
   ·exact hi
   ·rw[xau (by simpa using hi)] at h2;rw[List.getElem?_replicate] at h2;split at h2<;>cases h2
  have ha:vs[i]?=some v:=by
   unfold jc2 at h2;rw[xaF (by simpa using hi),xal] at h2;cases e:vs[i]? with
   | none=>rw[e] at h2;cases h2
   | some a=>rw[e] at h2;cases h2;rfl
  obtain⟨u,hu,rv⟩:=r.get ha;have hp:ps[i]?=some y:=by
   rw[<- S.pre,List.getElem?_take_of_lt (by omega)];exact h1
  have ndP:ps.Nodup:=by rw[<- S.pre];exact S.nd.sublist (List.take_sublist _ _)
  refine⟨u,rv,?_⟩;rcases S.par y (xaD hp) with k | k
  ·exact .inl ⟨k,jfn ndP hp hu k⟩
  ·obtain⟨c,e⟩:=jgn (n:=s.heap.objs.size+1) k;refine .inr ⟨.inl k,c,e,?_⟩;have q:=x.cell y c e;rw[jfo ndP hp hu (by show scope.names.lookup y≠_;rw[k];decide)] at q;exact q
 ·exact e0.hok.fresh (xa2 (x.above y c (PySem.mem_of_lookup h)))
 ·unfold jc2;show _=N.length;rw[xad,xaa,xa9];omega
theorem fn_of {CX:CXT} {P:Program} {w:World} {K:PySem.W.Frag} {mg:Str->Option Value} {base:Heap} {k:Nat} {f:Addr} {name qual:Str} {params:Arguments} {body:List Stmt} {scope:Scope} {dV kV doc pm cdv ct oc:Value} {an od:Option Addr}
    {osl:Array (Option Value)} {N ps:List Str} {sp:Sp} (lk:K.lookup f=some ⟨oc,od,.func (PySem.W.fnOf name qual params body scope dV kV doc pm an cdv ct),osl⟩) (hcd:PySem.W.codeIn K cdv qual=true) (S:FnScope N ps scope)
    (len:∀vs H Q E,sp vs H Q E->vs.length=ps.length)
    (hbody:∀(A:Around) (outer:List Env) (s:Shared) (H:Hp) (vs:List V) (Q:VK) (E:XK),Room k (A.deeper (envOfC qual scope s.heap.objs.size f cdv))->sp vs H Q E ->
      ∃t,PSs (jhr CX P w K mg base N qual scope f cdv A outer s H E) body t/\t { nx:=fun _ H'=>Q .non H',rt:=Q } (jc2 N vs) H) :
    FnOk P w K mg base CX (k+1) f (PySem.W.fnOf name qual params body scope dV kV doc pm an cdv ct) ps sp:=by
  refine⟨len,fun A outer s H args us vs Q E hr e0 hb r hsp=>?_⟩;have hl:=len _ _ _ _ hsp;have KX:K.In s.heap:=e0.mod.kin.keeps fun b o e=>(e0.bs b o e).1;have lim:s.heap.NoLimit:=e0.mod.nolimit.keeps fun b o e=>(e0.bs b o e).1;have hkind:∀y∈ps.zip us,scope.names.lookup y.1=some .local\/(scope.names.lookup y.1=some .cell/\((cellsFrom (s.heap.objs.size+1) scope.names []).lookup y.1).isSome=true):=fun ⟨n,v⟩ hy=>by
    rcases S.par n (List.of_mem_zip hy).1 with q | q
    . exact .inl q
    . exact .inr ⟨q,PySem.W.cellsFrom_some _ _ _ (.inl q)⟩
  refine codeAny_call_function hr.depth (KX _ _ lk) rfl S.co S.gen rfl (PySem.W.codeRec_of KX hcd) (hb _ _ _ _ ?_);refine wpAny_newFunctionEnv_cells S.kind hkind fun env he s1 x=>?_;subst he;refine⟨lim.keeps x.toInCall.keep,codeAny_func ?_⟩;obtain⟨t,ht,hq⟩:=hbody A outer s H vs Q E (hr.deeper _) hsp;have I:Inv (jhr CX P w K mg base N qual scope f cdv A outer s H E) [] (jc2 N vs) H s1:=jhP S hr.hd e0 hl r x;refine wpAny_mono (ht [] s1 (jc2 N vs) H _ I hq) (fun fl s' hs=>?_) fun e s' hs=>hs;have fin:∀{σ':St} {H':Hp} {v:V} {u:Value},Inv (jhr CX P w K mg base N qual scope f cdv A outer s H E) [] σ' H' s'->RelV v u->Q v H'->CE outer P w H s Q u s' :=
    fun {σ' H' v u} J rv q=>⟨v,H',J.os,J.bare,J.base,J.hok,rv,q⟩
  cases fl with
  | ret u =>
    obtain⟨v,σ',H',J,rv,q⟩:=hs;exact fin J rv q
  | next =>
    obtain⟨σ',H',J,q⟩:=hs;exact fin (v:=V.non) (u:=Value.none) J rfl q
  | brk =>
    obtain⟨_,_,_,q⟩:=hs;exact False.elim q
  | cont =>
    obtain⟨_,_,_,q⟩:=hs;exact False.elim q
section
variable {X:Cx} {x:Str} {p pos:Pos} {e:Expr} {es:List Expr} {t:TA} {id T:String} {r:List V->Hp->VK->Prop}
def tCB (r:List V->Hp->VK->Prop) (t:TA):TE:=fun σ H Q=>t σ H fun vs H1=>r vs H1 Q
theorem jaw (hc:CallR X (.builtin id) r) (hg:Gl X x) (hm:X.mg x=none) (hv:bootBuiltins x=some (.builtin id)) (ha:PA X (e::es) t) (hn:x≠"__name__":=by decide) (hdb:(x==("__debug__":Str))=false:=by decide)
  (he:starEach (e::es) X.env=(false,eval e X.env)::starEach es X.env:=by rfl) (hpl:(backTo pos (starEach es X.env)).any (·.1)=false:=by rfl):PE X (.Call (.Name x p) (e::es) [] pos) (tCB r t):=by
 intro pins s σ H Q I h;refine wpAny_Call_Name_kw (jdM I hg hm hv ?_ hn hdb);exact PyProof.Rows.callWith_builtin1 (thn (ha pos pins s σ H _ I h) fun us s1 ⟨vs,H1,I1,r1,q1⟩=>hc pins s1 σ H1 vs us Q I1 r1 q1) he hpl
theorem jaS (hc:CallR X (.type T) r) (hg:Gl X x) (hm:X.mg x=none) (hv:bootBuiltins x=some (.type T)) (ha:PA X (e::es) t) (hn:x≠"__name__":=by decide) (hdb:(x==("__debug__":Str))=false:=by decide)
  (he:starEach (e::es) X.env=(false,eval e X.env)::starEach es X.env:=by rfl) (hpl:(backTo pos (starEach es X.env)).any (·.1)=false:=by rfl):PE X (.Call (.Name x p) (e::es) [] pos) (tCB r t):=by
 intro pins s σ H Q I h;refine wpAny_Call_Name_kw (jdM I hg hm hv ?_ hn hdb);exact PyProof.Rows.callWith_type1 (thn (ha pos pins s σ H _ I h) fun us s1 ⟨vs,H1,I1,r1,q1⟩=>hc pins s1 σ H1 vs us Q I1 r1 q1) he hpl
end
end L2
namespace HT
open PySem PyProof.Rows
section
open PySem.SeqAt
open PySem.AutoSeq1 (wpAny_loadPart')
open PySem.MeetsSeq PySem.MeetsSeq2 PySem.MeetsSeq3
end
section
variable {prog:Program} {w:World} {A:Around} {E:Value->Shared->Prop} {s:Shared}
theorem cat_tup {t b:Addr} {vs ws:List Value} {Q:Value->Shared->Prop} (ht:IsTup s.heap t vs.toArray) (hb:IsTup s.heap b ws.toArray) (hv:vs≠[])
  (h1:ws=[]->Q (.ref t) s) (h2:ws≠[]->Q (.ref s.heap.objs.size) { s with heap:=s.heap.push { cls:=.type "tuple",data:=.seq (vs++ws).toArray } })
  (hsz:vs.length+ws.length<=sizeLine):wpAny (model prog w) A (binaryOp .Add (.ref t) (.ref b)) Q E s:=by
 obtain⟨⟨cls,dd,data,sl⟩,ho,hc,n,hd⟩:=id ht;obtain⟨⟨cls2,dd2,data2,sl2⟩,ho2,hc2,n2,hd2⟩:=id hb;simp only at hc hd hc2 hd2;subst hc hd hc2 hd2;have e:vs.toArray++ws.toArray=(vs++ws).toArray:=by simp
 by_cases hw:ws=[]
 ·exact concat_meets ⟨_,ho,rfl⟩ ⟨_,ho2,rfl⟩ noFill_tuple_add seq_tuple_add PySem.F.slot_tuple_add PySem.F.entry_tuple_add (PySem.F.args_tuple_add_2 _ _)
   (tuple_addW1 t b vs.toArray ws.toArray n n2 dd dd2 sl sl2 (by simpa using hv) (by simp [hw])) ⟨ho,ho2,h1 hw⟩
 ·refine concat_meets ⟨_,ho,rfl⟩ ⟨_,ho2,rfl⟩ noFill_tuple_add seq_tuple_add PySem.F.slot_tuple_add PySem.F.entry_tuple_add (PySem.F.args_tuple_add_2 _ _)
   (tuple_addW2 t b vs.toArray ws.toArray n n2 dd dd2 sl sl2 (by simpa using hv) (by simpa using hw) (by rw[xaj,xaj];exact hsz)) ⟨ho,ho2,?_⟩
  rw[e];exact h2 hw
def sIx (n d:Nat):Option Int->Nat
 | none=>d
 | some v=>if v<0 then (v+(n:Int)).toNat else min v.toNat n
theorem sIx_none (n d:Nat):sIx n d none=d:=rfl
theorem sIx_nat (n d k:Nat):sIx n d (some (k:Int))=min k n:=by
 show (if (k:Int)<0 then ((k:Int)+(n:Int)).toNat else min (k:Int).toNat n)=min k n;rw[if_neg (by omega),xcg]
theorem jkn (n d:Nat) (hd:d<=n) (o:Option Int):sIx n d o<=n:=by
  cases o with
  | none=>exact hd
  | some v =>
    show (if v<0 then (v+(n:Int)).toNat else min v.toNat n)<=n;by_cases hv:v<0
    . rw[if_pos hv];omega
    . rw[if_neg hv];exact Nat.min_le_right _ _
theorem jhQ (v:Int) (n d:Nat):(if v<0 then max (v+(n:Int)) 0 else min v (n:Int))=((sIx n d (some v):Nat):Int):=by
 show (if v<0 then max (v+(n:Int)) 0 else min v (n:Int))=(((if v<0 then (v+(n:Int)).toNat else min v.toNat n):Nat):Int);by_cases hv:v<0
 ·simp only[if_pos hv];omega
 ·simp only[if_neg hv];omega
theorem jhb (lo hi:Option Int) (n:Nat):Builtin.Slice.sliceAdjust lo hi 1 (n:Int)=(((sIx n 0 lo:Nat):Int),((sIx n n hi:Nat):Int)):=by
 have h1:¬((1:Int)<0):=by omega
 unfold Builtin.Slice.sliceAdjust;simp only[h1,if_false];refine Prod.ext ?_ ?_
 ·cases lo with
  | none=>rfl
  | some v=>exact jhQ v n 0
 ·cases hi with
  | none=>rfl
  | some v=>exact jhQ v n n
theorem jhc (i j:Nat):Builtin.Slice.slicePlaces (i:Int) (j:Int) 1=j-i:=by
 unfold Builtin.Slice.slicePlaces;have h1:(1:Int)>0:=by omega
 simp only[h1,if_true,Int.ediv_one];split<;>omega
theorem jer {v:Value} {o:Option Int} {Q:Option Int->Shared->Prop} (p:IsPart v o) (h:Q o s):wpAny (model prog w) A (Builtin.Slice.slicePartIndex v) Q E s:=by
 cases p with
 | none=>exact slicePart_none h
 | int i t=>exact slicePart_int h
theorem jcc {sl:Addr} {vl vu:Value} {lo hi:Option Int} {n:Nat} {Q:Int × Int × Nat->Shared->Prop} (hs:s.heap.IsSliceOf sl vl vu .none) (pl:IsPart vl lo) (pu:IsPart vu hi)
  (h:Q (((sIx n 0 lo:Nat):Int),1,sIx n n hi-sIx n 0 lo) s):wpAny (model prog w) A (Builtin.Slice.sliceApplied (.ref sl) (pure (n:Int))) Q E s:=by
 obtain⟨os,hos,hcs,hds⟩:=id hs;unfold Builtin.Slice.sliceApplied Builtin.Slice.sliceFields;refine wpAny_bind (wpAny_bind (wpAny_field hos hds (x:=vl) rfl (wpAny_bind (wpAny_field hos hds (x:=vu) rfl (wpAny_bind (wpAny_field hos hds (x:=.none) rfl (wpAny_pure ?_)))))));refine wpAny_bind (slicePart_none ?_);show wpAny _ _ (if ((1:Int)==0)=true then _ else _) _ _ s;rw[if_neg (by decide)];refine wpAny_bind (jer pl (wpAny_bind (jer pu (wpAny_bind (wpAny_pure ?_)))));show wpAny _ _ (match Builtin.Slice.sliceAdjust lo hi 1 (n:Int) with | (lo,hi)=>pure (lo,(1:Int),Builtin.Slice.slicePlaces lo hi 1)) _ _ s;rw[jhb lo hi n];show wpAny _ _ (pure (((sIx n 0 lo:Nat):Int),(1:Int),Builtin.Slice.slicePlaces ((sIx n 0 lo:Nat):Int) ((sIx n n hi:Nat):Int) 1)) _ _ s;rw[jhc];exact wpAny_pure h
theorem jjr (xs:Array Value) (i k:Nat):((List.range k).filterMap fun (m:Nat)=>xs[((i:Int)+(m:Int)*1).toNat]?).toArray=((xs.toList.drop i).take k).toArray:=by
 have e:(fun (m:Nat)=>xs[((i:Int)+(m:Int)*1).toNat]?)=fun m=>xs[i+m]?:=by
  funext m
  have:((i:Int)+(m:Int)*1).toNat=i+m:=by omega
  rw[this]
 rw[e];have:=pick_run xs i k;rw[List.filterMap_map] at this;have e2:((fun x=>xs[x]?)∘fun x=>i+x)=fun m=>xs[i+m]?:=rfl;rw[e2] at this;rw[this]
theorem getItem_tuple_cut {t sl:Addr} {items:Array Value} {vl vu:Value} {lo hi:Option Int} {Q:Value->Shared->Prop} (ht:IsTup s.heap t items) (hs:s.heap.IsSliceOf sl vl vu .none) (pl:IsPart vl lo) (pu:IsPart vu hi)
  (hw:¬(sIx items.size 0 lo=0/\sIx items.size items.size hi=items.size))
  (h:Q (.ref s.heap.objs.size) { s with heap:=s.heap.push { cls:=.type "tuple",data:=.seq ((items.toList.drop (sIx items.size 0 lo)).take (sIx items.size items.size hi-sIx items.size 0 lo)).toArray } })
  (hsz:items.size<=sizeLine):wpAny (model prog w) A (getItem (.ref t) (.ref sl)) Q E s:=by
 have htake:sizeOk (.seq ((items.toList.drop (sIx items.size 0 lo)).take (sIx items.size items.size hi-sIx items.size 0 lo)).toArray):=by
  show ((items.toList.drop (sIx items.size 0 lo)).take (sIx items.size items.size hi-sIx items.size 0 lo)).toArray.size<=sizeLine;rw[xaj,xay,xat,Array.length_toList];omega
 have hj:sIx items.size items.size hi<=items.size:=jkn _ _ (xag _) hi;obtain⟨os,hos,hcs,hds⟩:=id hs;have hTs:s.TypeIs (.ref sl) "slice":=⟨os,hos,hcs⟩;unfold getItem;try with_reducible refine wpAny_holding ?_
 first | refine wpAny_bind (wpAny_pure ?_) | skip
 refine wpAny_bind (wpAny_sequenceKey ht.typeIs (by decide) ?_);refine wpAny_bind (wpAny_callSpecial?_slot (name:=Str.ofString "__getitem__") ht.typeIs PyProof.Rows.slot_tuple_getitem
  (wpAny_call_entry PyProof.Rows.slot_tuple_getitem ht.typeIs entry_tuple_getitem ?_ (args_tuple_getitem _ _)))
 show wpAny _ _ (Builtin.Tuple.tupleItemsOf (.ref t) >>= _) _ _ s;refine wpAny_bind (tupleItemsOf_ ht ?_);refine wpAny_bind (wpAny_typeOf hTs ?_);rw[if_pos (by decide)];refine wpAny_bind (jcc hs pl pu ?_);have hno:¬((((sIx items.size 0 lo:Nat):Int)==0&&(1:Int)==1&&(sIx items.size items.size hi-sIx items.size 0 lo)==items.size)=true):=by
  intro q;rw[xbL,xbL] at q;have q1:((sIx items.size 0 lo:Nat):Int)=0:=eq_of_beq q.1.1;have q2:sIx items.size items.size hi-sIx items.size 0 lo=items.size:=eq_of_beq q.2;exact hw ⟨by omega,by omega⟩
 show wpAny _ _ (if (((sIx items.size 0 lo:Nat):Int)==0&&(1:Int)==1&&(sIx items.size items.size hi-sIx items.size 0 lo)==items.size)=true then _ else _) _ _ s;rw[if_neg hno,jjr]
 first
  | exact wpAny_bind (m:=Builtin.Tuple.tupleExact _) (wpAny_newObj_type (wpAny_pure ⟨_,rfl,wpAny_pure h⟩) htake)
  | exact wpAny_bind (m:=Builtin.Tuple.tupleExact _) (wpAny_newObj_type (wpAny_bind (wpAny_pure (wpAny_pure ⟨_,rfl,wpAny_pure h⟩))) htake)
  | exact wpAny_bind (wpAny_bind (m:=Builtin.Tuple.tupleExact _) (wpAny_newObj_type (wpAny_pure (wpAny_pure ⟨_,rfl,wpAny_pure h⟩)) htake))
  | exact wpAny_bind (wpAny_bind (m:=Builtin.Tuple.tupleExact _) (wpAny_newObj_type (wpAny_pure ⟨_,rfl,wpAny_pure h⟩) htake))
end
end HT
namespace L2
open PySem PySem.Spec PyProof.Rows
abbrev TO:=St->Hp->(Option Int->Hp->Prop)->Prop
def PO (X:Cx) (e:Option Expr) (t:TO):Prop :=
  ∀ (pins : List (Addr × Obj)) (s : Shared) (σ : St) (H : Hp) (Q : Option Int -> Hp -> Prop), Inv X pins σ H s -> t σ H Q ->
    wpAny (model X.prog X.w) X.A (evalPart e X.env) (fun u s'=>∃o H',Inv X pins σ H' s'/\IsPart u o/\Q o H') X.xe s
def jdQ:TO:=fun _ H Q=>Q none H
def jhR (t:TE):TO:=fun σ H Q=>t σ H fun x H1=>∃i,x=.int i/\Q (some i) H1
theorem jdg {ns:List Int}:∀{us:List Value},Vals (ns.map V.int) us->IntsAre us ns:=by
  induction ns with
  | nil=>intro us r;rw[xb9] at r;cases r;exact .nil
  | cons n ns ih =>
    intro us r;rw[xaw] at r;cases r with
    | cons r1 r2 =>
      obtain⟨t,e⟩:=r1;subst e;exact .cons n t (ih r2)
section
variable {X:Cx} {e:Expr} {te:TE} {lo hi:Option Expr} {tl th:TO} {pos p2:Pos}
theorem jcR:PO X none jdQ:=by
 intro pins s σ H Q I h;rw[evalPart_none];exact wpAny_pure ⟨none,H,I,.none,h⟩
theorem jcS (h:PE X e te):PO X (some e) (jhR te):=by
 intro pins s σ H Q I hw;rw[evalPart_some];refine thn (h pins s σ H _ I hw) fun u s1 ⟨x,H1,I1,r1,q1⟩=>?_;obtain⟨i,rfl,q⟩:=q1;obtain⟨t,rfl⟩:=r1;exact⟨some i,H1,I1,.int i t,q⟩
def SlR (X:Cx) (r:V->Option Int->Option Int->Hp->VK->Prop):Prop :=
  ∀ (pins : List (Addr × Obj)) (s : Shared) (σ : St) (H : Hp) (x : V) (v vl vu : Value) (lo hi : Option Int) (sl : Addr) (Q : VK), Inv X pins σ H s -> RelV x v -> s.heap.IsSliceOf sl vl vu .none -> IsPart vl lo -> IsPart vu hi -> r x lo hi H Q ->
    ∃T id,typeLookup (.type T) "__getitem__"=pure (some (.builtin id))/\s.TypeIs v T/\wpAny (model X.prog X.w) X.A (getItem v (.ref sl)) (EP X pins σ Q) X.xe s
theorem SlR.or {r r':V->Option Int->Option Int->Hp->VK->Prop} (h:SlR X r) (h':SlR X r'):SlR X (fun x lo hi H Q=>r x lo hi H Q\/r' x lo hi H Q):=by
 intro pins s σ H x v vl vu lo hi sl Q I rx hs pl pu q;rcases q with q | q
 ·exact h pins s σ H x v vl vu lo hi sl Q I rx hs pl pu q
 ·exact h' pins s σ H x v vl vu lo hi sl Q I rx hs pl pu q
def tSl (r:V->Option Int->Option Int->Hp->VK->Prop) (te:TE) (tl th:TO):TE:=fun σ H Q=>te σ H fun x H1=>tl σ H1 fun l H2=>th σ H2 fun u H3=>r x l u H3 Q
theorem jb1 {r:V->Option Int->Option Int->Hp->VK->Prop} (hr:SlR X r) (he:PE X e te) (hl:PO X lo tl) (hu:PO X hi th):PE X (.Subscript e (.Slice lo hi none p2) pos) (tSl r te tl th):=by
 intro pins s σ H Q I h;refine Subscript_ (thn (he pins s σ H _ I h) fun v s1 ⟨x,H1,I1,r1,q1⟩=>?_);refine wpAny_Slice (thn (hl pins s1 σ H1 _ I1 q1) fun vl s2 ⟨l,H2,I2,pl,q2⟩=>thn (hu pins s2 σ H2 _ I2 q2) fun vu s3 ⟨u,H3,I3,pu,q3⟩=>?_);rw[evalPart_none];refine wpAny_pure ?_;have I4:Inv X pins σ H3 { s3 with heap:=s3.heap.push { cls:=.type "slice",data:=.fields #[vl,vu,.none] } }:=I3.kept (t':=s3.toks) fun b ob q=>Heap.get?_push_of_some _ q;obtain⟨T,id,hT,ht,hg⟩:=hr pins { s3 with heap:=s3.heap.push { cls:=.type "slice",data:=.fields #[vl,vu,.none] } } σ H3 x v vl vu l u s3.heap.objs.size Q I4 r1 (Heap.IsSliceOf.new ..) pl pu q3;show wpAny (model X.prog X.w) X.A (subscriptTail e (.Slice lo hi none p2) v (.ref s3.heap.objs.size)) (EP X pins σ Q) X.xe { s3 with heap:=s3.heap.push { cls:=.type "slice",data:=.fields #[vl,vu,.none] } };exact tail_any (ops:=[.ref s3.heap.objs.size,v]) ht hT hg (by with_unfolding_all rfl)
def jff (xs:List V) (lo hi:Option Int):List V:=(xs.drop (HT.sIx xs.length 0 lo)).take (HT.sIx xs.length xs.length hi-HT.sIx xs.length 0 lo)
theorem jdR (xs:List V) (lo hi:Option Int):(jff xs lo hi).length<=xs.length:=by
 unfold jff;rw[xay,xat];omega
def rSlT (K:PySem.W.Frag):V->Option Int->Option Int->Hp->VK->Prop:=fun x lo hi H Q=>∃a xs,x=.ref a/\SqT K H a xs /\
 ¬(HT.sIx xs.length 0 lo=0/\HT.sIx xs.length xs.length hi=xs.length)/\∀p,H p=none->Q (.ref p) (upd H p (.tup (jff xs lo hi)))
theorem jko:SlR X (rSlT X.K):=by
 intro pins s σ H x v vl vu lo hi sl Q I rx hs pl pu h;obtain⟨a,xs,rfl,hx,hw,q⟩:=h;cases rx;obtain⟨its,r,ht,hz⟩:=I.tuple hx;have hlen:its.toArray.size=xs.length:=by rw[xaj];exact r.length.symm
 refine⟨"tuple",_,PyProof.Rows.slot_tuple_getitem.lookup,ht.typeIs,?_⟩;refine HT.getItem_tuple_cut ht hs pl pu (by rw[hlen];exact hw) ?_ (by rw[hlen];exact hz);rw[hlen];refine⟨.ref s.heap.objs.size,_,I.laid (t':=s.toks) (o:=.tup (jff xs lo hi)) (fun b ob q=>Heap.get?_push_of_some _ q) (xag _) ?_,rfl,q _ (I.hok.fresh (xag _))⟩;exact⟨xaA (jdR xs lo hi) hz,_,(r.drop (HT.sIx xs.length 0 lo)).take (HT.sIx xs.length xs.length hi-HT.sIx xs.length 0 lo),IsTup.new _ _⟩
def rCatT (K:PySem.W.Frag):R2:=fun x y H Q=>∃a b xs ys,x=.ref a/\y=.ref b/\SqT K H a xs/\SqT K H b ys/\xs≠[]/\xs.length+ys.length<=sizeLine /\
 (ys=[]->Q (.ref a) H)/\(ys≠[]->∀p,H p=none->Q (.ref p) (upd H p (.tup (xs++ys))))
theorem Vals.nil_iff {xs:List V} {us:List Value} (r:Vals xs us):us=[]↔xs=[]:=by
 cases r with
 | nil=>simp
 | cons _ _=>simp
theorem jhS:OpR X (binaryOp .Add) (rCatT X.K):=by
 intro pins s σ H x y v u Q I rx ry h;obtain⟨a,b,xs,ys,rfl,rfl,ha,hb,hx,hz,q1,q2⟩:=h;cases rx;cases ry;obtain⟨its,r1,p1,_⟩:=I.tuple ha;obtain⟨its2,r2,p2,_⟩:=I.tuple hb;refine HT.cat_tup p1 p2 (fun z=>hx (r1.nil_iff.mp z)) (fun z=>⟨.ref a,H,I,rfl,q1 (r2.nil_iff.mp z)⟩) (fun z=>?_) (by rw[<- r1.length,<- r2.length];exact hz);refine⟨.ref s.heap.objs.size,_,I.laid (t':=s.toks) (o:=.tup (xs++ys)) (fun b ob q=>Heap.get?_push_of_some _ q) (xag _) ?_,rfl,q2 (fun w=>z (r2.nil_iff.mpr w)) _ (I.hok.fresh (xag _))⟩;exact⟨by rw[xad];exact hz,_,r1.append r2,IsTup.new _ _⟩
end
def ixN (n:Nat) (i:Int):Option Nat:=if 0<=i then (if i<n then some i.toNat else none) else if -(n:Int)<=i then some (i+n).toNat else none
def atI {α:Type} (xs:List α) (i:Int):Option α:=(ixN xs.length i).bind fun j=>xs[j]?
theorem jhT {n:Nat} {i:Int} {j:Nat} (h:ixN n i=some j):seqIndex? i n=some j/\j<n/\-(n:Int)<=i/\i<n:=by
 unfold ixN at h;by_cases h0:0<=i
 ·rw[if_pos h0] at h;by_cases h1:i<n
  ·rw[if_pos h1] at h;have e:i.toNat=j:=Option.some.inj h;exact⟨by rw[seqIndex_of h0 h1,e],by omega,by omega,h1⟩
  ·rw[if_neg h1] at h;cases h
 ·rw[if_neg h0] at h;by_cases h1:-(n:Int)<=i
  ·rw[if_pos h1] at h;have e:(i+n).toNat=j:=Option.some.inj h;exact⟨by rw[seqIndex_neg (by omega) h1,e],by omega,h1,by omega⟩
  ·rw[if_neg h1] at h;cases h
theorem jhU {α:Type} {xs:List α} {i:Int} {v:α} (h:atI xs i=some v):∃j,seqIndex? i xs.length=some j/\xs[j]?=some v/\j<xs.length/\-(xs.length:Int)<=i/\i<xs.length:=by
  unfold atI at h;cases e:ixN xs.length i with
  | none=>rw[e] at h;cases h
  | some j =>
    rw[e] at h;obtain⟨h1,h2,h3,h4⟩:=jhT e;exact⟨j,h1,h,h2,h3,h4⟩
theorem jaJ {α:Type} {xs:List α} {j:Nat} {v:α} (h:xs[j]?=some v):atI xs (j:Int)=some v:=by
 have hj:j<xs.length:=(xaf.mp h).1;have e:ixN xs.length (j:Int)=some j:=by
  unfold ixN;rw[if_pos (by omega),if_pos (by omega)];simp
 unfold atI;rw[e];exact h
theorem jjs {α:Type} (xs:List α) (v:α):atI (xs++[v]) (-1)=some v:=by
 have hl:(xs++[v]).length=xs.length+1:=by simp
 have e:ixN (xs++[v]).length (-1)=some xs.length:=by
  unfold ixN;rw[hl,if_neg (by decide),if_pos (by omega)]
  congr 1
  omega
 unfold atI;rw[e];show (xs++[v])[xs.length]?=some v;simp
def jhV (b:Expr):Prop:=∀o i,subscripted b false o i=operate [o,i] (getItem o i)
def IxR (X:Cx) (r:R2):Prop :=
  ∀ (value slice : Expr) (pins : List (Addr × Obj)) (s : Shared) (σ : St) (H : Hp) (x y : V) (v u : Value) (Q : VK), Inv X pins σ H s -> RelV x v -> RelV y u -> r x y H Q ->
    subscripted slice false v u=operate [v,u] (getItem v u)->wpAny (model X.prog X.w) X.A (subscriptTail value slice v u) (EP X pins σ Q) X.xe s
def MtR (X:Cx) (id:String) (r:V->List V->Hp->VK->Prop):Prop :=
  ∀ (pins : List (Addr × Obj)) (s : Shared) (σ : St) (H : Hp) (x : V) (xs : List V) (v : Value) (us : List Value) (Q : VK), Inv X pins σ H s -> RelV x v -> Vals xs us -> r x xs H Q ->
    wpAny (model X.prog X.w) X.A (call (.builtin id) (v::us)) (EP X pins σ Q) X.xe s
section
variable {X:Cx} {a b:Expr} {ta tb:TE} {pos:Pos}
theorem IxR.or {r r':R2} (h:IxR X r) (h':IxR X r'):IxR X (fun x y H Q=>r x y H Q\/r' x y H Q):=by
 intro value slice pins s σ H x y v u Q I rx ry q hs;rcases q with q | q
 ·exact h value slice pins s σ H x y v u Q I rx ry q hs
 ·exact h' value slice pins s σ H x y v u Q I rx ry q hs
theorem MtR.or {id:String} {r r':V->List V->Hp->VK->Prop} (h:MtR X id r) (h':MtR X id r'):MtR X id (fun x xs H Q=>r x xs H Q\/r' x xs H Q):=by
 intro pins s σ H x xs v us Q I rx rs q;rcases q with q | q
 ·exact h pins s σ H x xs v us Q I rx rs q
 ·exact h' pins s σ H x xs v us Q I rx rs q
theorem jaj {r:R2} (hr:IxR X r) (ha:PE X a ta) (hb:PE X b tb) (hs:jhV b:=by exact fun _ _=>rfl):PE X (.Subscript a b pos) (tOp r ta tb):=by
 intro pins s σ H Q I h;exact Subscript_ (binT ha hb I h fun v u s2 x y H2 I2 rx ry q=>hr a b pins s2 σ H2 x y v u Q I2 rx ry q (hs _ _))
def jmJ (K:PySem.W.Frag):R2:=fun x y H Q=>∃p xs i v,x=.ref p/\y=.int i/\SqL K H p xs/\atI xs i=some v/\Q v H
def jek (K:PySem.W.Frag):R2:=fun x y H Q=>∃p xs i v,x=.ref p/\y=.int i/\SqT K H p xs/\atI xs i=some v/\Q v H
theorem ix_list:IxR X (jmJ X.K):=by
 intro value slice pins s σ H x y v u Q I rx ry h hs;obtain⟨p,xs,i,z,rfl,rfl,hq,he,q⟩:=h;cases rx;obtain⟨t,rfl⟩:=ry;obtain⟨its,r,pl,hz⟩:=I.list hq;obtain⟨j,h1,h2,h3,h4,h5⟩:=jhU he;obtain⟨w,ew,rw'⟩:=r.get h2;have hl:=r.length;have hn:=jgl;have fin:EP X pins σ Q w s:=⟨z,H,I,rw',q⟩;by_cases h0:0<=i
 ·have hj:i.toNat=j:=by
   rw[seqIndex_of h0 h5] at h1;exact Option.some.inj h1
  exact item_listR pl.isList h0 (by omega) (by rw[hj];simpa using ew) fin hs
 ·have hj:(i+(its.toArray.size:Int)).toNat=j:=by
   rw[seqIndex_neg (by omega) h4] at h1;rw[xaj,<- hl];exact Option.some.inj h1
  exact subscriptTail_builtinR (x:=w) pl.isList.typeIs slot_list_getitem.lookup
   (wpAny_getItem_list_neg (Q:=fun r s'=>r=w/\EP X pins σ Q r s') pl.isList (by omega) (by rw[xaj]<;>omega) (by omega) (by rw[hj];simpa using ew) ⟨rfl,fin⟩) hs
theorem jal:IxR X (jek X.K):=by
 intro value slice pins s σ H x y v u Q I rx ry h hs;obtain⟨p,xs,i,z,rfl,rfl,hq,he,q⟩:=h;cases rx;obtain⟨t,rfl⟩:=ry;obtain⟨its,r,pl,hz⟩:=I.tuple hq;obtain⟨j,h1,h2,h3,h4,h5⟩:=jhU he;obtain⟨w,ew,rw'⟩:=r.get h2;have hl:=r.length;have hn:=jgl;have fin:EP X pins σ Q w s:=⟨z,H,I,rw',q⟩;exact subscriptTail_builtinR (x:=w) pl.typeIs slot_tuple_getitem.lookup
  (getItem_tuple (j:=j) (Q:=fun r s'=>r=w/\EP X pins σ Q r s') pl (by omega) (by omega) (by rw[xaj,<- hl];exact h1) (by simpa using ew) ⟨rfl,fin⟩) hs
theorem jhd (its:List Value) (n j:Nat) (u:Value):Obj.mapSeq (·.setIfInBounds j u) { cls:=.type "list",data:=.seq its.toArray n }={ cls:=.type "list",data:=.seq (its.set j u).toArray n }:=by
 simp [Obj.mapSeq]
theorem Inv.lst {pins:List (Addr × Obj)} {σ:St} {H:Hp} {s:Shared} {p:Addr} {xs:List V} (I:Inv X pins σ H s) (h:H p=some (.lst xs)) :
  ∃(its:List Value) (n:Nat),Vals xs its/\s.heap.get? p=some { cls:=.type "list",data:=.seq its.toArray n }/\xs.length<=sizeLine:=by
 obtain⟨z,its,n,r,e⟩:=I.hok p _ h;exact⟨its,n,r,e,z⟩
theorem Inv.lstUpd {pins:List (Addr × Obj)} {σ:St} {H:Hp} {s:Shared} {p:Addr} {xs ys:List V} {its its':List Value} {n n':Nat} {f:Obj->Obj} (I:Inv X pins σ H s) (h:H p=some (.lst xs))
  (ho:s.heap.get? p=some { cls:=.type "list",data:=.seq its.toArray n }) (hf:f { cls:=.type "list",data:=.seq its.toArray n }={ cls:=.type "list",data:=.seq its'.toArray n' }) (r:Vals ys its') (hz:ys.length<=sizeLine) (t:Nat) :
  Inv X pins σ (upd H p (.lst ys)) { s with heap:=s.heap.update p f,toks:=t }:=by
 have e:(s.heap.update p f).get? p=some { cls:=.type "list",data:=.seq its'.toArray n' }:=by
  rw[Heap.get?_update_self f ho (by rw[hf]<;>rfl),hf]
 refine I.write (x:=p) (e:=p) (by rw[h];trivial) (.inl rfl) (fun b u hb q=>(Heap.get?_update_other _ _ (Ne.symm hb)).trans q) ⟨_,e⟩ ?_;exact⟨hz,its',n',r,e⟩
def rSetL:V->V->V->Hp->(Hp->Prop)->Prop:=fun o i v H Q=>∃p xs k j,o=.ref p/\i=.int k/\H p=some (.lst xs)/\ixN xs.length k=some j/\Q (upd H p (.lst (xs.set j v)))
theorem jeH:PSet X rSetL:=by
 intro pins s σ H o i v ov iv u Q I ro ri rv h;obtain⟨p,xs,k,j,rfl,rfl,hp,hj,q⟩:=h;cases ro;obtain⟨t,rfl⟩:=ri;obtain⟨its,n,r,ho,hz⟩:=I.lst hp;obtain⟨h1,h2,h3,h4⟩:=jhT hj;have hl:=r.length;have hn:=jgl;have I':Inv X pins σ (upd H p (.lst (xs.set j v))) { s with heap:=s.heap.update p (Obj.mapSeq (·.setIfInBounds j u)) } :=
  I.lstUpd hp ho (jhd its n j u) (r.set rv j) (by rw[List.length_set];exact hz) s.toks
 by_cases h0:0<=k
 ·have hk:k.toNat=j:=by
   rw[seqIndex_of h0 h4] at h1;exact Option.some.inj h1
  exact PySem.W.ki_setAt ho h0 (by omega) (by rw[xaj,<- hl];exact h4) (by rw[hk];exact⟨_,I',q⟩)
 ·have hk:(k+(its.toArray.size:Int)).toNat=j:=by
   rw[seqIndex_neg (by omega) h3] at h1;rw[xaj,<- hl];exact Option.some.inj h1
  exact PySem.W.ki_setBack ho (by omega) (by rw[xaj,<- hl];exact h3) (by omega) (by rw[hk];exact⟨_,I',q⟩)
theorem jfp (lo hi:Option Int) (n:Nat):(sliceBounds lo hi none n).1=((HT.sIx n 0 lo:Nat):Int)/\(sliceBounds lo hi none n).2.1=((HT.sIx n n hi:Nat):Int)/\(sliceBounds lo hi none n).2.2=1:=by
  refine⟨?_,?_,rfl⟩
  . cases lo with
    | none=>simp [sliceBounds,HT.sIx]
    | some i =>
      simp only[sliceBounds,HT.sIx,Option.getD_none,show (1:Int)>0 by decide,if_true];by_cases h:i<0
      . simp only[h,if_true]<;>omega
      . simp only[h,if_false]<;>omega
  . cases hi with
    | none=>simp [sliceBounds,HT.sIx]
    | some i =>
      simp only[sliceBounds,HT.sIx,Option.getD_none,show (1:Int)>0 by decide,if_true];by_cases h:i<0
      . simp only[h,if_true]<;>omega
      . simp only[h,if_false]<;>omega
theorem jeI (its:List Value) (lo hi:Option Int):slicePick its.toArray lo hi none=((its.drop (HT.sIx its.length 0 lo)).take (HT.sIx its.length its.length hi-HT.sIx its.length 0 lo)).toArray:=by
 obtain⟨h1,h2,h3⟩:=jfp lo hi its.toArray.size;unfold slicePick;rw[h1,h2,h3];simp only[sliceRange_one,pick_run,xaj]<;>rfl
def rSlL (K:PySem.W.Frag):V->Option Int->Option Int->Hp->VK->Prop:=fun x lo hi H Q=>∃a xs,x=.ref a/\SqL K H a xs/\∀p,H p=none->Q (.ref p) (upd H p (.lst (jff xs lo hi)))
theorem sl_list:SlR X (rSlL X.K):=by
 intro pins s σ H x v vl vu lo hi sl Q I rx hs pl pu h;obtain⟨a,xs,rfl,hx,q⟩:=h;cases rx;obtain⟨its,r,ht,hz⟩:=I.list hx;have hlen:=r.length;refine⟨"list",_,slot_list_getitem.lookup,ht.isList.typeIs,?_⟩;refine wpAny_getItem_list_slice ht.isList hs pl pu .none (by simp) ?_ (by rw[xaj]<;>omega);rw[jeI,<- hlen];refine⟨.ref s.heap.objs.size,_,I.laid (t':=s.toks) (o:=.lst (jff xs lo hi)) (fun b ob q=>Heap.get?_push_of_some _ q) (xag _) ?_,rfl,q _ (I.hok.fresh (xag _))⟩;exact⟨xaA (jdR xs lo hi) hz,_,0,(r.drop (HT.sIx xs.length 0 lo)).take (HT.sIx xs.length xs.length hi-HT.sIx xs.length 0 lo),Heap.get?_push_size _ rfl⟩
def jeJ:V->Bool
 | .non=>true
 | .bl _=>true
 | .int _=>true
 | .str _=>true
 | _=>false
def eqV:V->V->Bool
 | .non,.non=>true
 | .bl a,.bl b=>a==b
 | .bl a,.int b=>(if a then 1 else 0)==b
 | .int a,.bl b=>a==(if b then 1 else 0)
 | .int a,.int b=>a==b
 | .str a,.str b=>a==b
 | _,_=>false
theorem jm4 {A:Around} {s:Shared} {y x:V} {u v:Value} (ry:RelV y u) (rx:RelV x v) (fy:jeJ y=true) (fx:jeJ x=true):SeqAt.EqAt A s u v (eqV y x):=by
  cases y with
  | non =>
    cases ry;cases x with
    | non=>cases rx;exact SeqAt.EqAt.same _
    | bl b=>cases rx;exact SeqAt.EqAt.none_bool b
    | int b=>obtain⟨t,rfl⟩:=rx;exact SeqAt.EqAt.none_int b t
    | str b=>obtain⟨t,rfl⟩:=rx;exact SeqAt.EqAt.none_str b t
    | _=>exact absurd (show false=true from fx) xao
  | bl a =>
    cases ry;cases x with
    | non=>cases rx;exact SeqAt.EqAt.bool_none a
    | bl b=>cases rx;exact SeqAt.EqAt.bool_bool a b
    | int b=>obtain⟨t,rfl⟩:=rx;exact SeqAt.EqAt.bool_int a b t
    | str b=>obtain⟨t,rfl⟩:=rx;exact SeqAt.EqAt.bool_str a b t
    | _=>exact absurd (show false=true from fx) xao
  | int a =>
    obtain⟨t',rfl⟩:=ry;cases x with
    | non=>cases rx;exact SeqAt.EqAt.int_none a t'
    | bl b=>cases rx;exact SeqAt.EqAt.int_bool a t' b
    | int b=>obtain⟨t,rfl⟩:=rx;exact SeqAt.EqAt.int_int a t' b t
    | str b=>obtain⟨t,rfl⟩:=rx;exact SeqAt.EqAt.int_str a t' b t
    | _=>exact absurd (show false=true from fx) xao
  | str a =>
    obtain⟨t',rfl⟩:=ry;cases x with
    | non=>cases rx;exact SeqAt.EqAt.str_none a t'
    | bl b=>cases rx;exact SeqAt.EqAt.str_bool a t' b
    | int b=>obtain⟨t,rfl⟩:=rx;exact SeqAt.EqAt.str_int a t' b t
    | str b=>obtain⟨t,rfl⟩:=rx;exact SeqAt.EqAt.str_str a t' b t
    | _=>exact absurd (show false=true from fx) xao
  | _=>exact absurd (show false=true from fy) xao
def eqU (x:V) (u:Value):Bool:=match u with
 | .none=>eqV .non x
 | .bool b=>eqV (.bl b) x
 | .int i _=>eqV (.int i) x
 | .str z _=>eqV (.str z) x
 | _=>false
theorem jkp {x y:V} {u:Value} (r:RelV y u) (f:jeJ y=true):eqU x u=eqV y x:=by
 cases y with
 | non=>cases r;rfl
 | bl b=>cases r;rfl
 | int i=>obtain⟨t,rfl⟩:=r;rfl
 | str z=>obtain⟨t,rfl⟩:=r;rfl
 | _=>exact absurd (show false=true from f) xao
theorem jfZ {x:V}:∀{xs:List V} {us:List Value},Vals xs us->xs.all jeJ=true->us.any (eqU x)=xs.any fun y=>eqV y x
  | _,_,.nil,_=>rfl
  | y :: xs, u :: us, .cons r t, f => by
    rw[List.all_cons,xbL] at f;rw[xb4,xb4,jkp r f.1,jfZ t f.2]
theorem jeK {A:Around} {s:Shared} {x:V} {v:Value} (rx:RelV x v) (fx:jeJ x=true):∀{xs:List V} {us:List Value},Vals xs us->xs.all jeJ=true->∀u∈us,SeqAt.EqAt A s u v (eqU x u)
  | _,_,.nil,_=>fun u hu=>by cases hu
  | y :: xs, u :: us, .cons r t, f => fun u' hu => by
    rw[List.all_cons,xbL] at f;rcases xav.mp hu with rfl | hu
    . rw[jkp r f.1];exact jm4 r rx f.1 fx
    . exact jeK rx fx t f.2 u' hu
def inV (x:V) (xs:List V):Bool:=xs.any fun y=>eqV y x
def rIn (K:PySem.W.Frag) (neg:Bool):R2:=fun x y H Q=>∃p xs,y=.ref p/\(SqL K H p xs\/SqT K H p xs)/\jeJ x=true/\xs.all jeJ=true/\Q (.bl (if neg then !inV x xs else inV x xs)) H
theorem jhW:OpR X (compareOp .In) (rIn X.K false):=by
 intro pins s σ H x y v u Q I rx ry h;obtain⟨p,xs,rfl,hq,fx,fs,q⟩:=h;cases ry;rcases hq with hq | hq
 ·obtain⟨its,r,pl,hz⟩:=I.list hq;refine SeqAt.in_listAt (eqU x) pl.isList (fun w hw=>jeK rx fx r fs w (by simpa using hw)) ⟨.bl _,H,I,rfl,?_⟩;rw[show its.toArray.any (eqU x)=its.any (eqU x) by simp,jfZ r fs];exact q
 ·obtain⟨its,r,pl,hz⟩:=I.tuple hq;refine SeqAt.in_tupleAt (eqU x) pl (fun w hw=>jeK rx fx r fs w (by simpa using hw)) ⟨.bl _,H,I,rfl,?_⟩;rw[show its.toArray.any (eqU x)=its.any (eqU x) by simp,jfZ r fs];exact q
theorem jaH:CallR X (.builtin "len") (fun xs H Q=>∃p ys,xs=[.ref p]/\(SqL X.K H p ys\/SqT X.K H p ys)/\Q (.int ys.length) H):=by
 intro pins s σ H xs us Q I r h;obtain⟨p,ys,rfl,hq,q⟩:=h;obtain⟨u,rfl,rx⟩:=jei r;cases rx;have hn:=jgl;rcases hq with hq | hq
 ·obtain⟨its,r',pl,hz⟩:=I.list hq;have hlen:=r'.length;exact Calls.call_len_list pl.isList (by simp only[xaj]<;>omega) ⟨.int ys.length,H,I.tok _,⟨s.toks+1,by rw[xaj,hlen]⟩,q⟩
 ·obtain⟨its,r',pl,hz⟩:=I.tuple hq;have hlen:=r'.length;exact len_tuple pl (by simp only[xaj]<;>omega) ⟨.int ys.length,H,I.tok _,⟨s.toks+1,by rw[xaj,hlen]⟩,q⟩
theorem CallR.or {f:Value} {r r':List V->Hp->VK->Prop} (h:CallR X f r) (h':CallR X f r'):CallR X f (fun xs H Q=>r xs H Q\/r' xs H Q):=by
 intro pins s σ H xs us Q I rs q;rcases q with q | q
 ·exact h pins s σ H xs us Q I rs q
 ·exact h' pins s σ H xs us Q I rs q
theorem jbJ:CallR X (.type "list") (fun xs H Q=>∃p ys,xs=[.ref p]/\(SqL X.K H p ys\/SqT X.K H p ys)/\∀l,H l=none->Q (.ref l) (upd H l (.lst ys))):=by
 intro pins s σ H xs us Q I r h;obtain⟨p,ys,rfl,hq,q⟩:=h;obtain⟨u,rfl,rx⟩:=jei r;cases rx;have fin:∀(its:List Value),Vals ys its->ys.length<=sizeLine->∀(h':Heap) (c':Nat),(∀b o',s.heap.get? b=some o'->h'.get? b=some o') ->
   h'.get? s.heap.objs.size=some { cls:=.type "list",dict:=none,data:=.seq its.toArray c',slots:=#[] }->EP X pins σ Q (.ref s.heap.objs.size) { s with heap:=h' }:=fun its r' hz h' c' kp e =>
  ⟨.ref s.heap.objs.size,_,I.laid (t':=s.toks) kp (xag _) (show ObjOk X.prog X.w _ h' _ (.lst ys) from ⟨hz,its,c',r',e⟩),rfl,q _ (I.hok.fresh (xag _))⟩
 rcases hq with hq | hq
 ·obtain⟨its,r',pl,hz⟩:=I.list hq;have hlen:=r'.length;obtain⟨o,ho,hc,n,hd⟩:=pl.isList;exact call_list_seq p (.inl rfl) ho hc hd (fun h' c' kp e=>fin its r' hz h' c' kp e) (by simp only[xaj]<;>omega)
 ·obtain⟨its,r',pl,hz⟩:=I.tuple hq;have hlen:=r'.length;obtain⟨o,ho,hc,n,hd⟩:=pl;exact call_list_seq p (.inr rfl) ho hc hd (fun h' c' kp e=>fin its r' hz h' c' kp e) (by simp only[xaj]<;>omega)
theorem jbm:CallR X (.type "tuple") (fun xs H Q=>∃p ys,xs=[.ref p]/\((SqL X.K H p ys/\∀l,H l=none->Q (.ref l) (upd H l (.tup ys)))\/(SqT X.K H p ys/\Q (.ref p) H))):=by
 intro pins s σ H xs us Q I r h;obtain⟨p,ys,rfl,h⟩:=h;obtain⟨u,rfl,rx⟩:=jei r;cases rx;rcases h with ⟨hq,q⟩ | ⟨hq,q⟩
 ·obtain⟨its,r',pl,hz⟩:=I.list hq;have hlen:=r'.length;refine call_tuple_list pl.isList (fun h' kp=>?_) (by simp only[xaj]<;>omega);have I1:Inv X pins σ H { s with heap:=h' }:=I.kept (t':=s.toks) kp;have I2:Inv X pins σ (upd H h'.objs.size (.tup ys)) { s with heap:=h'.push { cls:=.type "tuple",data:=.seq its.toArray } } :=
   I1.laid (t':=s.toks) (fun b o e=>Heap.get?_push_of_some _ e) (xag _) (show ObjOk X.prog X.w _ _ _ (.tup ys) from ⟨hz,its,r',IsTup.new _ _⟩)
  exact⟨.ref h'.objs.size,_,I2,rfl,q _ (I1.hok.fresh (xag _))⟩
 ·obtain⟨its,r',pl,hz⟩:=I.tuple hq;exact call_tuple_same pl ⟨.ref p,H,I,rfl,q⟩
def tyV (K:PySem.W.Frag) (T:String) (x:V) (H:Hp):Prop:=match x with
 | .str _=>T="str"
 | .int _=>T="int"
 | .ref p=>(T="list" /\ ∃xs,SqL K H p xs) \/ (T="tuple" /\ ∃o,K.lookup p=some o /\ o.cls=.type "tuple" /\ o.dict=none) \/
   (T="dict"/\((∃kvs,H p=some (.dK kvs))\/∃kvs,H p=some (.dT kvs)))\/(T="set"/\∃S n,H p=some (.set S n))
 | _=>False
theorem jkq {pins:List (Addr × Obj)} {σ:St} {H:Hp} {s:Shared} {T:String} {x:V} {v:Value} (I:Inv X pins σ H s) (r:RelV x v) (ty:tyV X.K T x H) :
    s.TypeIs v T/\∀a,v=.ref a->∃ob,s.heap.get? a=some ob/\ob.dict=none:=by
  cases x with
  | str z =>
    obtain⟨t,rfl⟩:=r;cases (show T="str" from ty);exact⟨typeIs_str s z t,fun _ e=>nomatch e⟩
  | int i =>
    obtain⟨t,rfl⟩:=r;cases (show T="int" from ty);exact⟨typeIs_int s i t,fun _ e=>nomatch e⟩
  | ref p =>
    cases r;rcases ty with ⟨rfl,xs,hq⟩ | ⟨rfl,o,hk,hc,hd⟩ | ⟨rfl,hk⟩ | ⟨rfl,S,n,hk⟩
    . obtain⟨its,_,pl,_⟩:=I.list hq
      refine⟨pl.isList.typeIs,fun a e=>?_⟩;cases e;obtain⟨o,n,e,c,hd,_⟩:=pl;exact⟨o,e,hd⟩
    . refine⟨⟨o,I.kIn p o hk,hc⟩,fun a e=>?_⟩
      cases e;exact⟨o,I.kIn _ o hk,hd⟩
    . have z:∃o,s.heap.get? p=some o/\o.ExactDict:=by
        rcases hk with ⟨kvs,hk⟩ | ⟨kvs,hk⟩
        . obtain⟨_,_,_,_,o,_,_,e,ex,_⟩:=I.hok p _ hk
          exact⟨o,e,ex⟩
        . obtain⟨_,_,_,_,o,_,_,e,ex,_⟩:=I.hok p _ hk
          exact⟨o,e,ex⟩
      obtain⟨o,e,ex⟩:=z;refine⟨⟨o,e,ex.1⟩,fun a e2=>?_⟩;cases e2;exact⟨o,e,ex.2.1⟩
    . obtain⟨o,_,_,_,e,ex,_⟩:=I.hok p _ hk
      refine⟨⟨o,e,ex.1⟩,fun a e2=>?_⟩;cases e2;exact⟨o,e,ex.2.1⟩
  | _=>exact False.elim ty
def jm5 (K:PySem.W.Frag) (T:String) (r:V->List V->Hp->VK->Prop) (to:TE):TE:=fun σ H Q=>to σ H fun x H1=>tyV K T x H1/\r x [] H1 Q
def tBM (K:PySem.W.Frag) (T:String) (r:V->List V->Hp->VK->Prop) (to:TE) (t:TA):TE:=fun σ H Q=>to σ H fun x H1=>tyV K T x H1/\t σ H1 fun xs H2=>r x xs H2 Q
variable {o e:Expr} {es:List Expr} {to:TE} {t:TA} {name:Str} {apos cpos:Pos} {T id:String} {r:V->List V->Hp->VK->Prop}
theorem jm6 (pa:PlainAttrs T) (slot:Slot T name id) (hty:typeOf (.builtin id)=pure (.type "method_descriptor")) (hm:MtR X id r) (ho:PE X o to)
  (hbase:attributeBase o name X.env (eval o X.env)=eval o X.env:=by rfl) (hline:(apos.endLine==cpos.line)=true:=by rfl):PE X (.Call (.Attribute o name apos) [] [] cpos) (jm5 X.K T r to):=by
 intro pins s σ H Q I h;refine wpAny_Call_method0_late hbase hline (thn (ho pins s σ H _ I h) fun v s1 ⟨x,H1,I1,r1,ty,q1⟩=>?_);obtain⟨h1,h2⟩:=jkq I1 r1 ty;exact⟨T,id,pa,slot,hty,h1,h2,Calls.callWith_builtin rfl (PySem.evalArgs_none (hm pins s1 σ H1 x [] v [] Q I1 r1 .nil q1))⟩
theorem jeL (pa:PlainAttrs T) (slot:Slot T name id) (hty:typeOf (.builtin id)=pure (.type "method_descriptor")) (hm:MtR X id r) (ho:PE X o to) (ha:PA X (e::es) t)
  (hbase:attributeBase o name X.env (eval o X.env)=eval o X.env:=by rfl)
  (hfew:((backTo cpos (starEach (e::es) X.env)).all (fun x=>!x.1)&&(backToKw cpos (keywordEach [] X.env)).all (fun x=>x.1.isSome)
   && decide ((e::es).length+([]:List Keyword).length+(if ([]:List Keyword).isEmpty then 0 else 1)<30))=true:=by rfl)
  (hline:(apos.endLine==cpos.line)=true:=by rfl) (hs:starEach (e::es) X.env=(false,eval e X.env)::starEach es X.env:=by rfl) (hplain:(backTo cpos (starEach es X.env)).any (·.1)=false:=by rfl) :
  PE X (.Call (.Attribute o name apos) (e::es) [] cpos) (tBM X.K T r to t):=by
 intro pins s σ H Q I h;refine wpAny_Call_method_late hbase hfew hline rfl (thn (ho pins s σ H _ I h) fun v s1 ⟨x,H1,I1,r1,ty,q1⟩=>?_);obtain⟨h1,h2⟩:=jkq I1 r1 ty;refine⟨T,id,pa,slot,hty,h1,h2,?_⟩;have hA:=ha cpos pins s1 σ H1 _ I1 q1;rw[hs] at hA |-
 refine Calls.callWith_builtin (by show (false||(backTo cpos (starEach es X.env)).any (·.1))=false;rw[hplain]<;>rfl) (Calls.evalArgs_plain ?_);exact thn hA fun us s2 ⟨vs,H2,I2,r2,q2⟩=>hm pins s2 σ H2 x vs v us Q I2 r1 r2 q2
end
def MtM (X:Cx) (id:String) (r:V->List V->Hp->VK->Prop):Prop :=
  ∀ (pins : List (Addr × Obj)) (s : Shared) (σ : St) (H : Hp) (x : V) (xs : List V) (v : Value) (us : List Value) (Q : VK), Inv X pins σ H s -> RelV x v -> Vals xs us -> r x xs H Q ->
    wpAny (model X.prog X.w) X.A (call (.builtin id) (v::us)) (EP X pins σ Q) X.xe s
theorem Vals.one:∀{x:V} {us:List Value},Vals [x] us->∃u,us=[u]/\RelV x u
 | _,_,.cons r .nil=>⟨_,rfl,r⟩
theorem Vals.zero:∀{us:List Value},Vals [] us->us=[]
 | _,.nil=>rfl
theorem Vals.reverse {xs:List V} {us:List Value} (h:Vals xs us):Vals xs.reverse us.reverse:=by
 induction h with
 | nil=>exact .nil
 | cons r t ih=>rw[xaH,xaH];exact Vals.append ih (.cons r .nil)
section
variable {X:Cx} {pins:List (Addr × Obj)} {σ:St} {H:Hp} {s:Shared} {l b:Addr} {xs ys zs:List V}
theorem Inv.lset {its its':List Value} {n:Nat} {f:Array Value->Array Value} {t':Nat} (I:Inv X pins σ H s) (hH:H l=some (.lst xs))
  (e:s.heap.get? l=some { cls:=.type "list",data:=.seq its.toArray n }) (hf:f its.toArray=its'.toArray) (hv:Vals ys its') (hz:ys.length<=sizeLine) :
  Inv X pins σ (upd H l (.lst ys)) { s with heap:=s.heap.update l (Obj.mapSeq f),toks:=t' }:=by
 have q:=PySem.IsL.update e f;rw[hf] at q;refine I.write (x:=l) (e:=l) (by rw[hH];exact trivial) (.inl rfl) (fun b' u hb hu=>(Heap.get?_update_other s.heap (Obj.mapSeq f) (Ne.symm hb)).trans hu) ⟨_,q⟩ ?_;exact⟨hz,its',_,hv,q⟩
theorem Inv.lnew {its:List Value} {t':Nat} (I:Inv X pins σ H s) (hv:Vals ys its) (hz:ys.length<=sizeLine) :
  Inv X pins σ (upd H s.heap.objs.size (.lst ys)) { s with heap:=s.heap.push { cls:=.type "list",data:=.seq its.toArray },toks:=t' } :=
 I.laid (fun _ _ q=>Heap.get?_push_of_some _ q) (xag _) ⟨hz,its,0,hv,Heap.get?_push_size _ rfl⟩
theorem Inv.fresh (I:Inv X pins σ H s):H s.heap.objs.size=none:=I.hok.fresh (xag _)
theorem Inv.lstM (I:Inv X pins σ H s) (hH:H l=some (.lst xs)):xs.length<=sizeLine/\∃(its:List Value) (n:Nat),Vals xs its/\xs.length=its.length/\s.heap.get? l=some { cls:=.type "list",data:=.seq its.toArray n }:=by
 obtain⟨z,its,n,r,e⟩:=I.hok l _ hH;exact⟨z,its,n,r,r.length,e⟩
end
section
variable {X:Cx}
def jhX:V->List V->Hp->VK->Prop:=fun x vs H Q=>∃l xs y,x=.ref l/\vs=[y]/\H l=some (.lst xs)/\xs.length<sizeLine/\Q .non (upd H l (.lst (xs++[y])))
theorem jba:MtM X "list.append" jhX:=by
 intro pins s σ H x vs v us Q I rx rv h;obtain⟨l,xs,y,rfl,rfl,hH,hz,q⟩:=h;cases rx;obtain⟨u,rfl,ru⟩:=rv.one;obtain⟨z,its,n,r,hl,e⟩:=I.lstM hH;refine call_meets F.slot_list_append ⟨_,e,rfl⟩ F.entry_list_append (F.args_list_append_2 _ _) (PySem.list_append l its.toArray n u (by rw[xaj];omega)) ⟨e,?_⟩;refine⟨.non,_,I.lset (its':=its++[u]) hH e (by simp) (r.append (.cons ru .nil)) ?_,rfl,q⟩;rw[xad,xb0];omega
def rCat:R2:=fun x y H Q=>∃l b xs zs,x=.ref l/\y=.ref b/\H l=some (.lst xs)/\H b=some (.lst zs)/\xs.length+zs.length<=sizeLine/\∀p,H p=none->Q (.ref p) (upd H p (.lst (xs++zs)))
theorem jfq:OpR X (binaryOp .Add) rCat:=by
 intro pins s σ H x y v u Q I rx ry h;obtain⟨l,b,xs,zs,rfl,rfl,hH,hB,hz,q⟩:=h;cases rx;cases ry;obtain⟨z,its,n,r,hl,e⟩:=I.lstM hH;obtain⟨z2,its2,n2,r2,hl2,e2⟩:=I.lstM hB;refine PySem.P.add_list e e2 ?_ (by rw[xaj,xaj];omega);have ea:its.toArray++its2.toArray=(its++its2).toArray:=by simp
 rw[ea];exact⟨.ref _,_,I.lnew (t':=s.toks) (r.append r2) (by rw[xad];omega),rfl,q _ I.fresh⟩
end
end L2
namespace Att
open PySem PySem.W PySem.Calls PyProof.Rows
theorem jdS {P:Params} {h:Heap}:∀(ns:List Int) (vs:List Value),WellAll P h vs (ns.map WData.int)->IntsAre vs ns:=by
  intro ns;induction ns with
  | nil =>
    intro vs w;rw[xb9] at w;cases w;exact .nil
  | cons n ns ih =>
    intro vs w;rw[xaw] at w;cases w with
    | cons a b =>
      cases a;exact .cons _ _ (ih _ b)
theorem jhY {l:OpenLaw} {n:Nat} (hn:l.most=some n) {P:Params} {h:Heap} {args:List WData} {vals:List Value}
    (hpre:l.row.toRowW.claim.pre args=true) (hwl:WellAll P h vals args) :
    ∃a vs ns,vals=[Value.ref a]/\args=[WData.list (ns.map WData.int)]/\h.get? a=some { cls:=.type "list",data:=.seq vs.toArray }/\IntsAre vs ns/\ns.length<=n:=by
  have hsh:WShape.hasAll [] args [.list .int]=true:=(pre_splitW hpre).1;have hc:l.pre.holds [] { args:=args }=true:=(pre_splitW hpre).2;obtain⟨d,r,rfl,h1,h2⟩:=hasAllW_cons hsh;obtain rfl:=hasAllW_nil h2;obtain⟨xs,rfl,h3⟩:=hasW_list h1;obtain⟨ns,rfl⟩:=items_int h3;have hlen:ns.length<=n:=by
    unfold OpenLaw.pre at hc;have h4:(WTm.not (.lt (.lit (.int (n:Int))) (.len (.arg 0)))).holds [] { args:=[.list (ns.map .int)] }=true:=by
      have h4:=(holds_andW hc).1;rw[hn] at h4;exact h4
    have h5:=condW_of h4 (w_not (w_lt w_lit (w_len_list (w_arg rfl))));rw[xaa] at h5;refine Nat.le_of_not_lt fun q=>?_;have q':(n:Int)<((ns.length:Nat):Int):=by omega
    first
      | (rw[decide_eq_true q'] at h5;exact absurd h5 (by decide))
      | (simp at h5;omega)
  cases hwl with
  | cons w1 w2 =>
    cases w2;cases w1 with
    | list ho hall=>exact⟨_,_,ns,rfl,rfl,ho,jdS ns _ hall,hlen⟩
theorem jhZ (l:OpenLaw) (args:List WData):l.row.toRowW.claim.post args (.bool true) args=true :=
 postW_of (r:=l.row.toRowW) (X:=(true==true))
  (show WShape.has [] (.bool true) .bool=true by first | rfl | decide | simp [WShape.has,WShape.arms,WShape.armsAll])
  (show (WTm.eq .res (.lit (.bool true))).value [] { args:=args,res:=some (.bool true),after:=args }=some (.bool (true==true)) from w_eq_bool (w_res rfl) w_lit) rfl
theorem attach_call {l:OpenLaw} {n:Nat} {q:Program} {loose:List Str} {XP:(Str->Option Value)->Heap->Prop} {YP:World->Heap->Prop} {d:DefRec}
  (hn:l.most=some n) (hdf:d.params.defaults=[])
  (call:∀(w:World) (s₀ s₁:Shared) (mg mb:Str->Option Value) (fa:Addr) (o:Obj) (pm cd doc:Value) (a:Addr) (vs:List Value) (ns:List Int),
   Ground q loose [] XP w s₀ mg mb s₁.heap->YP w s₁.heap ->
   s₁.heap.get? fa=some o->o.data=.func (docDef d.name d.params d.body d.scope pm cd doc)->s₁.heap.CodeRec cd d.name->mg d.name=some (.ref fa) ->
   s₁.heap.get? a=some { cls:=.type "list",data:=.seq vs.toArray }->IntsAre vs ns->ns.length<=n->s₁.gens=#[] ->
   codeAny (model l.prog w) callerA (.call (.ref fa) ⟨[.ref a],[]⟩) (fun r s'=>r=.ok (.ret (.bool true))/\OldK s₁.heap s'.heap/\s'.os=s₁.os/\AllBare s'.gens) s₁) :
  WalkO q loose XP YP l.row.toRowW d [] (fun f vs=>PySem.call f vs):=by
 intro w s₀ s₁ mg mb G Y fa o pm cd doc dV kV ho hd hcd hD hmg hg args vals as hpre hlay hrd hwl hlo;obtain rfl:dV=.none:=Dflts.none hD hdf;obtain rfl:kV=.none:=Dflts.noKw hD;obtain⟨a,vs,ns,rfl,rfl,hobj,hints,hlen⟩:=jhY hn hpre hwl;refine enter_call (codeAny_mono (call w s₀ s₁ mg mb fa o pm cd doc a vs ns G Y ho (fd_plain hd) hcd hmg hobj hints hlen hg) fun r s' hq=>?_);obtain⟨rfl,h2,h3,h4⟩:=hq;exact⟨.inl ⟨.bool true,.bool true,[],rfl,fun _=>rfl,.bool true,jhZ l _,fun _=>⟨List.Pairwise.nil,fun _ hm=>(nomatch hm)⟩⟩,h2,h3,h4⟩
end Att
namespace L2
open PySem PySem.Spec PyProof.Rows
theorem jfr:∀{vs:List Value} {ns:List Int},IntsAre vs ns->Vals (ns.map V.int) vs
 | _,_,.nil=>.nil
 | _,_,.cons n t h=>.cons ⟨t,rfl⟩ (jfr h)
def Only (H:Hp):Prop:=∀b,H b=none\/∃o xs,H b=some (.frz o (.lst xs))
theorem jjt {P:Program} {w:World} {K:PySem.W.Frag} {mg mb:Str->Option Value} {CX:CXT} {k:Nat} {fa a:Addr} {fd:FuncData} {x:Str} {sp:Sp} {s₁:Shared} {vs:List Value} {ns:List Int}
    (KX:K.In s₁.heap) (hns:s₁.heap.Ns mainGlobals mg) (hb:s₁.heap.Ns builtinsNs mb) (hbb:∀x:Str,x≠"__name__"->mb x=bootBuiltins x) (hlim:s₁.heap.NoLimit) (hg:s₁.gens=#[])
    (ha:s₁.heap.get? a=some { cls:=.type "list",data:=.seq vs.toArray }) (hi:IntsAre vs ns) (hl:ns.length<=sizeLine) (hr:Room k callerA)
    (F:∀base:Heap,K.In base->base.Ns mainGlobals mg->FnOk P w K mg base CX k fa fd [x] sp) (hbind:∀(s:Shared) (u:Value),BindsTo s fd ⟨[u],[]⟩ [(x,u)])
    (hsp:∀H:Hp,Only H->SqL K H a (ns.map V.int)->sp [.ref a] H (fun v _=>v=.bl true) fun _ _ _=>False)
    (hCX:∀H e s',CX [] H s₁ (fun _ _ _=>False) e s'->False) :
    codeAny (model P w) callerA (.call (.ref fa) ⟨[.ref a],[]⟩) (fun r s'=>r=.ok (.ret (.bool true))/\OldK s₁.heap s'.heap/\s'.os=s₁.os/\AllBare s'.gens) s₁:=by
  have rv:=jfr hi;have lenV:=hi.length;have core:∀H:Hp,Only H->SqL K H a (ns.map V.int)->HOk P w H s₁.heap->(∀b,H b≠none->b=a)->(H a≠none->K.lookup a=none) ->
      codeAny (model P w) callerA (.call (.ref fa) ⟨[.ref a],[]⟩) (fun r s'=>r=.ok (.ret (.bool true))/\OldK s₁.heap s'.heap/\s'.os=s₁.os/\AllBare s'.gens) s₁:=by
    intro H hO hS hok hA hK;have base_of:∀{b:Addr} {o:Obj},s₁.heap.get? b=some o->H b=none->(jjk s₁.heap H).get? b=some o:=fun e n=>jjl e n;have noA:∀{b:Addr} {o:Obj} {es:Array DictEntry} {ep:Nat},s₁.heap.get? b=some o->o.data=.dict es ep->H b=none:=fun {b o es ep} e d=>by
      cases q:H b with
      | none=>rfl
      | some u =>
        have e':b=a:=hA b (by rw[q];simp);subst e';rw[ha] at e;cases e;have d':Data.seq vs.toArray _=Data.dict es ep:=d;cases d'
    have nsK:∀{b:Addr} {m:Str->Option Value},s₁.heap.Ns b m->(jjk s₁.heap H).Ns b m:=fun {b m} ⟨o,es,ep,e,d,r⟩=>⟨o,es,ep,base_of e (noA e d),d,r⟩;have hKb:K.In (jjk s₁.heap H):=fun b o e=>base_of (KX b o e) (by
      cases q:H b with
      | none=>rfl
      | some u =>
        have e':b=a:=hA b (by rw[q];simp);subst e';rw[hK (by rw[q];simp)] at e;cases e)
    have hM:Mod K mg (jjk s₁.heap H):=⟨hKb,nsK hns,⟨mb,nsK hb,hbb⟩,let ⟨mc,h1,h2⟩:=hlim;⟨mc,nsK h1,h2⟩⟩;have e0:Env0 P w K mg (jjk s₁.heap H) callerA [] s₁ H:=⟨rfl,hM,fun b o e=>jlg e,Nat.le_of_eq (jhw _ _),trivial,fun b hb=>absurd (show b∈([]:List Addr) from hb) (by simp),hok,.of_eq hg⟩;refine codeAny_mono ((F _ hKb (nsK hns)).run callerA [] s₁ H ⟨[.ref a],[]⟩ [.ref a] [.ref a] _ _ hr e0 (hbind s₁ (.ref a)) (.cons rfl .nil) (hsp H hO hS)) fun r s' h=>?_;cases r with
    | error e=>exact (hCX H e s' h).elim
    | ok fl =>
      cases fl with
      | next=>exact False.elim h
      | brk=>exact False.elim h
      | cont=>exact False.elim h
      | ret u =>
        obtain⟨v,H',os,bare,un,hok',r',q⟩:=h;have q':v=.bl true:=q;subst q';obtain rfl:u=Value.bool true:=r';refine⟨rfl,OldK.of_keep fun b o e=>?_,os,bare⟩;cases q:H b with
        | none=>exact un.keep b o e q (by intro z;exact absurd (show b∈([]:List Addr) from z) (by simp)) (by simp)
        | some u =>
          rcases hO b with z | ⟨ob,xs,z⟩
          . rw[q] at z;cases z
          . have z2:=un.frzs b ob _ z
            obtain⟨e1,_⟩:=hok b _ z;obtain⟨e2,_⟩:=hok' b _ z2;rw[e] at e1;cases e1;exact e2
  cases hk:K.lookup a with
  | some o =>
    have e:=KX a o hk;rw[ha] at e;cases e;refine core (fun _=>none) (fun _=>.inl rfl) (.inr ⟨_,vs.toArray,_,hk,rfl,rfl,rfl,by rw[xaj,lenV];exact hl,by simpa using rv⟩) (fun b u z=>by have z':(none:Option HO)=some u:=z;cases z') (fun b z=>absurd rfl z) fun z=>absurd rfl z
  | none =>
    refine core (fun b=>if b=a then some (.frz { cls:=.type "list",data:=.seq vs.toArray } (.lst (ns.map V.int))) else none) (fun b=>?_) (.inl (.inr ⟨{ cls:=.type "list",data:=.seq vs.toArray },if_pos rfl⟩)) (fun b u z=>?_) (fun b z=>?_) fun _=>hk
    . by_cases hb:b=a
      . exact .inr ⟨_,_,if_pos hb⟩
      . exact .inl (if_neg hb)
    . by_cases hb:b=a
      . have z':=(if_pos hb).symm.trans z
        cases z';subst hb;exact⟨ha,by rw[xaa];exact hl,vs,_,rv,ha⟩
      . have z':=(if_neg hb).symm.trans z
        cases z'
    . by_cases hb:b=a
      . exact hb
      . exact absurd (if_neg hb) z
theorem jls {l:PySem.W.OpenLaw} {n k:Nat} {q:Program} {loose:List Str} {XP:(Str->Option Value)->Heap->Prop} {YP:World->Heap->Prop} {d:DefRec} {K:Params->PySem.W.Frag} {CX:World->CXT} {sp:World->Sp} {x:Str}
    (hn:l.most=some n) (hn2:n<=sizeLine) (hdf:d.params.defaults=[]) (hr:Room k callerA)
    (hY:∀(w:World) (h:Heap),YP w h->(K w.params).In h)
    (F:∀(w:World) (mg:Str->Option Value) (fa:Addr) (h:Heap),(K w.params).In h->h.Ns mainGlobals mg->mg d.name=some (.ref fa) ->
      ∃ fd : FuncData, (∀ (s : Shared) (u : Value), BindsTo s fd ⟨[u], []⟩ [(x, u)]) /\
        ∀base:Heap,(K w.params).In base->base.Ns mainGlobals mg->FnOk l.prog w (K w.params) mg base (CX w) k fa fd [x] (sp w))
    (hsp:∀(w:World) (H:Hp) (a:Addr) (ns:List Int),ns.length<=n->Only H->SqL (K w.params) H a (ns.map V.int)->sp w [.ref a] H (fun v _=>v=.bl true) fun _ _ _=>False)
    (hCX:∀(w:World) (H:Hp) (s:Shared) (e:Value) (s':Shared),CX w [] H s (fun _ _ _=>False) e s'->False) :
    PySem.W.WalkO q loose XP YP l.row.toRowW d [] (fun f vs=>PySem.call f vs):=by
  refine Att.attach_call hn hdf fun w s₀ s₁ mg mb fa o pm cd doc a vs ns G Y ho hd hcd hmg hobj hints hlen hg=>?_;have KX:=hY w _ Y;obtain⟨fd,hb,hF⟩:=F w mg fa _ KX G.T.g hmg;exact jjt KX G.T.g G.T.b G.T.builtins G.T.nolimit hg hobj hints (xaA hlen hn2) hr hF hb (fun H hO hS=>hsp w H a ns hlen hO hS) fun H e s'=>hCX w H s₁ e s'
def jbq (s:Stmt):Arguments:=match s with
 | .FunctionDef _ a _ _ _ _ _ _ _ _=>a
 | _=>{ posonlyargs:=[],args:=[],vararg:=none,kwonlyargs:=[],kw_defaults:=[],kwarg:=none,defaults:=[] }
def ja7 (s:Stmt):List Stmt:=match s with
 | .FunctionDef _ _ b _ _ _ _ _ _ _=>b
 | _=>[]
def jae (s:Stmt):Scope:=match s with
 | .FunctionDef _ _ _ _ _ _ sc _ _ _=>sc
 | _=>{ kind:=.function,names:=[],isGenerator:=false,isCoroutine:=false }
abbrev CX0:CXT:=fun _ _ _ _ _ _=>False
abbrev E0:XK:=fun _ _ _=>False
theorem jav {X:Cx}:jgm CX0 X E0:=fun _ _ _ _ _ _ _ h=>h.elim
theorem jh0 {n:Nat} (h:n<=1000):n<sizeLine:=xbd h (by decide)
section
variable {X:Cx}
theorem pv (i:Nat) {x:Str} {pos:Pos} (hN:X.N[i]?=some x:=by rfl) (hv:Vis X.env.scope x:=by first | exact Or.inl rfl | exact Or.inr (Or.inl rfl) | exact Or.inr (Or.inr rfl)) (hd:(x==("__debug__":Str))=false:=by decide)
  (hcd:(x==("__classdict__":Str))=false:=by decide):PE X (.Name x pos) (jli i):=jmR hN hv hd hcd
end
theorem iteT {A B:Prop} (h:A):if true=true then A else B:=by
 rw[if_pos rfl];exact h
theorem jb2 {c A B:Prop} [Decidable c] (h1:c->A) (h2:¬c->B):if c then A else B:=by
 by_cases h:c
 ·rw[if_pos h];exact h1 h
 ·rw[if_neg h];exact h2 h
def Same (H H':Hp):Prop:=∀b o,H b=some o->H' b=some o
theorem Same.refl (H:Hp):Same H H:=fun _ _ h=>h
theorem Same.trans {H H1 H2:Hp} (a:Same H H1) (b:Same H1 H2):Same H H2:=fun c o h=>b c o (a c o h)
theorem Same.free {H H':Hp} (e:Same H H') {l:Addr} (h:H' l=Option.none):H l=Option.none:=by
  cases q:H l with
  | none=>rfl
  | some o =>
    rw[e l o q] at h;cases h
theorem Same.seq {K:PySem.W.Frag} {H H':Hp} {a:Addr} {xs:List V} (e:Same H H') (h:SqL K H a xs):SqL K H' a xs:=by
 rcases h with (h | ⟨o,h⟩) | h
 ·exact .inl (.inl (e _ _ h))
 ·exact .inl (.inr ⟨o,e _ _ h⟩)
 ·exact .inr h
section
variable {prog:Program} {w:World} {A:Around} {R:Result->Shared->Prop} {s:Shared}
theorem jfs {elt target iter:Expr} {ifs:List Expr} {scope:Scope} {pos:Pos} {it acc:Value} {env:Env} (I:Nat->Shared->Prop)
    (turn:∀n s,I n s->wpAny (model prog w) A (pyNext it) (fun r s₁=>match r with
      | none=>R (.ok .next) s₁
      | some v=>wpAny (model prog w) A (letOwnedTupleGo target it v) (fun _ s₁'=>wpAny (model prog w) A (assign target env v) (fun _ s₂ =>
          wpAny (model prog w) A (forIn ifs true fun c r=>if r=true then do let ok <- isTrue c env (eval c env);pure (ForInStep.yield ok) else pure (ForInStep.yield r)) (fun ok s₃ =>
            if ok=true then wpAny (model prog w) A (eval elt env) (fun x s₄ =>
              wpAny (model prog w) A (call (.builtin "list.append") [acc,x]) (fun _ s₅=>∃m,m<n/\I m s₅) (notedBy (model prog w) A env fun e s'=>R (.error e) s') s₄) (notedBy (model prog w) A env fun e s'=>R (.error e) s') s₃
            else ∃m,m<n/\I m s₃) (notedBy (model prog w) A env fun e s'=>R (.error e) s') s₂) (notedBy (model prog w) A env fun e s'=>R (.error e) s') s₁') (notedBy (model prog w) A env fun e s'=>R (.error e) s') s₁) (notedBy (model prog w) A env fun e s'=>R (.error e) s') s)
    (n:Nat) (h:I n s) :
    codeAny (model prog w) A (.compLoop (.ListComp elt [⟨target,iter,ifs,0⟩] scope pos) 0 it acc env) R s:=by
  refine codeAny_loop rfl I (fun n s hI=>?_) n h;show wpAny _ A ((compTurn (.ListComp elt [⟨target,iter,ifs,0⟩] scope pos) 0 it acc env).onRaise (fun x=>do noteFrame x env;theTreesLotGoes x)) _ _ s;refine wpAny_noted ?_;rw[compTurn_list];refine wpAny_bind (wpAny_standAt (wpAny_bind (wpAny_mono (turn n s hI) (fun r s₁ h₁=>?_) fun _ _ h'=>h')));cases r with
  | none=>exact wpAny_pure h₁
  | some v =>
    refine wpAny_bind (wpAny_mono h₁ (fun _ s₁' h₁'=>?_) fun _ _ h'=>h');refine wpAny_bind (wpAny_mono h₁' (fun _ s₂ h₂=>wpAny_bind (wpAny_mono h₂ (fun ok s₃ h₃=>?_) fun _ _ h'=>h')) fun _ _ h'=>h');cases ok with
    | false=>exact wpAny_pure ⟨rfl,h₃⟩
    | true =>
      exact wpAny_bind (wpAny_bind (wpAny_mono h₃ (fun x s₄ h₄=>wpAny_bind (wpAny_mono h₄ (fun _ s₅ h₅=>wpAny_pure (wpAny_pure ⟨rfl,h₅⟩)) fun _ _ h'=>h')) fun _ _ h'=>h'))
end
theorem jdh {env:Env}:∀(names:List (Str × NameKind)) (cs:List (Str × Addr)),(∀y∈names,y.2=.free->∃c,env.cells.lookup y.1=some c) ->
    (∀y c,cs.lookup y=some c->env.cells.lookup y=some c) ->
    ∃cl:List (Str × Addr),(forIn (m:=Sem) names cs fun x r=>do
        if (x.2==NameKind.free)=true then do
          let a <- cellOf env x.1
          pure (ForInStep.yield ((x.1,a)::r))
        else pure (ForInStep.yield r))=pure cl/\(∀y c,cl.lookup y=some c->env.cells.lookup y=some c) /\
      (∀y,((y,NameKind.free)∈names\/∃c,cs.lookup y=some c)->∃c,cl.lookup y=some c)
  | [],cs,_,hc=>⟨cs,rfl,hc,fun y h=>h.elim (fun z=>nomatch z) id⟩
  | (n, k) :: r, cs, hn, hc => by
    by_cases hk:k=.free
    . subst hk
      obtain⟨c,e⟩:=hn (n,.free) xaX rfl;have hc':∀y d,((n,c)::cs).lookup y=some d->env.cells.lookup y=some d:=fun y d q=>by
        rw[xaI] at q;cases z:y==n with
        | true =>
          rw[z] at q;have:=beq_iff_eq.mp z;subst this;cases q;exact e
        | false=>rw[z] at q;exact hc y d q
      obtain⟨cl,h1,h2,h3⟩:=jdh r ((n,c)::cs) (fun y hy=>hn y (xan _ hy)) hc';refine⟨cl,?_,h2,fun y hy=>h3 y ?_⟩
      . rw[List.forIn_cons]
        have ec:cellOf env n=pure c:=by unfold cellOf;rw[e]
        show ((if (NameKind.free==NameKind.free)=true then _ else _) >>= _)=_;rw[if_pos (by rfl)];show ((cellOf env n >>= _) >>= _)=_;rw[ec];exact h1
      . rcases hy with hy | ⟨d,hy⟩
        . rcases xav.mp hy with z | z
          . cases z
            exact .inr ⟨c,by rw[xaI,beq_self_eq_true]⟩
          . exact .inl z
        . refine .inr ?_
          rw[xaI];cases z:y==n with
          | true=>exact⟨c,rfl⟩
          | false=>exact⟨d,hy⟩
    . obtain⟨cl,h1,h2,h3⟩:=jdh r cs (fun y hy=>hn y (xan _ hy)) hc
      refine⟨cl,?_,h2,fun y hy=>h3 y ?_⟩
      . rw[List.forIn_cons]
        have hb:(k==NameKind.free)=false:=by simpa using hk
        show ((if (k==NameKind.free)=true then _ else _) >>= _)=_;rw[if_neg (by rw[hb];decide)];exact h1
      . rcases hy with hy | hy
        . rcases xav.mp hy with z | z
          . cases z;exact absurd rfl hk
          . exact .inl z
        . exact .inr hy
theorem jdi {env:Env} {scope:Scope} (hn:∀y∈scope.names,y.2=.free->∃c,env.cells.lookup y.1=some c) :
  ∃cl:List (Str × Addr),closureFor scope env=pure cl/\(∀y c,cl.lookup y=some c->env.cells.lookup y=some c)/\(∀y,(y,NameKind.free)∈scope.names->∃c,cl.lookup y=some c):=by
 obtain⟨cl,h1,h2,h3⟩:=jdh (env:=env) scope.names [] hn (fun y c q=>nomatch q);refine⟨cl,?_,h2,fun y hy=>h3 y (.inl hy)⟩;unfold closureFor;show (_ >>= fun cs=>pure cs)=_;have e:∀m:Sem (List (Str × Addr)),(m >>= fun cs=>pure cs)=m:=fun m=>bind_pure m;rw[e];exact h1
inductive Ixs (N:List Str) (sc cs:Scope):List Str->List Nat->Prop
 | nil:Ixs N sc cs [] []
 | cons {y r j q} (h1:N[j]?=some y) (h2:sc.names.lookup y=some .cell\/sc.names.lookup y=some .free) (h3:cs.names.lookup y=some .free) (t:Ixs N sc cs r q):Ixs N sc cs (y::r) (j::q)
structure CompScope (N:List Str) (sc:Scope) (N':List Str) (ix:List Nat) (x:Str) (r:List Str) (cs:Scope):Prop where
 eq:N'=x::r
 kind:cs.kind=.function
 hcell:∀y∈cs.names,y.2≠.cell
 hnames:∀y∈cs.names,y.2=.local->cs.names.lookup y.1=some .local
 hx:cs.names.lookup x=some .local
 nd:(x::r).Nodup
 fr:∀y∈cs.names,y.2=.free->sc.names.lookup y.1=some .cell\/sc.names.lookup y.1=some .free
 ixs:Ixs N sc cs r ix
def jaM (σ:St) (ix:List Nat):St:=ix.map fun j=>(σ[j]?).getD none
def jkr (X:Cx) (N':List Str) (cs:Scope) (cl:List (Str × Addr)) (s3:Shared) (H3:Hp) (fp:List Addr):Cx :=
 { X with N:=N',s₀:=s3,H₀:=H3,env:=compEnvC cs cl s3.heap.objs.size X.env,outer:=X.stack,stack:=X.stack,ex:=fp,fn:=fun _=>false,pn:=[],xe:=fun _ _=>False }
theorem jdv {env:Env} {cs:Scope} (hcell:∀y∈cs.names,y.2≠.cell) {y:Str} {k:NameKind} (h:(relabel cs env).names.lookup y=some k) (hk:k=.cell\/k=.free):(y,NameKind.free)∈cs.names:=by
 have m:=PySem.mem_of_lookup h;obtain⟨⟨n,k0⟩,h1,h2⟩:=xaz.mp m;by_cases c:(k0==NameKind.free&&env.scope.kind==.function&&env.kindOf n==some .cell)=true
 ·have h2':(n,NameKind.cell)=(y,k):=by rw[<- h2];exact (if_pos c).symm
  cases h2';have:k0=.free:=by
   have z:=(xbt.mp (xbt.mp c).1).1;exact beq_iff_eq.mp z
  rw[this] at h1;exact h1
 ·have h2':(n,k0)=(y,k):=by rw[<- h2];exact (if_neg c).symm
  cases h2';rcases hk with rfl | rfl
  ·exact absurd rfl (hcell _ h1)
  ·exact h1
theorem jbh {env:Env}:∀{names:List (Str × NameKind)} {x:Str},names.lookup x=some .free ->
    (names.map fun (n,k)=>if (k==NameKind.free&&env.scope.kind==.function&&env.kindOf n==some .cell) then (n,NameKind.cell) else (n,k)).lookup x=some .cell \/
    (names.map fun (n,k)=>if (k==NameKind.free&&env.scope.kind==.function&&env.kindOf n==some .cell) then (n,NameKind.cell) else (n,k)).lookup x=some .free
  | [],_,h=>by simp at h
  | (n, k) :: r, x, h => by
    have ih:=@jbh env r x;rw[xaw];show List.lookup x ((if (k==NameKind.free&&env.scope.kind==.function&&env.kindOf n==some .cell)=true then (n,NameKind.cell) else (n,k))::_)=_\/List.lookup x ((if (k==NameKind.free&&env.scope.kind==.function&&env.kindOf n==some .cell)=true then (n,NameKind.cell) else (n,k))::_)=_;cases hx:x==n with
    | true =>
      simp only[xaI,hx] at h;cases h;by_cases hc:(NameKind.free==NameKind.free&&env.scope.kind==.function&&env.kindOf n==some .cell)=true
      . rw[if_pos hc];exact .inl (by simp only[xaI,hx])
      . rw[if_neg hc];exact .inr (by simp only[xaI,hx])
    | false =>
      simp only[xaI,hx] at h;by_cases hc:(k==NameKind.free&&env.scope.kind==.function&&env.kindOf n==some .cell)=true
      . rw[if_pos hc];simp only[xaI,hx];exact ih h
      . rw[if_neg hc];simp only[xaI,hx];exact ih h
theorem Ixs.get {N:List Str} {sc cs:Scope}:∀{r:List Str} {ix:List Nat},Ixs N sc cs r ix->∀{i:Nat} {y:Str},r[i]?=some y ->
    ∃j,ix[i]?=some j/\N[j]?=some y/\(sc.names.lookup y=some .cell\/sc.names.lookup y=some .free)/\cs.names.lookup y=some .free
  | _,_,.nil,i,y,h=>by simp at h
  | _,_,.cons h1 h2 h3 t,0,y,h=>by simp at h;subst h;exact⟨_,rfl,h1,h2,h3⟩
  | _, _, .cons h1 h2 h3 t, i + 1, y, h => by
    obtain⟨j,a,b⟩:=Ixs.get t (i:=i) (y:=y) (by simpa using h);exact⟨j,by simpa using a,b⟩
theorem Ixs.len {N:List Str} {sc cs:Scope}:∀{r:List Str} {ix:List Nat},Ixs N sc cs r ix->r.length=ix.length
 | _,_,.nil=>rfl
 | _,_,.cons _ _ _ t=>by rw[xaq,xaq,t.len]
section
variable {X:Cx} {pins:List (Addr × Obj)} {σ:St} {H:Hp} {s:Shared}
theorem Inv.compOk {N' r:List Str} {ix:List Nat} {x:Str} {cs:Scope} {cl:List (Str × Addr)} {fp:List Addr} (I:Inv X pins σ H s) (S:CompScope X.N X.env.scope N' ix x r cs)
  (h2:∀y c,cl.lookup y=some c->X.env.cells.lookup y=some c) (h3:∀y,(y,NameKind.free)∈cs.names->∃c,cl.lookup y=some c) (hf:∀b∈fp,jgi X pins H b) (hfp:∀b∈fp,b<s.heap.objs.size) :
  (jkr X N' cs cl s H fp).Ok where
 mod:=I.ok.mod
 kind:=S.kind
 glob:=I.ok.glob
 blt:=I.ok.blt
 above:=xag _
 inj:=fun a b c ha hb=>I.ok.inj a b c (h2 a c ha) (h2 b c hb)
 has:=fun y hy=>h3 y (hy.elim (fun z=>jdv S.hcell z (.inl rfl)) fun z=>jdv S.hcell z (.inr rfl))
 cab:=fun _ _ z=>nomatch z
 hd:=I.ok.hd
 frames:=I.ok.frames
 stk:=.inl rfl
 exf:=fun b hb=>⟨xax (hfp b hb),fun y c e=>(hf b hb).2.2.2.2.1 y c (h2 y c e)⟩
 bs:=I.bs
 bsz:=xaA I.ok.bsz I.sz
 noex:=fun b o e hb=>by
  rcases (hf b hb).2.2.2.1 with z | z
  ·exact I.ok.noex b o e z
  ·exact absurd (xam (Heap.lt_size e) (xaA I.ok.bsz z)) (xbg _)
 exfs:=fun b hb hs=>by
  rcases xav.mp (I.stkSub b hs) with z | z
  ·exact (hf b hb).2.1 z
  ·exact (hf b hb).2.2.1 z
 funs:=I.stack
 frf:=I.stkFree
theorem jdT {σ:St} {ix:List Nat} {i:Nat} {v:V} (h:(jaM σ ix)[i]?=some (some v)):∃j,ix[i]?=some j/\σ[j]?=some (some v):=by
  unfold jaM at h;rw[xal] at h;cases e:ix[i]? with
  | none=>rw[e] at h;cases h
  | some j =>
    rw[e] at h;refine⟨j,rfl,?_⟩;cases q:σ[j]? with
    | none =>
      have h':((σ[j]?).getD none)=some v:=by simpa using h
      rw[q] at h';cases h'
    | some o =>
      have h':((σ[j]?).getD none)=some v:=by simpa using h
      rw[q] at h';cases o with
      | none=>cases h'
      | some u=>cases h';rfl
theorem Inv.compStart {N' r:List Str} {ix:List Nat} {x:Str} {cs:Scope} {cl:List (Str × Addr)} {fp:List Addr} {h1:Heap} {tk:Nat} {m:Str->Option Value} (I:Inv X pins σ H s) (S:CompScope X.N X.env.scope N' ix x r cs)
    (h2:∀y c,cl.lookup y=some c->X.env.cells.lookup y=some c) (h3:∀y,(y,NameKind.free)∈cs.names->∃c,cl.lookup y=some c) (hf:∀b∈fp,jgi X pins H b) (hfp:∀b∈fp,b<s.heap.objs.size)
    (hn:h1.Ns s.heap.objs.size m) (hk:∀b o,s.heap.get? b=some o->h1.get? b=some o) :
    Inv (jkr X N' cs cl s H fp) [] (none::jaM σ ix) H { s with heap:=h1,toks:=tk }:=by
  have ok:=I.compOk (N':=N') (fp:=fp) S h2 h3 hf hfp;obtain⟨mo,hno,hlo⟩:=id I.loc;refine⟨ok,rfl,I.bare,Un.kept hk,⟨m,hn,fun i y v e1 e2 e3=>?_⟩,fun y c e=>?_,I.hok.fresh (xag _),fun y c e=>I.freeC y c (h2 y c e),fun p hp=>absurd (show p∈([]:List (Addr × Obj)) from hp) (by simp),I.hok.kept hk,?_⟩
  . cases i with
    | zero=>cases e2
    | succ i =>
      have e1':r[i]?=some y:=by
        have:N'[i+1]?=some y:=e1;rw[S.eq] at this;simpa using this
      obtain⟨j,j1,j2,j3,j4⟩:=S.ixs.get e1';obtain⟨j',k1,k2⟩:=jdT (σ:=σ) (ix:=ix) (i:=i) (v:=v) (by simpa using e2);rw[j1] at k1;cases k1;obtain⟨u,ru,lk⟩:=hlo j y v j2 k2 (j3.elim (fun z=>.inr (.inl z)) fun z=>.inr (.inr z));refine⟨u,ru,?_⟩;obtain⟨c,hc⟩:=h3 y (PySem.mem_of_lookup j4);rcases lk with ⟨k,_⟩ | ⟨k,c',e',z⟩
      . have k':X.env.scope.names.lookup y=some .local:=k
        rcases j3 with q | q<;>(rw[q] at k';cases k')
      . rw[h2 y c hc] at e'
        cases e';refine .inr ⟨?_,c,hc,?_⟩
        . exact jbh (env:=X.env) j4
        . obtain⟨o,ho,hd⟩:=z
          exact⟨o,hk c o ho,hd⟩
  . obtain⟨v,o,ho,hd⟩:=I.cell y c (h2 y c e)
    exact⟨v,o,hk c o ho,hd⟩
  . show (none::jaM σ ix).length=N'.length
    rw[S.eq,xaq,xaq,S.ixs.len];unfold jaM;rw[xaa]
def PTs (X:Cx) (ifs:List Expr) (t:TT):Prop :=
  ∀ (E : Value -> Shared -> Prop) (pins : List (Addr × Obj)) (s : Shared) (σ : St) (H : Hp) (Q : Bool -> Hp -> Prop), (∀ e s', X.xe e s' -> E e s') -> Inv X pins σ H s -> t σ H Q ->
    wpAny (model X.prog X.w) X.A (forIn ifs true fun c r=>if r=true then do let ok <- isTrue c X.env (eval c X.env);pure (ForInStep.yield ok) else pure (ForInStep.yield r)) (TP X pins σ Q) E s
def jc3:TT:=fun _ H Q=>Q true H
theorem ja0 {X:Cx}:PTs X [] jc3:=fun _ _ _ _ H _ _ I h=>wpAny_tests_nil ⟨H,I,h⟩
theorem jeM {X:Cx} {c:Expr} {t:TT} (h:PT X c t):PTs X [c] t:=fun _ pins s σ H Q hE I q=>wpAny_tests_one (wpAny_mono (h pins s σ H Q I q) (fun _ _ z=>z) hE)
def CompGo (J:It) (ρ:St) (g:TG) (tt:TT) (te:TE) (acc:Addr) (Z:Hp->Prop) (H1:Hp):Prop :=
  ∃ W : Nat -> Nat -> List V -> Hp -> Prop, (∃ m, W 0 m [] (upd H1 acc (.lst []))) /\ ∀ i m xs H, W i m xs H ->
    ((J.stop i H /\ Z H) \/ (J.go i H /\ ∃ (Nx : V -> Hp -> Prop) (Nn : Hp -> Prop), (∀ y H4, Nx y H4 -> H4 acc = some (.lst xs) /\ xs.length < sizeLine /\ ∃ m', m' < m /\ W (i + 1) m' (xs ++ [y]) (upd H4 acc (.lst (xs ++ [y])))) /\
      (∀H3,Nn H3->∃m',m'<m/\W (i+1) m' xs H3)/\∀v0 x H',J.yld i H x H'->g x (v0::ρ) H' fun σ2 H2=>(∃v,σ2=v::ρ)/\tt σ2 H2 fun b H3=>if b=true then te σ2 H3 Nx else Nn H3))
end
section
variable {X:Cx} {N' r:List Str} {ix:List Nat} {x:Str} {cs:Scope} {tg iter elt:Expr} {ifs:List Expr} {pos:Pos} {wi:TI} {g:TG} {tt:TT} {te:TE}
def jft (wi:TI) (ix:List Nat) (g:TG) (tt:TT) (te:TE):TE:=fun σ H Q=>wi σ H fun J H1=>∀acc,H1 acc=none->CompGo J (jaM σ ix) g tt te acc (fun H'=>Q (.ref acc) H') H1
theorem CompScope.clos {sc:Scope} {N:List Str} (S:CompScope N sc N' ix x r cs) {env:Env} (he:env.scope=sc) (has:∀y,(env.kindOf y=some .cell\/env.kindOf y=some .free)->∃c,env.cells.lookup y=some c) :
  ∃cl:List (Str × Addr),closureFor cs env=pure cl/\(∀y c,cl.lookup y=some c->env.cells.lookup y=some c)/\(∀y,(y,NameKind.free)∈cs.names->∃c,cl.lookup y=some c) :=
 jdi fun y hy hk=>has y.1 (by
  subst he;exact S.fr y hy hk)
end
section
variable {ρ:St} {g:TG} {tt:TT} {te:TE} {acc:Addr} {Z:Hp->Prop} {H1:Hp}
theorem jcG {lo:Int} {n:Nat} (Pv:Nat->List V->Hp->Prop) (h0:Pv 0 [] (upd H1 acc (.lst [])))
  (hs:∀i xs H,i<n->Pv i xs H->te (some (.int (lo+i))::ρ) H fun y H4=>H4 acc=some (.lst xs)/\xs.length<sizeLine/\Pv (i+1) (xs++[y]) (upd H4 acc (.lst (xs++[y]))))
  (hd:∀xs H,Pv n xs H->Z H):CompGo (Itr lo n) ρ (jbM 0) jc3 te acc Z H1:=by
 refine⟨fun i m xs H=>Pv i xs H/\i<=n/\m=n-i,⟨n,h0,xaQ _,rfl⟩,?_⟩;rintro i m xs H ⟨hp,hi,rfl⟩;by_cases hlt:i<n
 ·refine .inr ⟨hlt,(fun y H4=>H4 acc=some (.lst xs)/\xs.length<sizeLine/\Pv (i+1) (xs++[y]) (upd H4 acc (.lst (xs++[y])))),fun _=>False,fun y H4 q=>⟨q.1,q.2.1,n-(i+1),by omega,q.2.2,hlt,rfl⟩,fun _ z=>z.elim,?_⟩;rintro v0 x H' ⟨rfl,rfl⟩;exact⟨⟨_,rfl⟩,by simp only[jc3,if_true];exact hs i xs H' hlt hp⟩
 ·have:i=n:=by omega
  subst this;exact .inl ⟨xag _,hd xs H hp⟩
theorem jeN {K:PySem.W.Frag} {a:Addr} {zs:List V} (Pv:Nat->List V->Hp->Prop) (h0:Pv 0 [] (upd H1 acc (.lst []))) (hl:∀i xs H,i<=zs.length->Pv i xs H->SqT K H a zs)
  (hs:∀i z xs H,zs[i]?=some z->Pv i xs H->te (some z::ρ) H fun y H4=>H4 acc=some (.lst xs)/\xs.length<sizeLine/\Pv (i+1) (xs++[y]) (upd H4 acc (.lst (xs++[y]))))
  (hd:∀xs H,Pv zs.length xs H->Z H):CompGo (Itt K a) ρ (jbM 0) jc3 te acc Z H1:=by
 refine⟨fun i m xs H=>Pv i xs H/\i<=zs.length/\m=zs.length-i,⟨zs.length,h0,xaQ _,rfl⟩,?_⟩;rintro i m xs H ⟨hp,hi,rfl⟩;have sq:=hl i xs H hi hp;by_cases hlt:i<zs.length
 ·refine .inr ⟨⟨zs,zs[i],sq,xac hlt⟩,(fun y H4=>H4 acc=some (.lst xs)/\xs.length<sizeLine/\Pv (i+1) (xs++[y]) (upd H4 acc (.lst (xs++[y])))),fun _=>False,fun y H4 q=>⟨q.1,q.2.1,zs.length-(i+1),by omega,q.2.2,hlt,rfl⟩,fun _ z=>z.elim,?_⟩;rintro v0 x H' ⟨rfl,hx⟩;exact⟨⟨_,rfl⟩,by simp only[jc3,if_true];exact hs i x xs H' (hx zs sq) hp⟩
 ·have:i=zs.length:=by omega
  subst this;exact .inl ⟨⟨zs,sq,xag _⟩,hd xs H hp⟩
theorem jh1 {K:PySem.W.Frag} {a:Addr} {zs:List V} (Pv:Nat->List V->Hp->Prop) (h0:Pv 0 [] (upd H1 acc (.lst []))) (hl:∀i xs H,i<=zs.length->Pv i xs H->SqL K H a zs)
  (hs:∀i z xs H,zs[i]?=some z->Pv i xs H->te (some z::ρ) H fun y H4=>H4 acc=some (.lst xs)/\xs.length<sizeLine/\Pv (i+1) (xs++[y]) (upd H4 acc (.lst (xs++[y]))))
  (hd:∀xs H,Pv zs.length xs H->Z H):CompGo (Itl K a) ρ (jbM 0) jc3 te acc Z H1:=by
 refine⟨fun i m xs H=>Pv i xs H/\i<=zs.length/\m=zs.length-i,⟨zs.length,h0,xaQ _,rfl⟩,?_⟩;rintro i m xs H ⟨hp,hi,rfl⟩;have sq:=hl i xs H hi hp;by_cases hlt:i<zs.length
 ·refine .inr ⟨⟨zs,zs[i],sq,xac hlt⟩,(fun y H4=>H4 acc=some (.lst xs)/\xs.length<sizeLine/\Pv (i+1) (xs++[y]) (upd H4 acc (.lst (xs++[y])))),fun _=>False,fun y H4 q=>⟨q.1,q.2.1,zs.length-(i+1),by omega,q.2.2,hlt,rfl⟩,fun _ z=>z.elim,?_⟩;rintro v0 x H' ⟨rfl,hx⟩;exact⟨⟨_,rfl⟩,by simp only[jc3,if_true];exact hs i x xs H' (hx zs sq) hp⟩
 ·have:i=zs.length:=by omega
  subst this;exact .inl ⟨⟨zs,sq,xag _⟩,hd xs H hp⟩
end
end L2
namespace L2
open PySem PySem.Spec PyProof.Rows
section
variable {X:Cx}
theorem jdj {k:Int} {n:Nat} (h:k.natAbs<2^n):Builtin.Int.intBits k<=n:=by
 unfold Builtin.Int.intBits;split
 ·exact xaQ _
 ·rename_i h0
  have hk:k.natAbs≠0:=by
   intro z;apply h0;have:k=0:=Int.natAbs_eq_zero.mp z;subst this;rfl
  have:k.natAbs.log2<n:=(Nat.log2_lt hk).mpr h;omega
def Fit (i:Int):Prop:=i.natAbs<2^8000
theorem Fit.mul {i j:Int} (hi:Fit i) (hj:Fit j):IntMulOk i j:=by
 have h1:=jdj hi;have h2:=jdj hj;unfold IntMulOk;intro h;have h3:=(xbt.mp h).2;unfold Builtin.Int.intTooBig at h3;have h4:=of_decide_eq_true h3;have h5:(bitsLine:Int)=134217728:=by decide
 omega
theorem jar:OpR X (binaryOp .Mult) (rI (fun i j=>Fit i/\Fit j) fun i j=>.int (i*j)):=opI fun _ _ _ _ _ _ _ hc q=>mul_int q (hc.1.mul hc.2)
theorem Fit.log {i:Int} (h:Fit i):i.natAbs.log2<9000:=by
 by_cases h0:i.natAbs=0
 ·rw[h0];decide +kernel
 ·have:=(Nat.log2_lt h0).mpr h;omega
theorem jeO:OpR X (binaryOp .FloorDiv) (rI (fun _ j=>0<j/\Fit j) fun i j=>.int (i / j)):=opI fun i j _ _ _ _ _ hc q=>by
 have h1:(0:Int)<j:=hc.1;exact floordiv_int (by omega) (by rw[Int.fdiv_eq_ediv_of_nonneg i (by omega)];exact q) (.inl (PyProof.noPylong_of_log2 hc.2.log))
theorem Fit.of {i:Int} {n:Nat} (h:i.natAbs<2^n) (hn:n<=8000:=by decide):Fit i:=xam h (xb3 (by decide) hn)
theorem jbi:CallR X (.builtin "isinstance") (fun xs H Q=>∃x c t b,xs=[x,.ty c]/\TyOf X.K H x t/\PySem.W.kitOne X.K t (.type c)=some b/\Q (.bl b) H):=by
 intro pins s σ H xs us Q I r h;obtain⟨x,c,t,b,rfl,ty,e,q⟩:=h;obtain⟨u,w',rfl,r1,r2⟩:=jlo r;cases r2;exact jhO I r1 ty e fun tk=>⟨.bl b,H,I.tok tk,rfl,q⟩
mutual
inductive Rds (K:PySem.W.Frag) (H:Hp):V->PyData->Prop
 | non:Rds K H .non .none
 | bl (b:Bool):Rds K H (.bl b) (.bool b)
 | int (i:Int):Rds K H (.int i) (.int i)
 | str (x:Str):Rds K H (.str x) (.str x)
 | lst {a:Addr} {xs:List V} {ds:List PyData} (h:SqL K H a xs) (t:RdsAll K H xs ds):Rds K H (.ref a) (.list ds)
 | tup {a:Addr} {xs:List V} {ds:List PyData} (h:SqT K H a xs) (t:RdsAll K H xs ds):Rds K H (.ref a) (.tuple ds)
inductive RdsAll (K:PySem.W.Frag) (H:Hp):List V->List PyData->Prop
 | nil:RdsAll K H [] []
 | cons {v:V} {vs:List V} {d:PyData} {ds:List PyData} (h:Rds K H v d) (t:RdsAll K H vs ds):RdsAll K H (v::vs) (d::ds)
end
mutual
theorem Rds.reads {pins:List (Addr × Obj)} {σ:St} {H:Hp} {s:Shared} (I:Inv X pins σ H s):∀{x:V} {d:PyData} {u:Value},Rds X.K H x d->RelV x u->∃as,Reads s.heap u d as
  | _,_,_,.non,r=>by cases r;exact⟨_,.none⟩
  | _,_,_,.bl b,r=>by cases r;exact⟨_,.bool b⟩
  | _,_,_,.int i,r=>by obtain⟨t,rfl⟩:=r;exact⟨_,.int i t⟩
  | _,_,_,.str x,r=>by obtain⟨t,rfl⟩:=r;exact⟨_,.str x t⟩
  | _, _, _, .lst h t, r => by
    cases r;obtain⟨its,rv,pl,_⟩:=I.list h;obtain⟨o,ho,hc,n,hd⟩:=pl.isList;obtain⟨as,q⟩:=RdsAll.reads I t rv;exact⟨_,.list ho hc hd q⟩
  | _, _, _, .tup h t, r => by
    cases r;obtain⟨its,rv,pl,_⟩:=I.tuple h;obtain⟨o,ho,hc,n,hd⟩:=pl;obtain⟨as,q⟩:=RdsAll.reads I t rv;exact⟨_,.tuple ho hc hd q⟩
theorem RdsAll.reads {pins:List (Addr × Obj)} {σ:St} {H:Hp} {s:Shared} (I:Inv X pins σ H s):∀{xs:List V} {ds:List PyData} {us:List Value},RdsAll X.K H xs ds->Vals xs us->∃as,ReadsAll s.heap us ds as
  | _,_,_,.nil,r=>by cases r;exact⟨_,.nil⟩
  | _, _, _, .cons h t, r => by
    cases r with
    | cons r1 r2 =>
      obtain⟨as,q1⟩:=Rds.reads I h r1;obtain⟨bs,q2⟩:=RdsAll.reads I t r2;exact⟨_,.cons q1 q2⟩
end
theorem RdsAll.ints {K:PySem.W.Frag} {H:Hp}:∀ns:List Int,RdsAll K H (ns.map V.int) (ns.map PyData.int)
 | []=>.nil
 | n::r=>.cons (.int n) (RdsAll.ints r)
def jks (K:PySem.W.Frag) (neg:Bool):R2:=fun x y H Q=>∃dx dy,Rds K H x dx/\Rds K H y dy/\SeqAt.shaped dx=true/\SeqAt.shaped dy=true/\Q (.bl (if neg then !PyData.eqv dx dy else PyData.eqv dx dy)) H
theorem jfu (hu:X.A.units+64<cLine):OpR X (compareOp .Eq) (jks X.K false):=by
 intro pins s σ H x y v u Q I rx ry ⟨dx,dy,hx,hy,sx,sy,q⟩;obtain⟨as,ra⟩:=hx.reads I rx;obtain⟨bs,rb⟩:=hy.reads I ry;exact eq_dataH ra rb sx sy hu ⟨.bl _,H,I,rfl,q⟩
theorem jgo (hu:X.A.units+64<cLine):OpR X (compareOp .NotEq) (jks X.K true):=by
 intro pins s σ H x y v u Q I rx ry ⟨dx,dy,hx,hy,sx,sy,q⟩;obtain⟨as,ra⟩:=hx.reads I rx;obtain⟨bs,rb⟩:=hy.reads I ry;exact ne_dataH ra rb sx sy hu ⟨.bl _,H,I,rfl,q⟩
theorem jbs (hc:X.calm=true):CallR X (.builtin "all") (fun xs H Q=>∃(a:Addr) (bs:List Bool),xs=[.ref a]/\SqL X.K H a (bs.map V.bl)/\Q (.bl (bs.all id)) H):=by
  intro pins s σ H xs us Q I r h;obtain⟨a,bs,rfl,hq,q⟩:=h;obtain⟨u,rfl,rx⟩:=jei r;cases rx;obtain⟨its,rv,pl,hz⟩:=I.list hq;have hl:=pl.isList;have hlt:a<s.heap.objs.size:=by obtain⟨_,e,_⟩:=hl;exact Heap.lt_size e
  refine call_all_walk (wpAny_pyIter_list hl ?_);refine⟨_,[s.heap.objs.size,a],[s.heap.objs.size],_,_,_,fun i=>(bs[i]?).getD true,rfl,Walks.list (A:=X.A.in1) (I.ok.hd hc) _ a (xax hlt) its.toArray,⟨⟨_,Heap.get?_push_size _ rfl,rfl,rfl⟩,hl.push _⟩,?_,?_⟩
  . intro i v s' Q' E' hP hQ
    have hP':its[i]?=some v:=by simpa using hP
    have hb:∃b,bs[i]?=some b/\v=Value.bool b:=by
      cases e:bs[i]? with
      | none =>
        have l1:its.length=(bs.map V.bl).length:=rv.length.symm;rw[xaa] at l1;have l2:=List.getElem?_eq_none_iff.mp e;have l3:=(xaf.mp hP').1;omega
      | some b =>
        obtain⟨u,e1,e2⟩:=rv.get (i:=i) (x:=V.bl b) (by rw[xal,e];rfl);rw[e1] at hP';cases hP';exact⟨b,rfl,e2⟩
    obtain⟨b,eb,rfl⟩:=hb;have hQ2:Q' ((bs[i]?).getD true) s':=hQ;rw[eb] at hQ2;exact wpAny_truthy_bool hQ2
  . intro h' tk hk
    have kp:∀b o,s.heap.get? b=some o->h'.get? b=some o:=fun b o e=>hk b o (fun hm=>by
      rcases xav.mp hm with e1 | hm
      . exact absurd (e1▸Heap.lt_size e) (xbg _)
      . cases hm) (Heap.get?_push_of_some _ e)
    refine⟨.bl _,H,I.kept kp,rfl,?_⟩;have l1:its.length=bs.length:=by rw[<- rv.length,xaa]
    have ea:(List.range its.toArray.size).all (fun i=>(bs[i]?).getD true)=bs.all id:=by
      rw[xaj,l1,xbC,xbf,xbf];constructor
      . intro h b hb
        obtain⟨i,hi,e⟩:=xbG.mp hb;have z:=h i (xaU.mpr hi);rw[xac hi,e] at z;exact z
      . intro h i hi
        have hi':=xaU.mp hi;rw[xac hi'];exact h _ (xbn hi')
    rw[ea];exact q
end
end L2
namespace L2
open PySem PySem.Spec PyProof.Rows
def DictAt (e dx:Addr) (h:Heap):Prop:=∃o,h.get? e=some o/\o.dict=some dx
theorem DictAt.push {e dx:Addr} {h:Heap} {o:Obj} (z:DictAt e dx h):DictAt e dx (h.push o):=by
 obtain⟨x,h1,h2⟩:=z;exact⟨x,Heap.get?_push_of_some _ h1,h2⟩
theorem DictAt.update {e dx a:Addr} {h:Heap} {f:Obj->Obj} (hd:∀o,(f o).dict=o.dict) (hf:∀o,o.isFreed=false->(f o).isFreed=false) (z:DictAt e dx h):DictAt e dx (h.update a f):=by
 obtain⟨x,h1,h2⟩:=z;by_cases c:a=e
 ·subst c;exact⟨f x,Heap.get?_update_self f h1 (hf x (Heap.get?_some_iff.mp h1).2),(hd x).trans h2⟩
 ·exact⟨x,(Heap.get?_update_other _ _ c).trans h1,h2⟩
def XOk (P:Program) (w:World):CXT:=fun outer H s E e s'=>∃(ea C:Addr) (a0:Value) (H':Hp) (B:Heap) (pd:Option Addr),e=.ref ea/\Heap.FlyingW B outer ea (.ref C) a0 s'.heap/\s'.os=s.os/\AllBare s'.gens /\
 Un (frs outer) [] H H' s.heap s'.heap/\HOk P w H' B/\(∀b o,s.heap.get? b=some o->H b=none->b∉frs outer->B.get? b=some o)/\(∀b o,s.heap.get? b=some o->b∉frs outer->∃o',B.get? b=some o')/\(∀dx,pd=some dx->DictAt ea dx s'.heap)/\E (.ref C) pd H'
section
variable {X:Cx} {pins:List (Addr × Obj)} {σ:St} {H:Hp} {s:Shared}
def XP (X:Cx) (pins:List (Addr × Obj)) (σ:St) (E:XK) (ex:Value) (s':Shared):Prop:=∃H1 s1,Inv X pins σ H1 s1/\XOk X.prog X.w X.stack H1 s1 E ex s'
end
section
variable {P:Program} {w:World} {K:PySem.W.Frag} {mg:Str->Option Value} {base:Heap}
structure FunD (K:PySem.W.Frag) (x qual:Str) (st:Stmt) (f:Addr) (fd:FuncData) (dV:Value):Prop where
 ex:∃(oc:Value) (od:Option Addr) (kV doc pm:Value) (an:Option Addr) (cdv ct:Value) (osl:Array (Option Value)),
  fd=PySem.W.fnOf x qual (jbq st) (ja7 st) (jae st) dV kV doc pm an cdv ct/\K.lookup f=some ⟨oc,od,.func fd,osl⟩/\PySem.W.codeIn K cdv qual=true
 kp:PySem.W.keepIn K (.ref f)=true
theorem FunD.ok {x qual:Str} {st:Stmt} {f:Addr} {fd:FuncData} {dV:Value} {N ps:List Str} {k:Nat} {sp:Sp} (F:FunD K x qual st f fd dV) (S:FnScope N ps (jae st)) (len:∀vs H Q E,sp vs H Q E->vs.length=ps.length)
  (hbody:∀(cdv:Value) (A:Around) (outer:List Env) (s:Shared) (H:Hp) (vs:List V) (Q:VK) (E:XK),Room k (A.deeper (envOfC qual (jae st) s.heap.objs.size f cdv))->sp vs H Q E ->
   ∃t,PSs (jhr CX0 P w K mg base N qual (jae st) f cdv A outer s H E).nox (ja7 st) t/\t { nx:=fun _ H'=>Q .non H',rt:=Q } (jc2 N vs) H):FnOk P w K mg base CX0 (k+1) f fd ps sp:=by
 obtain⟨oc,od,kV,doc,pm,an,cdv,ct,osl,rfl,lk,hcd⟩:=F.ex;refine fn_of lk hcd S len fun A outer s H vs Q E hr hsp=>?_;obtain⟨t,h,q⟩:=hbody cdv A outer s H vs Q E hr hsp;exact⟨t,h.nox,q⟩
theorem jf0 {x qual:Str} {st:Stmt} {f:Addr} {oc dV:Value} {od an:Option Addr} {osl:Array (Option Value)} {kV doc pm cdv ct:Value} (l:K.lookup f=some ⟨oc,od,.func (PySem.W.fnOf x qual (jbq st) (ja7 st) (jae st) dV kV doc pm an cdv ct),osl⟩)
  (c:PySem.W.codeIn K cdv qual=true) (k:PySem.W.keepIn K (.ref f)=true):FunD K x qual st f (PySem.W.fnOf x qual (jbq st) (ja7 st) (jae st) dV kV doc pm an cdv ct) dV:=⟨⟨oc,od,kV,doc,pm,an,cdv,ct,osl,rfl,l,c⟩,k⟩
end
def At (K:PySem.W.Frag) (mg:Str->Option Value) (x:Str) (st:Stmt) (ps:List Str) (dvs:List V):Prop :=
 ∃f fd dV ds,FunD K x x st f fd dV/\mg x=some (.ref f)/\Binds K fd ps ds/\Vals dvs ds
def jan (P:Program) (w:World) (K:PySem.W.Frag) (mg:Str->Option Value) (base:Heap) (CX:CXT) (k:Nat) (x:Str) (ps:List Str) (dvs:List V) (sp:Sp):Prop :=
 ∃f fd ds,FnOk P w K mg base CX k f fd ps sp/\mg x=some (.ref f)/\PySem.W.keepIn K (.ref f)=true/\Binds K fd ps ds/\Vals dvs ds
section
variable {P:Program} {w:World} {K:PySem.W.Frag} {mg:Str->Option Value} {base:Heap}
theorem At.ok {x:Str} {st:Stmt} {N ps:List Str} {dvs:List V} {k:Nat} {sp:Sp} (F:At K mg x st ps dvs) (S:FnScope N ps (jae st)) (len:∀vs H Q E,sp vs H Q E->vs.length=ps.length)
  (hbody:∀(f:Addr) (cdv:Value) (A:Around) (outer:List Env) (s:Shared) (H:Hp) (vs:List V) (Q:VK) (E:XK),Room k (A.deeper (envOfC x (jae st) s.heap.objs.size f cdv))->sp vs H Q E ->
   ∃t,PSs (jhr CX0 P w K mg base N x (jae st) f cdv A outer s H E).nox (ja7 st) t/\t { nx:=fun _ H'=>Q .non H',rt:=Q } (jc2 N vs) H):jan P w K mg base CX0 (k+1) x ps dvs sp:=by
 obtain⟨f,fd,dV,ds,F1,hm,hb,hd⟩:=F;exact⟨f,fd,ds,F1.ok S len (hbody f),hm,F1.kp,hb,hd⟩
end
section
variable {X:Cx} {CX:CXT} {k:Nat} {ps:List Str} {sp:Sp} {dvs:List V} {E:XK} {x:Str} {p pos:Pos} {e:Expr} {es:List Expr} {t:TA}
theorem jah (D:jan X.prog X.w X.K X.mg X.base CX k x ps dvs sp) (hr:Room k X.A) (hg:Gl X x) (hx:jgm CX X E) (ha:PA X (e::es) t) (hdb:(x==("__debug__":Str))=false:=by decide)
  (he:starEach (e::es) X.env=(false,eval e X.env)::starEach es X.env:=by rfl) (hpl:(backTo pos (starEach es X.env)).any (·.1)=false:=by rfl):PE X (.Call (.Name x p) (e::es) [] pos) (jha sp dvs E t):=by
 obtain⟨f,fd,ds,F,hm,hk,hb,hd⟩:=D;exact jlr F hr hg hm hk hb hd hx ha hdb he hpl
theorem ix_lt:IxR X (fun x y H Q=>jmJ X.K x y H Q\/jek X.K x y H Q):=ix_list.or jal
theorem jlt:MtR X "int.bit_length" (fun x xs H Q=>∃i,x=.int i/\xs=[]/\Q (.int (Builtin.Int.intBits i:Nat)) H):=by
 intro pins s σ H x xs v us Q I rx rv h;obtain⟨i,rfl,rfl,q⟩:=h;obtain⟨t,rfl⟩:=rx;cases rv;refine wpAny_call (codeAny_call_builtin F.slot_int_bit_length.plain F.entry_int_bit_length (F.slot_int_bit_length.check _ _ _ _ _ _ _ _ (typeIs_int s i t) (F.args_int_bit_length_1 _) (AutoIntG2.int_bit_length_int_0 i t _ _ _ (wants _ _) s ?_)));exact⟨.int _,H,I.tok _,⟨_,rfl⟩,q⟩
end
theorem jju {k:Nat} {A:Around} (hr:Room k A):A.units+64<cLine:=hr.units
theorem Same.tup {K:PySem.W.Frag} {H H':Hp} {a:Addr} {xs:List V} (e:Same H H') (h:SqT K H a xs):SqT K H' a xs:=by
 rcases h with (h | ⟨o,h⟩) | h
 ·exact .inl (.inl (e _ _ h))
 ·exact .inl (.inr ⟨o,e _ _ h⟩)
 ·exact .inr h
theorem Same.new {H:Hp} {p:Addr} (h:H p=none) (o:HO):Same H (upd H p o):=fun b u q=>by rw[jaK (jaA q h)];exact q
theorem at_mk {K:PySem.W.Frag} {h:Heap} {mg:Str->Option Value} {x:Str} {st:Stmt} {ps:List Str} {f:Addr} {oc kV doc pm cdv ct:Value} {od an:Option Addr} {osl:Array (Option Value)} (X:K.In h) (G:h.Ns mainGlobals mg)
  (hb:∀(kV doc pm:Value) (an:Option Addr) (cdv ct:Value) (us:List Value),us.length=ps.length->bindArgs (PySem.W.fnOf x x (jbq st) (ja7 st) (jae st) .none kV doc pm an cdv ct) ⟨us,[]⟩=pure (ps.zip us))
  (a:PySem.W.nsIn K mainGlobals x=some (some (.ref f))) (l:K.lookup f=some ⟨oc,od,.func (PySem.W.fnOf x x (jbq st) (ja7 st) (jae st) .none kV doc pm an cdv ct),osl⟩) (c:PySem.W.codeIn K cdv x=true) (k:PySem.W.keepIn K (.ref f)=true) :
  At K mg x st ps []:=⟨f,_,.none,[],jf0 l c k,PySem.W.mg_of X G a,.all (hb kV doc pm an cdv ct),.nil⟩
theorem jgp {K:PySem.W.Frag} {h:Heap} {mg:Str->Option Value} {x:Str} {st:Stmt} {ps:List Str} {f D:Addr} {oc kV doc pm cdv ct:Value} {od an:Option Addr} {osl:Array (Option Value)} {oD:Obj} {items:Array Value} {n:Nat} {dvs:List V} {ds:List Value} (X:K.In h) (G:h.Ns mainGlobals mg)
  (hb:∀(kV doc pm:Value) (an:Option Addr) (cdv ct:Value) (us:List Value),(us++ds).length=ps.length->∃kk,bindArgs (PySem.W.fnOf x x (jbq st) (ja7 st) (jae st) (.ref D) kV doc pm an cdv ct) ⟨us,[]⟩=(seqItems? (.ref D) >>= kk)/\kk (some items)=pure (ps.zip (us++ds)))
  (a:PySem.W.nsIn K mainGlobals x=some (some (.ref f))) (l:K.lookup f=some ⟨oc,od,.func (PySem.W.fnOf x x (jbq st) (ja7 st) (jae st) (.ref D) kV doc pm an cdv ct),osl⟩) (c:PySem.W.codeIn K cdv x=true) (k:PySem.W.keepIn K (.ref f)=true)
  (lD:K.lookup D=some oD) (hD:oD.data=.seq items n) (hv:Vals dvs ds):At K mg x st ps dvs :=
 ⟨f,_,.ref D,ds,jf0 l c k,PySem.W.mg_of X G a,fun s us KX hl=>by
  obtain⟨kk,h1,h2⟩:=hb kV doc pm an cdv ct us hl;exact BindsTo.of_defaults rfl (KX _ _ lD) hD h1 h2,hv⟩
section
variable {X:Cx} {st:Stmt} {jbz:List Stmt} {t u:TS}
def Rest (M:St->Hp->Prop) (u:TS) (D:Ends):Prop:=∀σ' H',M σ' H'->u D σ' H'
def jmK (M:St->Hp->Prop) (t u:TS):TS:=fun D σ H=>t { D with nx:=M } σ H/\Rest M u D
theorem ja8 (M:St->Hp->Prop) (h1:PS X st t) (h2:PSs X jbz u):PSs X (st::jbz) (jmK M t u):=by
  intro pins s σ H D I h;refine wpAny_execs_cons (thn (h1 pins s σ H { D with nx:=M } I h.1) fun f s1 q=>?_);cases f with
  | next =>
    obtain⟨σ',H',I',q⟩:=q;exact h2 pins s1 σ' H' D I' (h.2 σ' H' q)
  | ret v=>exact q
  | brk=>exact q
  | cont=>exact q
end
def Bd (n:Nat) (i:Int):Prop:=i.natAbs<2^n
theorem Bd.mul {n m:Nat} {i j:Int} (hi:Bd n i) (hj:Bd m j):Bd (n+m) (i*j):=by
 unfold Bd at *
 rw[xbZ,Nat.pow_add];exact Nat.mul_lt_mul_of_lt_of_le hi (xa2 hj) (Nat.two_pow_pos m)
theorem Bd.mono {n m:Nat} {i:Int} (hi:Bd n i) (h:n<=m:=by decide):Bd m i:=xam hi (xb3 (by decide) h)
theorem Bd.add {n:Nat} {i j:Int} (hi:Bd n i) (hj:Bd n j):Bd (n+1) (i+j):=by
 unfold Bd at *
 rw[Nat.pow_succ];have:=Int.natAbs_add_le i j;omega
theorem Bd.sub {n:Nat} {i j:Int} (hi:Bd n i) (hj:Bd n j):Bd (n+1) (i-j):=by
 unfold Bd at *
 rw[Nat.pow_succ];have:=Int.natAbs_sub_le i j;omega
theorem Bd.neg {n:Nat} {i:Int} (hi:Bd n i):Bd n (-i):=by unfold Bd at *;rw[xcf];exact hi
theorem Bd.fit {n:Nat} {i:Int} (hi:Bd n i) (h:n<=8000:=by decide):Fit i:=xam hi (xb3 (by decide) h)
theorem Bd.of {i:Int} (h1:-1606938044258990275541962092341162602522202993782792835301376<i) (h2:i<1606938044258990275541962092341162602522202993782792835301376):Bd 200 i:=by
 unfold Bd;have e:(2^200:Nat)=1606938044258990275541962092341162602522202993782792835301376:=by decide
 rw[e];omega
theorem Fit.o {i:Int} (h1:-1606938044258990275541962092341162602522202993782792835301376<i) (h2:i<1606938044258990275541962092341162602522202993782792835301376):Fit i:=(Bd.of h1 h2).fit
def gk {α:Type} (n m:Nat) (us ws:List α):List α:=if us.length=n/\ws.length=m then us++ws else []
def AtK (K:PySem.W.Frag) (mg:Str->Option Value) (x:Str) (st:Stmt) (ps ks:List Str) (n m:Nat):Prop :=
 ∃f fd dV,FunD K x x st f fd dV/\mg x=some (.ref f)/\KBinds K fd ps ks (gk n m) (gk n m)
theorem jaR {X:Cx} {K:PySem.W.Frag} (h:X.K=K):IxR X (jek K):=h▸jal
theorem jjv {X:Cx} {K:PySem.W.Frag} (h:X.K=K):IxR X (jmJ K):=h▸ix_list
theorem jfv {X:Cx} (hc:X.calm=true):CallR X (.builtin "max") (fun xs H Q=>∃(a:Addr) (ns:List Int),xs=[.ref a]/\SqL X.K H a (ns.map V.int)/\ns≠[]/\∀m:Int,m∈ns->(∀n∈ns,n<=m)->Q (.int m) H):=by
 intro pins s σ H xs us Q I r h;obtain⟨a,ns,rfl,hq,hne,q⟩:=h;obtain⟨u,rfl,rx⟩:=jei r;cases rx;obtain⟨its,rv,pl,hz⟩:=I.list hq;have ha:=jdg rv;have hall:AllInts its.toArray:=ha.allInts;have hn:numsOf its=ns:=ha.numsOf;obtain⟨ps,e⟩:=hall.items;have hl:s.heap.IsList a (intItems ps):=by rw[<- e];exact pl.isList
 have en:ns=ps.toList.map (·.1):=by
  have z:=nums_intItems ps;rw[<- e] at z;rw[<- hn];exact z
 have hlen:ns.length=ps.size:=by rw[en,xaa,Array.length_toList]
 have hpos:0<ps.size:=by
  rw[<- hlen];exact List.length_pos_iff.mpr hne
 refine max_intList (I.ok.hd hc) hl hpos fun v h' tk hv hk=>?_;obtain⟨t,rfl⟩:=intItems_at hv;obtain⟨b1,b2⟩:=argBest_gt (numAt ps) (ps.size-1);have pick:∀i,i<ps.size->numAt ps i∈ns:=fun i hi=>by
  rw[en];refine xaz.mpr ⟨ps[i],by simp,?_⟩;simp [numAt,hi]
 refine⟨.int _,H,I.kept hk,⟨_,rfl⟩,q _ (pick _ (by omega)) fun n hm=>?_⟩;rw[en] at hm;obtain⟨p,hp,rfl⟩:=xaz.mp hm;obtain⟨i,hi,rfl⟩:=Array.mem_iff_getElem.mp (Array.mem_toList_iff.mp hp);have z:=b2 i (by omega);have ei:numAt ps i=ps[i].1:=by simp [numAt,hi]
 rw[ei] at z;exact z
end L2
namespace L2
open PySem
theorem ixT {K:PySem.W.Frag} {H:Hp} {r:Addr} {xs:List V} {i:Int} {v:V} {Q:VK} (k:SqT K H r xs) (e:atI xs i=some v) (q:Q v H):jek K (.ref r) (.int i) H Q:=⟨r,xs,i,v,rfl,rfl,k,e,q⟩
theorem ixL {K:PySem.W.Frag} {H:Hp} {r:Addr} {xs:List V} {i:Int} {v:V} {Q:VK} (k:SqL K H r xs) (e:atI xs i=some v) (q:Q v H):jmJ K (.ref r) (.int i) H Q:=⟨r,xs,i,v,rfl,rfl,k,e,q⟩
def jmL (J:It) (g:TG) (tb:TS) (D:Ends) (σ:St) (H1:Hp):Prop:=∃W:Nat->Nat->St->Hp->Prop,(∃m,W 0 m σ H1)/\∀i m σ H,W i m σ H ->
 (J.stop i H/\D.nx σ H)\/(J.go i H/\∃N:St->Hp->Prop,(∀σ' H',N σ' H'->∃m',m'<m/\W (i+1) m' σ' H')/\∀x H',J.yld i H x H'->g x σ H' fun σ2 H2=>tb { D with nx:=N,ct:=N,bk:=D.nx } σ2 H2)
section
variable {K:PySem.W.Frag} {ta:TA} {tl:TE} {g:TG} {tb:TS} {D:Ends} {σ:St} {H:Hp} {ix:List Nat} {tt:TT} {te:TE} {Q:VK}
theorem jh2:jln (jll ta) g tb D σ H=ta σ H fun vs H1=>∃j:Int,vs=[.int j]/\-(2^62)<=j/\j<2^62/\jmL (Itr 0 j.toNat) g tb D σ H1:=rfl
theorem jh3:jln (jlm ta) g tb D σ H=ta σ H fun vs H1=>∃i j:Int,vs=[.int i,.int j]/\(-(2^62)<=i/\i<2^62/\-(2^62)<=j/\j<2^62)/\jmL (Itr i (j-i).toNat) g tb D σ H1:=rfl
theorem jkt:jln (jjo K tl) g tb D σ H=tl σ H fun x H1=>∃a,x=.ref a/\(∃xs,SqL K H1 a xs)/\jmL (Itl K a) g tb D σ H1:=rfl
theorem jku:jln (iTup K tl) g tb D σ H=tl σ H fun x H1=>∃a,x=.ref a/\(∃xs,SqT K H1 a xs)/\jmL (Itt K a) g tb D σ H1:=rfl
theorem jgq:jft (jll ta) ix g tt te σ H Q=ta σ H fun vs H1=>∃j:Int,vs=[.int j]/\-(2^62)<=j/\j<2^62/\∀acc,H1 acc=none->CompGo (Itr 0 j.toNat) (jaM σ ix) g tt te acc (fun H'=>Q (.ref acc) H') H1:=rfl
theorem jgr:jft (jlm ta) ix g tt te σ H Q=ta σ H fun vs H1=>∃i j:Int,vs=[.int i,.int j]/\(-(2^62)<=i/\i<2^62/\-(2^62)<=j/\j<2^62)/\∀acc,H1 acc=none->CompGo (Itr i (j-i).toNat) (jaM σ ix) g tt te acc (fun H'=>Q (.ref acc) H') H1:=rfl
theorem jh4:jft (jjo K tl) ix g tt te σ H Q=tl σ H fun x H1=>∃a,x=.ref a/\(∃xs,SqL K H1 a xs)/\∀acc,H1 acc=none->CompGo (Itl K a) (jaM σ ix) g tt te acc (fun H'=>Q (.ref acc) H') H1:=rfl
theorem jh5:jft (iTup K tl) ix g tt te σ H Q=tl σ H fun x H1=>∃a,x=.ref a/\(∃xs,SqT K H1 a xs)/\∀acc,H1 acc=none->CompGo (Itt K a) (jaM σ ix) g tt te acc (fun H'=>Q (.ref acc) H') H1:=rfl
theorem FoR.lst {P:Prop} {a:Addr} {xs:List V} (k:SqL K H a xs) (h:P):(∃xs,SqL K H a xs)/\P:=⟨⟨xs,k⟩,h⟩
theorem FoR.tup {P:Prop} {a:Addr} {xs:List V} (k:SqT K H a xs) (h:P):(∃xs,SqT K H a xs)/\P:=⟨⟨xs,k⟩,h⟩
theorem FoR.len {P:List V->Prop} {a:Addr} {xs:List V} (k:SqL K H a xs) (h:P xs):∃x,(SqL K H a x\/SqT K H a x)/\P x:=⟨xs,.inl k,h⟩
theorem FoR.lenT {P:List V->Prop} {a:Addr} {xs:List V} (k:SqT K H a xs) (h:P xs):∃x,(SqL K H a x\/SqT K H a x)/\P x:=⟨xs,.inr k,h⟩
end
end L2
namespace L2
open PySem PySem.Spec PyProof.Rows
theorem Same.keepN {H H':Hp} {p:Addr} (h:Same H H') (n:H p=none) (o:HO):Same H (upd H' p o):=fun b u q=>by rw[jaK (jaA q n)];exact h b u q
theorem Same.noneN {H H':Hp} {p:Addr} (h:Same H H') (n:H' p=none):H p=none:=by
  cases e:H p with
  | none=>rfl
  | some o =>
    have z:=h _ _ e;rw[n] at z;cases z
theorem jaF {n:Nat} (h:n<1000):n<sizeLine:=xam h (by decide)
section
variable {ρ:St} {te:TE} {tt:TT} {acc:Addr} {Z:Hp->Prop} {H1:Hp}
theorem jf1 {lo:Int} {n:Nat} (f:Nat->V) (hn:n<1000) (hacc:H1 acc=none)
  (hs:∀(i:Nat) (H3:Hp) (R:V->Hp->Prop),i<n->Same H1 H3->(∀H4,Same H3 H4->R (f i) H4)->te (some (.int (lo+i))::ρ) H3 R)
  (hd:∀H',Same H1 H'->H' acc=some (.lst ((List.range n).map f))->Z H'):CompGo (Itr lo n) ρ (jbM 0) jc3 te acc Z H1:=by
 refine jcG (fun i xs H=>Same H1 H/\H acc=some (.lst xs)/\xs=(List.range i).map f) ⟨Same.new hacc _,jag,rfl⟩ ?_ ?_
 ·rintro i xs H hi ⟨g1,g2,rfl⟩;refine hs i H _ hi g1 fun H4 s4=>⟨s4 _ _ g2,jaF ?_,Same.keepN (g1.trans s4) hacc _,jag,?_⟩
  ·rw[xaa,xbj];omega
  ·rw[xaK,xah];rfl
 ·rintro xs H ⟨g1,g2,rfl⟩;exact hd H g1 g2
theorem jlu {lo:Int} {n:Nat} (f:Nat->V) (c:Nat->Bool) (hn:n<1000) (hacc:H1 acc=none)
  (ht:∀(i:Nat) (H3:Hp) (R:Bool->Hp->Prop),i<n->Same H1 H3->(∀H4,Same H3 H4->R (c i) H4)->tt (some (.int (lo+i))::ρ) H3 R)
  (hs:∀(i:Nat) (H3:Hp) (R:V->Hp->Prop),i<n->c i=true->Same H1 H3->(∀H4,Same H3 H4->R (f i) H4)->te (some (.int (lo+i))::ρ) H3 R)
  (hd:∀H',Same H1 H'->H' acc=some (.lst (((List.range n).filter c).map f))->Z H'):CompGo (Itr lo n) ρ (jbM 0) tt te acc Z H1:=by
 refine⟨fun i m xs H=>(Same H1 H/\H acc=some (.lst xs)/\xs=((List.range i).filter c).map f)/\i<=n/\m=n-i,⟨n,⟨Same.new hacc _,jag,rfl⟩,xaQ _,rfl⟩,?_⟩;rintro i m xs H ⟨⟨g1,g2,rfl⟩,hi,rfl⟩;have hl:(((List.range i).filter c).map f).length<sizeLine:=jaF (by
  rw[xaa];have:=xbp c (List.range i);rw[xbj] at this;omega)
 by_cases hlt:i<n
 ·refine .inr ⟨hlt,(fun y H4=>y=f i/\c i=true/\Same H1 H4/\H4 acc=some (.lst (((List.range i).filter c).map f))),fun H3=>c i=false/\Same H1 H3/\H3 acc=some (.lst (((List.range i).filter c).map f)),?_,?_,?_⟩
  ·rintro y H4 ⟨rfl,ci,s4,a4⟩;refine⟨a4,hl,n-(i+1),by omega,⟨Same.keepN s4 hacc _,jag,?_⟩,hlt,rfl⟩;rw[xaK,xap,xah,xaR,if_pos ci];rfl
  ·rintro H3 ⟨ci,s3,a3⟩;refine⟨n-(i+1),by omega,⟨s3,a3,?_⟩,hlt,rfl⟩;rw[xaK,xap,xah,xaR,if_neg (by rw[ci];decide)];simp
  ·rintro v0 x H' ⟨rfl,rfl⟩;refine⟨⟨_,rfl⟩,ht i H' _ hlt g1 fun H4 s4=>?_⟩;cases ci:c i with
   | true=>exact if_pos rfl▸hs i H4 _ hlt ci (g1.trans s4) fun H5 s5=>⟨rfl,rfl,g1.trans (s4.trans s5),s5 _ _ (s4 _ _ g2)⟩
   | false=>exact⟨rfl,g1.trans s4,s4 _ _ g2⟩
 ·have:i=n:=by omega
  subst this;exact .inl ⟨xag _,hd H g1 g2⟩
theorem jm7 {lo:Int} {n:Nat} (p:Nat->V->Prop) (hn:n<1000) (hacc:H1 acc=none)
  (hs:∀(i:Nat) (H3:Hp) (R:V->Hp->Prop),i<n->Same H1 H3->(∀y H4,Same H3 H4->p i y->R y H4)->te (some (.int (lo+i))::ρ) H3 R)
  (hd:∀ys H',Same H1 H'->H' acc=some (.lst ys)->ys.length=n->(∀i y,ys[i]?=some y->p i y)->Z H'):CompGo (Itr lo n) ρ (jbM 0) jc3 te acc Z H1:=by
 refine jcG (fun i xs H=>Same H1 H/\H acc=some (.lst xs)/\xs.length=i/\∀j y,xs[j]?=some y->p j y) ⟨Same.new hacc _,jag,rfl,fun j y h=>by simp at h⟩ ?_ ?_
 ·rintro i xs H hi ⟨g1,g2,hl,hp⟩;refine hs i H _ hi g1 fun y H4 s4 py=>⟨s4 _ _ g2,jaF (by omega),Same.keepN (g1.trans s4) hacc _,jag,?_,fun j z hz=>?_⟩
  ·rw[xad,hl];rfl
  ·by_cases cj:j<xs.length
   ·rw[xaF cj] at hz;exact hp j z hz
   ·have cj2:j<(xs++[y]).length:=(xaf.mp hz).1;rw[xad] at cj2;have e:j=i:=by
     have:j<xs.length+1:=cj2;omega
    subst e;rw[xau (by omega),hl,Nat.sub_self] at hz;cases hz;exact py
 ·rintro xs H ⟨g1,g2,hl,hp⟩;exact hd xs H g1 g2 hl hp
theorem jjw {K:PySem.W.Frag} {a:Addr} {zs:List V} (f:V->V) (hn:zs.length<1000) (hacc:H1 acc=none) (hz:SqT K H1 a zs)
  (hs:∀(z:V) (H3:Hp) (R:V->Hp->Prop),z∈zs->Same H1 H3->(∀H4,Same H3 H4->R (f z) H4)->te (some z::ρ) H3 R)
  (hd:∀H',Same H1 H'->H' acc=some (.lst (zs.map f))->Z H'):CompGo (Itt K a) ρ (jbM 0) jc3 te acc Z H1:=by
 refine jeN (zs:=zs) (fun i xs H=>Same H1 H/\H acc=some (.lst xs)/\xs=(zs.take i).map f) ⟨Same.new hacc _,jag,rfl⟩ (fun i xs H _ h=>h.1.tup hz) ?_ ?_
 ·rintro i z xs H hi ⟨g1,g2,rfl⟩;refine hs z H _ (xaD hi) g1 fun H4 s4=>⟨s4 _ _ g2,jaF ?_,Same.keepN (g1.trans s4) hacc _,jag,?_⟩
  ·rw[xaa,xay];omega
  ·rw[xaV,hi,xah];rfl
 ·rintro xs H ⟨g1,g2,rfl⟩;rw[xa0] at g2;exact hd H g1 g2
theorem compL {K:PySem.W.Frag} {a:Addr} {zs:List V} (f:V->V) (hn:zs.length<1000) (hacc:H1 acc=none) (hz:SqL K H1 a zs)
  (hs:∀(z:V) (H3:Hp) (R:V->Hp->Prop),z∈zs->Same H1 H3->(∀H4,Same H3 H4->R (f z) H4)->te (some z::ρ) H3 R)
  (hd:∀H',Same H1 H'->H' acc=some (.lst (zs.map f))->Z H'):CompGo (Itl K a) ρ (jbM 0) jc3 te acc Z H1:=by
 refine jh1 (zs:=zs) (fun i xs H=>Same H1 H/\H acc=some (.lst xs)/\xs=(zs.take i).map f) ⟨Same.new hacc _,jag,rfl⟩ (fun i xs H _ h=>h.1.seq hz) ?_ ?_
 ·rintro i z xs H hi ⟨g1,g2,rfl⟩;refine hs z H _ (xaD hi) g1 fun H4 s4=>⟨s4 _ _ g2,jaF ?_,Same.keepN (g1.trans s4) hacc _,jag,?_⟩
  ·rw[xaa,xay];omega
  ·rw[xaV,hi,xah];rfl
 ·rintro xs H ⟨g1,g2,rfl⟩;rw[xa0] at g2;exact hd H g1 g2
end
section
variable {K:PySem.W.Frag} {H:Hp} {a b:Addr} {Q:VK}
theorem jh6 (ns:List Int):SeqAt.shaped (.tuple (ns.map PyData.int))=true:=by
 simp [SeqAt.shaped,PyData.canLay0,PyData.depth,PySem.W.ke_canLayAll0,PySem.W.ke_depthAll]
theorem jjx {x y:List Int} (h1:SqT K H a (x.map V.int)) (h2:SqT K H b (y.map V.int)) (q:Q (.bl (decide (x=y))) H):jks K false (.ref a) (.ref b) H Q :=
 ⟨.tuple (x.map PyData.int),.tuple (y.map PyData.int),.tup h1 (RdsAll.ints _),.tup h2 (RdsAll.ints _),jh6 _,jh6 _,by
  have e:PyData.eqv (.tuple (x.map PyData.int)) (.tuple (y.map PyData.int))=decide (x=y):=PySem.W.ked_eqvAll x y;simp only[Bool.false_eq_true,if_false,e];exact q⟩
theorem jjy {x y:List Int} (h1:SqL K H a (x.map V.int)) (h2:SqL K H b (y.map V.int)) (q:Q (.bl (!decide (x=y))) H):jks K true (.ref a) (.ref b) H Q :=
 ⟨.list (x.map PyData.int),.list (y.map PyData.int),.lst h1 (RdsAll.ints _),.lst h2 (RdsAll.ints _),PySem.W.ke_shaped_ints _,PySem.W.ke_shaped_ints _,by
  have e:PyData.eqv (.list (x.map PyData.int)) (.list (y.map PyData.int))=decide (x=y):=PySem.W.ked_eqvAll x y;simp only[if_true,e];exact q⟩
def jfT (nss:List (List Int)):List PyData:=nss.map fun ns=>.tuple (ns.map PyData.int)
theorem jgs:∀nss:List (List Int),PyData.canLayAll0 (jfT nss)=true/\PyData.depthAll (jfT nss)<=1
  | []=>⟨rfl,by decide⟩
  | ns :: r => by
    obtain⟨h1,h2⟩:=jgs r;have h1':PyData.canLayAll0 (r.map fun ns=>PyData.tuple (ns.map PyData.int))=true:=h1;have h2':PyData.depthAll (r.map fun ns=>PyData.tuple (ns.map PyData.int))<=1:=h2;constructor
    . simp [jfT,PyData.canLayAll0,PyData.canLay0,PySem.W.ke_canLayAll0,h1']
    . simp only[jfT,xaw,PyData.depthAll,PyData.depth,PySem.W.ke_depthAll]
      omega
theorem jgt:∀x y:List (List Int),PyData.eqvAll (jfT x) (jfT y)=decide (x=y)
  | [],[]=>by simp [jfT,PyData.eqvAll]
  | [],_::_=>by simp [jfT,PyData.eqvAll]
  | _::_,[]=>by simp [jfT,PyData.eqvAll]
  | a :: r, b :: t => by
    have ih:=jgt r t;have e:PyData.eqv (.tuple (a.map PyData.int)) (.tuple (b.map PyData.int))=decide (a=b):=PySem.W.ked_eqvAll a b;show (PyData.eqv (.tuple (a.map PyData.int)) (.tuple (b.map PyData.int))&&PyData.eqvAll (jfT r) (jfT t))=_;rw[ih,e];by_cases h:a=b<;>by_cases h':r=t<;>simp [h,h']
theorem FoR.app {X:Prop} {L:Addr} {ps:List V} {x:V} {R:VK} (h:H L=some (.lst ps)) (hl:ps.length<sizeLine) (q:R .non (upd H L (.lst (ps++[x])))):((∃xs,SqL K H L xs)\/X)/\jhX (.ref L) [x] H R :=
 ⟨.inl ⟨_,SqL.of h⟩,L,ps,x,rfl,rfl,h,hl,q⟩
end
theorem jjz {X:Cx} (hc:X.calm=true):CallR X (.builtin "sum") (fun xs H Q=>∃(a:Addr) (ns:List Int),xs=[.ref a]/\SqL X.K H a (ns.map V.int)/\Q (.int ns.sum) H):=by
 intro pins s σ H xs us Q I r h;obtain⟨a,ns,rfl,hq,q⟩:=h;obtain⟨u,rfl,rx⟩:=jei r;cases rx;obtain⟨its,rv,pl,hz⟩:=I.list hq;have ha:=jdg rv;have hall:AllInts its.toArray:=ha.allInts;have hn:numsOf its=ns:=ha.numsOf;obtain⟨ps,e⟩:=hall.items;have hl:s.heap.IsList a (intItems ps):=by rw[<- e];exact pl.isList
 have en:ns=ps.toList.map (·.1):=by
  have z:=nums_intItems ps;rw[<- e] at z;rw[<- hn];exact z
 refine sum_intListG (I.ok.hd hc) hl fun h' tk t' hk=>?_;have es:preSum (numAt ps) ps.size=ns.sum:=by
  rw[preSum_eq,xaZ (by simp),en]
 rw[es];exact⟨.int _,H,I.kept hk,⟨_,rfl⟩,q⟩
theorem jfw {X:Cx} (hc:X.calm=true):CallR X (.builtin "min") (fun xs H Q=>∃(a:Addr) (ns:List Int),xs=[.ref a]/\SqL X.K H a (ns.map V.int)/\ns≠[]/\∀m:Int,m∈ns->(∀n∈ns,m<=n)->Q (.int m) H):=by
 intro pins s σ H xs us Q I r h;obtain⟨a,ns,rfl,hq,hne,q⟩:=h;obtain⟨u,rfl,rx⟩:=jei r;cases rx;obtain⟨its,rv,pl,hz⟩:=I.list hq;have ha:=jdg rv;have hall:AllInts its.toArray:=ha.allInts;have hn:numsOf its=ns:=ha.numsOf;obtain⟨ps,e⟩:=hall.items;have hl:s.heap.IsList a (intItems ps):=by rw[<- e];exact pl.isList
 have en:ns=ps.toList.map (·.1):=by
  have z:=nums_intItems ps;rw[<- e] at z;rw[<- hn];exact z
 have hlen:ns.length=ps.size:=by rw[en,xaa,Array.length_toList]
 have hpos:0<ps.size:=by
  rw[<- hlen];exact List.length_pos_iff.mpr hne
 refine min_intList (I.ok.hd hc) hl hpos fun v h' tk hv hk=>?_;obtain⟨t,rfl⟩:=intItems_at hv;obtain⟨b1,b2⟩:=argBest_lt (numAt ps) (ps.size-1);have pick:∀i,i<ps.size->numAt ps i∈ns:=fun i hi=>by
  rw[en];refine xaz.mpr ⟨ps[i],by simp,?_⟩;simp [numAt,hi]
 refine⟨.int _,H,I.kept hk,⟨_,rfl⟩,q _ (pick _ (by omega)) fun n hm=>?_⟩;rw[en] at hm;obtain⟨p,hp,rfl⟩:=xaz.mp hm;obtain⟨i,hi,rfl⟩:=Array.mem_iff_getElem.mp (Array.mem_toList_iff.mp hp);have z:=b2 i (by omega);have ei:numAt ps i=ps[i].1:=by simp [numAt,hi]
 rw[ei] at z;exact z
theorem FoR.tupOf {K:PySem.W.Frag} {H:Hp} {p:Addr} {ys:List V} {X:Prop} {R:Addr->Hp->Prop} (k:SqL K H p ys) (h:∀t H',Same H H'->H' t=some (.tup ys)->R t H'):∃ys,(SqL K H p ys/\∀l,H l=none->R l (upd H l (.tup ys)))\/(SqT K H p ys/\R p H) :=
 ⟨ys,.inl ⟨k,fun l hl=>h l _ (Same.new hl _) jag⟩⟩
theorem jaE {es:List Expr} {k:Nat} {jbz:List Expr} {pos:Pos} {env:Env}:starEach (.Tuple es k pos::jbz) env=(false,eval (.Tuple es k pos) env)::starEach jbz env:=by
 rw[starEach];intro e p h;cases h
theorem jam {c:Const} {k:Nat} {jbz:List Expr} {pos:Pos} {env:Env}:starEach (.Constant c k pos::jbz) env=(false,eval (.Constant c k pos) env)::starEach jbz env:=by
 rw[starEach];intro e p h;cases h
theorem jhe {op:UnaryOp} {a:Expr} {jbz:List Expr} {pos:Pos} {env:Env}:starEach (.UnaryOp op a pos::jbz) env=(false,eval (.UnaryOp op a pos) env)::starEach jbz env:=by
 rw[starEach];intro e p h;cases h
theorem jaf {x:Str} {jbz:List Expr} {pos:Pos} {env:Env}:starEach (.Name x pos::jbz) env=(false,eval (.Name x pos) env)::starEach jbz env:=by
 rw[starEach];intro e p h;cases h
theorem jaI {a:Expr} {es:List Expr} {ks:List Keyword} {jbz:List Expr} {pos:Pos} {env:Env}:starEach (.Call a es ks pos::jbz) env=(false,eval (.Call a es ks pos) env)::starEach jbz env:=by
 rw[starEach];intro e p h;cases h
theorem jbb {a b:Expr} {op:Operator} {jbz:List Expr} {pos:Pos} {env:Env}:starEach (.BinOp a op b pos::jbz) env=(false,eval (.BinOp a op b pos) env)::starEach jbz env:=by
 rw[starEach];intro e p h;cases h
theorem jaq {a b:Expr} {jbz:List Expr} {pos:Pos} {env:Env}:starEach (.Subscript a b pos::jbz) env=(false,eval (.Subscript a b pos) env)::starEach jbz env:=by
 rw[starEach];intro e p h;cases h
theorem jc4 {es:List Expr} {jbz:List Expr} {pos:Pos} {env:Env}:starEach (.List es pos::jbz) env=(false,eval (.List es pos) env)::starEach jbz env:=by
 rw[starEach];intro e p h;cases h
theorem jcd {a:Expr} {gs:List Comprehension} {sc:Scope} {jbz:List Expr} {pos:Pos} {env:Env}:starEach (.ListComp a gs sc pos::jbz) env=(false,eval (.ListComp a gs sc pos) env)::starEach jbz env:=by
 rw[starEach];intro e p h;cases h
structure WE (X:Cx) (e:Expr) (t:TE):Prop where
 h:PE X e t
structure WA (X:Cx) (es:List Expr) (t:TA):Prop where
 h:PA X es t
structure WS (X:Cx) (st:Stmt) (t:TS):Prop where
 h:PS X st t
structure WSs (X:Cx) (st:List Stmt) (t:TS):Prop where
 h:PSs X st t
section
variable {X:Cx} {pos:Pos}
theorem jjA {st:Stmt} {jbz:List Stmt} {t u:TS} (h1:WS X st t) (h2:WSs X jbz u):WSs X (st::jbz) (jmG t u):=⟨jad h1.h h2.h⟩
theorem jcT {st:Stmt} {jbz:List Stmt} {t u:TS} (M:St->Hp->Prop) (h1:WS X st t) (h2:WSs X jbz u):WSs X (st::jbz) (jmK M t u):=⟨ja8 M h1.h h2.h⟩
theorem jfx {tg e:Expr} {te:TE} {g:TG} (he:WE X e te) (hg:PG X tg g) (hs:swapsWithSole [tg] e pos.line X.env=pure false:=by rfl) (hw:swappedStores [tg] e X.env=pure none:=by rfl)
  (h1:(assignEach [tg] X.env).map (·.2)=[assign tg X.env]:=by rfl):WS X (.Assign [tg] e pos) (jkj te g):=⟨jc0 he.h hg hs hw h1⟩
theorem jm8 {r:R2} {a b:Expr} {ta tb:TE} (hr:IxR X r) (ha:WE X a ta) (hb:PE X b tb) (hs:jhV b):WE X (.Subscript a b pos) (tOp r ta tb):=⟨jaj hr ha.h hb hs⟩
theorem jci {es:List Expr} {t:TA} (h:WA X es t):WE X (.List es pos) (jkm t):=⟨jbk h.h⟩
theorem jaY {es:List Expr} {k:Nat} {t:TA} (h:WA X es t):WE X (.Tuple es k pos) (jlq t):=⟨jaG h.h⟩
theorem jaL:WA X [] jjq:=⟨jac⟩
theorem jak {e:Expr} {es:List Expr} {te:TE} {t:TA} (ha:WE X e te) (hr:WA X es t) (hs:starEach (e::es) X.env=(false,eval e X.env)::starEach es X.env):WA X (e::es) (jej te t):=⟨jaa ha.h hr.h hs⟩
end
section
variable {P:Program} {w:World} {K:PySem.W.Frag} {mg:Str->Option Value} {base:Heap}
theorem At.okW {x:Str} {st:Stmt} {N ps:List Str} {dvs:List V} {k:Nat} {sp:Sp} (F:At K mg x st ps dvs) (S:FnScope N ps (jae st)) (len:∀vs H Q E,sp vs H Q E->vs.length=ps.length)
  (hbody:∀(f:Addr) (cdv:Value) (A:Around) (outer:List Env) (s:Shared) (H:Hp) (vs:List V) (Q:VK) (E:XK),Room k (A.deeper (envOfC x (jae st) s.heap.objs.size f cdv))->sp vs H Q E ->
   ∃t,WSs (jhr CX0 P w K mg base N x (jae st) f cdv A outer s H E).nox (ja7 st) t/\t { nx:=fun _ H'=>Q .non H',rt:=Q } (jc2 N vs) H):jan P w K mg base CX0 (k+1) x ps dvs sp :=
 F.ok S len fun f cdv A outer s H vs Q E hr h=>let ⟨t,h1,h2⟩:=hbody f cdv A outer s H vs Q E hr h;⟨t,h1.h,h2⟩
end
section
variable {X:Cx}
theorem jjB:OpR X (binaryOp .FloorDiv) (rI (fun _ j=>j≠0/\Fit j) fun i j=>.int (i.fdiv j)):=opI fun i j _ _ _ _ _ hc q=>by
 exact floordiv_int hc.1 q (.inl (PyProof.noPylong_of_log2 hc.2.log))
end
section
variable {ρ:St} {te:TE} {tt:TT} {acc:Addr} {Z:Hp->Prop} {H1:Hp}
def SameT (H H':Hp):Prop:=∀a xs,H a=some (.tup xs)->H' a=some (.tup xs)
theorem Same.t {H H':Hp} (s:Same H H'):SameT H H':=fun a xs h=>s a _ h
theorem SameT.trans {H H' J:Hp} (s:SameT H H') (t:SameT H' J):SameT H J:=fun a xs h=>t a xs (s a xs h)
theorem SameT.refl (H:Hp):SameT H H:=fun _ _ h=>h
theorem SameT.upd {H:Hp} {a:Addr} {xs ys:List V} (h:H a=some (.lst xs)):SameT H (upd H a (.lst ys)):=fun b zs hb=>by
 have ne:b≠a:=fun e=>by
  subst e;rw[h] at hb;cases hb
 rw[jaK ne];exact hb
def Stab (p:Nat->V->Hp->Prop):Prop:=∀i y H H',p i y H->SameT H H'->p i y H'
theorem jm9 {p:Nat->V->Hp->Prop} {xs:List V} {y:V} {i:Nat} {H:Hp} (hl:xs.length=i) (hp:∀j z,xs[j]?=some z->p j z H) (py:p i y H):∀j z,(xs++[y])[j]?=some z->p j z H:=fun j z hz=>by
 by_cases cj:j<xs.length
 ·rw[xaF cj] at hz;exact hp j z hz
 ·have cj2:j<(xs++[y]).length:=(xaf.mp hz).1;rw[xad] at cj2;have e:j=i:=by
   have:j<xs.length+1:=cj2;omega
  subst e;rw[xau (by omega),hl,Nat.sub_self] at hz;cases hz;exact py
theorem jna {lo:Int} {n:Nat} (p:Nat->V->Hp->Prop) (st:Stab p) (hn:n<1000) (hacc:H1 acc=none)
  (hs:∀(i:Nat) (H3:Hp) (R:V->Hp->Prop),i<n->Same H1 H3->(∀y H4,Same H3 H4->p i y H4->R y H4)->te (some (.int (lo+i))::ρ) H3 R)
  (hd:∀ys H',Same H1 H'->H' acc=some (.lst ys)->ys.length=n->(∀i y,ys[i]?=some y->p i y H')->Z H'):CompGo (Itr lo n) ρ (jbM 0) jc3 te acc Z H1:=by
 refine jcG (fun i xs H=>Same H1 H/\H acc=some (.lst xs)/\xs.length=i/\∀j y,xs[j]?=some y->p j y H) ⟨Same.new hacc _,jag,rfl,fun j y h=>by simp at h⟩ ?_ ?_
 ·rintro i xs H hi ⟨g1,g2,hl,hp⟩;refine hs i H _ hi g1 fun y H4 s4 py=>⟨s4 _ _ g2,jaF (by omega),Same.keepN (g1.trans s4) hacc _,jag,?_,?_⟩
  ·rw[xad,hl];rfl
  ·have u:=SameT.upd (ys:=xs++[y]) (s4 _ _ g2);exact jm9 hl (fun j z hz=>st _ _ _ _ (hp j z hz) (s4.t.trans u)) (st _ _ _ _ py u)
 ·rintro xs H ⟨g1,g2,hl,hp⟩;exact hd xs H g1 g2 hl hp
theorem jkv {K:PySem.W.Frag} {a:Addr} {zs:List V} (p:Nat->V->Hp->Prop) (st:Stab p) (hn:zs.length<1000) (hacc:H1 acc=none) (hz:SqT K H1 a zs)
  (hs:∀(i:Nat) (z:V) (H3:Hp) (R:V->Hp->Prop),zs[i]?=some z->Same H1 H3->(∀y H4,Same H3 H4->p i y H4->R y H4)->te (some z::ρ) H3 R)
  (hd:∀ys H',Same H1 H'->H' acc=some (.lst ys)->ys.length=zs.length->(∀i y,ys[i]?=some y->p i y H')->Z H'):CompGo (Itt K a) ρ (jbM 0) jc3 te acc Z H1:=by
 refine jeN (zs:=zs) (fun i xs H=>Same H1 H/\H acc=some (.lst xs)/\xs.length=i/\∀j y,xs[j]?=some y->p j y H) ⟨Same.new hacc _,jag,rfl,fun j y h=>by simp at h⟩ (fun i xs H _ h=>h.1.tup hz) ?_ ?_
 ·rintro i z xs H hi ⟨g1,g2,hl,hp⟩;have hlt:=(xaf.mp hi).1;refine hs i z H _ hi g1 fun y H4 s4 py=>⟨s4 _ _ g2,jaF (by omega),Same.keepN (g1.trans s4) hacc _,jag,?_,?_⟩
  ·rw[xad,hl];rfl
  ·have u:=SameT.upd (ys:=xs++[y]) (s4 _ _ g2);exact jm9 hl (fun j z hz=>st _ _ _ _ (hp j z hz) (s4.t.trans u)) (st _ _ _ _ py u)
 ·rintro xs H ⟨g1,g2,hl,hp⟩;exact hd xs H g1 g2 hl hp
theorem jlv {K:PySem.W.Frag} {a:Addr} {zs:List V} (f:Nat->V) (c:Nat->Bool) (hn:zs.length<1000) (hacc:H1 acc=none) (hz:SqL K H1 a zs)
  (ht:∀(i:Nat) (z:V) (H3:Hp) (R:Bool->Hp->Prop),zs[i]?=some z->Same H1 H3->(∀H4,Same H3 H4->R (c i) H4)->tt (some z::ρ) H3 R)
  (hs:∀(i:Nat) (z:V) (H3:Hp) (R:V->Hp->Prop),zs[i]?=some z->c i=true->Same H1 H3->(∀H4,Same H3 H4->R (f i) H4)->te (some z::ρ) H3 R)
  (hd:∀H',Same H1 H'->H' acc=some (.lst (((List.range zs.length).filter c).map f))->Z H'):CompGo (Itl K a) ρ (jbM 0) tt te acc Z H1:=by
 refine⟨fun i m xs H=>(Same H1 H/\H acc=some (.lst xs)/\xs=((List.range i).filter c).map f)/\i<=zs.length/\m=zs.length-i,⟨zs.length,⟨Same.new hacc _,jag,rfl⟩,xaQ _,rfl⟩,?_⟩;rintro i m xs H ⟨⟨g1,g2,rfl⟩,hi,rfl⟩;have sq:=g1.seq hz;have hl:(((List.range i).filter c).map f).length<sizeLine:=jaF (by
  rw[xaa];have:=xbp c (List.range i);rw[xbj] at this;omega)
 by_cases hlt:i<zs.length
 ·have ez:zs[i]?=some zs[i]:=xac hlt;refine .inr ⟨⟨zs,zs[i],sq,ez⟩,(fun y H4=>y=f i/\c i=true/\Same H1 H4/\H4 acc=some (.lst (((List.range i).filter c).map f))),fun H3=>c i=false/\Same H1 H3/\H3 acc=some (.lst (((List.range i).filter c).map f)),?_,?_,?_⟩
  ·rintro y H4 ⟨rfl,ci,s4,a4⟩;refine⟨a4,hl,zs.length-(i+1),by omega,⟨Same.keepN s4 hacc _,jag,?_⟩,hlt,rfl⟩;rw[xaK,xap,xah,xaR,if_pos ci];rfl
  ·rintro H3 ⟨ci,s3,a3⟩;refine⟨zs.length-(i+1),by omega,⟨s3,a3,?_⟩,hlt,rfl⟩;rw[xaK,xap,xah,xaR,if_neg (by rw[ci];decide)];simp
  ·rintro v0 x H' ⟨rfl,hx⟩;have ex:x=zs[i]:=by
    have z:=hx zs sq;rw[ez] at z;exact (Option.some.inj z).symm
   subst ex;refine⟨⟨_,rfl⟩,ht i _ H' _ ez g1 fun H4 s4=>?_⟩;cases ci:c i with
   | true=>exact if_pos rfl▸hs i _ H4 _ ez ci (g1.trans s4) fun H5 s5=>⟨rfl,rfl,g1.trans (s4.trans s5),s5 _ _ (s4 _ _ g2)⟩
   | false=>exact⟨rfl,g1.trans s4,s4 _ _ g2⟩
 ·have:i=zs.length:=by omega
  subst this;exact .inl ⟨⟨zs,sq,xag _⟩,hd H g1 g2⟩
end
section
variable {X:Cx} {tg:Expr}
def Asc (x:Str):Prop:=(x.cps.all fun c=>decide (c<128))=true
def Its (x:Str):It:=⟨fun i _=>i<x.cps.size,fun i H v H'=>H'=H/\∃c,x.cps[i]?=some c/\v=.str ⟨#[c]⟩,fun i _=>x.cps.size<=i⟩
def iStr (tl:TE):TI:=fun σ H R=>tl σ H fun v H1=>∃x,v=.str x/\Asc x/\R (Its x) H1
end
section
variable {tl:TE} {g:TG} {tb:TS} {D:Ends} {σ:St} {H:Hp} {ix:List Nat} {tt:TT} {te:TE} {Q:VK}
theorem jkw:jln (iStr tl) g tb D σ H=tl σ H fun v H1=>∃x,v=.str x/\Asc x/\jmL (Its x) g tb D σ H1:=rfl
theorem jh7:jft (iStr tl) ix g tt te σ H Q=tl σ H fun v H1=>∃x,v=.str x/\Asc x/\∀acc,H1 acc=none->CompGo (Its x) (jaM σ ix) g tt te acc (fun H'=>Q (.ref acc) H') H1:=rfl
end
theorem jlw:typeLookup (.type "list_reverseiterator") "__len__"=pure none:=by with_unfolding_all rfl
theorem jjC:typeLookup (.type "list_reverseiterator") "__length_hint__"=pure (some (.builtin "list_reverseiterator.__length_hint__")):=by with_unfolding_all rfl
theorem jjD {M:Model} {A:Around} {E:Value->Shared->Prop} {s:Shared} {Q:Bool->Shared->Prop} {I l:Addr} {i:Int} (h:s.heap.IsRevIter I l i) (q:Q false s):wpAny M A (Builtin.List.listLengthHint (.ref I)) Q E s:=by
 obtain⟨o,ho,hc,hd⟩:=h;have ty:s.TypeIs (.ref I) "list_reverseiterator":=⟨o,ho,hc⟩;unfold Builtin.List.listLengthHint;refine wpAny_bind (wpAny_specialOf ty jlw ?_);dsimp only;refine wpAny_ite_split (fun c=>absurd c (by decide)) fun _=>?_;refine wpAny_ite_split (fun c=>absurd c (by decide)) fun _=>?_;refine wpAny_bind (wpAny_specialOf ty jjC ?_);dsimp only;have sp:splitId "list_reverseiterator.__length_hint__"=some ("list_reverseiterator","__length_hint__"):=by decide +kernel
 rw[sp];dsimp only;refine wpAny_bind (wpAny_isInstance (b:=true) ty (by with_unfolding_all rfl) ?_);refine wpAny_ite_split (fun c=>absurd c (by decide)) fun _=>?_;refine wpAny_ite_split (fun c=>?_) fun c=>absurd c (by decide);refine wpAny_ite_split (fun c=>absurd c (by decide)) fun _=>?_;exact wpAny_pure q
theorem jhf {prog:Program} {w:World} {A:Around} {s:Shared} {R:Result->Shared->Prop} {I l:Addr} {items:Array Value} (hh:A.handled=none) (hne:l≠I) (S:Addr) (res:Value) (c₀:Nat) (hI:s.heap.IsRevIter I l ((items.size:Int)-1)) (hl:s.heap.IsList l items) (hS:S≠I) (hSl:S≠l)
  (e:s.heap.get? S=some { cls:=.type "list",data:=.seq #[] c₀ }) (hz:items.size<=sizeLine)
  (q:∀(h':Heap) (tk:Nat) (acc':Array Value) (c':Nat),(∀b o,b≠S->b≠I->s.heap.get? b=some o->h'.get? b=some o)->h'.get? S=some { cls:=.type "list",data:=.seq acc' c' }->ItemsOf (fun i v=>items[items.size-1-i]?=some v) acc' items.size->R (.ok (.ret res)) { s with heap:=h',toks:=tk }) :
  wpAny (model prog w) A.in1 (Builtin.List.listExtendWith (.ref S) (.ref I) res)
   (fun fin s'=>match fin with | .done f=>R (.ok f) s' | .again c'=>c'.quiet=true/\codeAny (model prog w) A c' R s') (fun e s'=>R (.error e) s') s:=by
 obtain⟨o,ho,hc,hd⟩:=id hI;have ty:s.TypeIs (.ref I) "list_reverseiterator":=⟨o,ho,hc⟩;unfold Builtin.List.listExtendWith;refine wpAny_bind (wpAny_typeOf ty ?_);refine wpAny_ite_split (fun c=>?_) fun _=>?_
 ·exfalso;have e1:Builtin.List.listSameRef (.ref S) (.ref I)=false:=by
   simp [Builtin.List.listSameRef,hS]
  rw[e1] at c
  revert c
  decide
 refine wpAny_bind (wpAny_pyIter_revIter hI ?_);refine wpAny_bind (wpAny_holding (jjD hI ?_));refine wpAny_ite_split (fun c=>absurd c (by decide)) fun _=>?_;have W:=(Walks.listRev (prog:=prog) (w:=w) (A:=A.in1) hh I l hne items).toS;refine wpAny_pure ⟨plainId_quiet F.plain_extend_loop _,?_⟩;refine codeAny_extend_loopS W hz S (by simp [hS,hSl]) res items.size 0 s #[] c₀ rfl (xaQ _) ⟨xaQ _,by simpa using hI,hl⟩ e ⟨rfl,fun j v h=>by simp at h⟩ fun s' acc' c' mv e' it=>?_;have eq:=Moved.eq_with mv;rw[eq];exact q s'.heap s'.toks acc' c' (fun b o h1 h2 e=>mv.heap b o (by simp [h1,h2]) e) e' it
theorem jjE {prog:Program} {w:World} {A:Around} {s:Shared} {R:Result->Shared->Prop} {I l:Addr} {items:Array Value} (hh:A.handled=none) (hne:l≠I) (S:Addr) (hI:s.heap.IsRevIter I l ((items.size:Int)-1)) (hl:s.heap.IsList l items) (hS:S≠I) (hSl:S≠l)
  (e:s.heap.get? S=some { cls:=.type "list",data:=.seq #[] }) (hz:items.size<=sizeLine)
  (q:∀(h':Heap) (tk:Nat) (acc':Array Value) (c':Nat),(∀b o,b≠S->b≠I->s.heap.get? b=some o->h'.get? b=some o)->h'.get? S=some { cls:=.type "list",data:=.seq acc' c' }->ItemsOf (fun i v=>items[items.size-1-i]?=some v) acc' items.size->R (.ok (.ret .none)) { s with heap:=h',toks:=tk }) :
  wpAny (model prog w) A.in1 (Builtin.«list.__init__» { pos:=[.ref S,.ref I] })
   (fun fin s'=>match fin with | .done f=>R (.ok f) s' | .again c'=>c'.quiet=true/\codeAny (model prog w) A c' R s') (fun e s'=>R (.error e) s') s:=by
 unfold Builtin.«list.__init__»;dsimp only;refine wpAny_ite_split (fun c=>absurd c (by decide)) fun _=>?_;refine wpAny_ite_split (fun c=>absurd c (by simp)) fun _=>?_;refine wpAny_bind (wpAny_bind (wpAny_seqItems e rfl (wpAny_pure ?_)));refine wpAny_bind (wpAny_updateSeq e rfl ?_ (by simp) (by simp));refine wpAny_bind (wpAny_letGo ?_);have eS:=Heap.get?_update_self (Obj.mapSeq fun _=>(#[]:Array Value)) e rfl;have eO:∀b,b≠S->(s.heap.update S (Obj.mapSeq fun _=>(#[]:Array Value))).get? b=s.heap.get? b:=fun b hb=>Heap.get?_update_other s.heap _ (Ne.symm hb);obtain⟨o,ho,hc,hd⟩:=hI;obtain⟨o2,ho2,hc2,n2,hd2⟩:=hl;refine jhf (s:={ s with heap:=s.heap.update S (Obj.mapSeq fun _=>(#[]:Array Value)) }) (items:=items) hh hne S .none _ ⟨o,(eO I (Ne.symm hS)).trans ho,hc,hd⟩ ⟨o2,(eO l (Ne.symm hSl)).trans ho2,hc2,n2,hd2⟩ hS hSl eS hz fun h' tk acc' c' k e' it=>?_;exact q h' tk acc' c' (fun b o h1 h2 hb=>k b o h1 h2 ((eO b h1).trans hb)) e' it
theorem jeP {prog:Program} {w:World} {A:Around} {E:Value->Shared->Prop} {s:Shared} {Q:Value->Shared->Prop} {I l:Addr} {items:Array Value} (hh:A.handled=none) (hne:l≠I) (hI:s.heap.IsRevIter I l ((items.size:Int)-1)) (hl:s.heap.IsList l items) (hz:items.size<=sizeLine)
  (q:∀(h':Heap) (tk:Nat) (acc':Array Value) (c':Nat),(∀b o,b≠I->s.heap.get? b=some o->h'.get? b=some o)->h'.get? s.heap.objs.size=some { cls:=.type "list",data:=.seq acc' c' }->ItemsOf (fun i v=>items[items.size-1-i]?=some v) acc' items.size->Q (.ref s.heap.objs.size) { s with heap:=h',toks:=tk }) :
  wpAny (model prog w) A (call (.type "list") [.ref I]) Q E s:=by
 obtain⟨o,ho,hc,hd⟩:=hI;obtain⟨o2,ho2,hc2,n2,hd2⟩:=hl;have n1:s.heap.objs.size≠I:=Ne.symm (xax (Heap.lt_size ho));have n2':s.heap.objs.size≠l:=Ne.symm (xax (Heap.lt_size ho2));refine callType_codes F.called_list (F.typeCall_list_1 _) F.entry_list_init (Q₁:=fun obj s₁=>obj=.ref s.heap.objs.size/\s₁={ s with heap:=s.heap.push { cls:=.type "list",data:=.seq #[] } }) (code_list_new _ ⟨rfl,rfl⟩) ?_;rintro obj s₁ ⟨rfl,rfl⟩;have eS:(s.heap.push { cls:=.type "list",data:=.seq #[] }).get? s.heap.objs.size=some { cls:=.type "list",data:=.seq #[] }:=Heap.get?_push_size _ rfl;refine⟨⟨_,eS,rfl⟩,F.args_list_init_2 _ _,?_⟩;refine jjE (A:=A.in1) (s:={ s with heap:=s.heap.push { cls:=.type "list",data:=.seq #[] } }) (items:=items) hh hne s.heap.objs.size ⟨o,Heap.get?_push_of_some _ ho,hc,hd⟩ ⟨o2,Heap.get?_push_of_some _ ho2,hc2,n2,hd2⟩ n1 n2' eS hz fun h' tk acc' c' k e' it=>?_;exact⟨rfl,q h' tk acc' c' (fun b o h1 hb=>k b o (xax (Heap.lt_size hb)) h1 (Heap.get?_push_of_some _ hb)) e' it⟩
theorem Vals.app {xs ys:List V} {us vs:List Value} (h:Vals xs us) (k:Vals ys vs):Vals (xs++ys) (us++vs):=by
 induction h with
 | nil=>exact k
 | cons r _ ih=>exact .cons r ih
theorem Vals.rev {xs:List V} {us:List Value} (h:Vals xs us):Vals xs.reverse us.reverse:=by
  induction h with
  | nil=>exact .nil
  | cons r _ ih =>
    rw[xaH,xaH];exact Vals.app ih (.cons r .nil)
theorem jh8 {items acc:Array Value} (h:ItemsOf (fun i v=>items[items.size-1-i]?=some v) acc items.size):acc.toList=items.toList.reverse:=by
 obtain⟨h1,h2⟩:=h;refine xbW fun i=>?_;by_cases hi:i<items.size
 ·have e:acc[i]?=some acc[i]:=Array.getElem?_eq_getElem (by omega);have z:=h2 i _ e;rw[xbD (by rw[Array.length_toList];exact hi),Array.length_toList,Array.getElem?_toList,Array.getElem?_toList,e,z]
 ·rw[xaT (by rw[Array.length_toList];omega),xaT (by rw[xaM,Array.length_toList];omega)]
section
variable {X:Cx} {e:Expr} {te:TE} {p p' pos pos':Pos}
def jeQ (K:PySem.W.Frag) (te:TE):TE:=fun σ H Q=>te σ H fun x H1=>∃a ys,x=.ref a/\SqL K H1 a ys/\∀l,H1 l=none->Q (.ref l) (upd H1 l (.lst ys.reverse))
theorem jhg (hc:X.calm=true) (hg:Gl X "list") (hm:X.mg "list"=none) (hg':Gl X "reversed") (hm':X.mg "reversed"=none) (he:PE X e te)
  (h1:starEach [e] X.env=[(false,eval e X.env)]:=by rfl) (h2:starEach [.Call (.Name "reversed" p') [e] [] pos'] X.env=[(false,eval (.Call (.Name "reversed" p') [e] [] pos') X.env)]:=by rfl) :
  PE X (.Call (.Name "list" p) [.Call (.Name "reversed" p') [e] [] pos'] [] pos) (jeQ X.K te):=by
 intro pins s σ H Q I h;refine wpAny_Call_Name_kw (jdM I hg hm boot_list ?_);refine PyProof.Rows.callWith_type1 ?_ h2 rfl;rw[h2];show wpAny _ _ (spliced ((false,eval (.Call (.Name "reversed" p') [e] [] pos') X.env)::[])) _ _ s;refine Calls.spliced_cons ?_;refine wpAny_Call_Name_kw (jdM I hg' hm' boot_reversed ?_);refine PyProof.Rows.callWith_type1 ?_ h1 rfl;rw[h1];show wpAny _ _ (spliced ((false,eval e X.env)::[])) _ _ s;refine Calls.spliced_cons (thn (he pins s σ H _ I h) fun u s1 ⟨x,H1,I1,r1,q1⟩=>?_);obtain⟨a,ys,rfl,hq,q⟩:=q1;cases r1;obtain⟨its,rv,pl,hz⟩:=I1.list hq;have hlen:=rv.length;refine Calls.spliced_nil ?_;refine call_reversed_list pl.isList ?_;refine Calls.spliced_nil ?_;have hla:a<s1.heap.objs.size:=by
  obtain⟨o,ho,_⟩:=pl.isList;exact Heap.lt_size ho
 have hl':(s1.heap.push (revObj a ((its.toArray.size:Int)-1))).IsList a its.toArray:=by
  obtain⟨o,ho,hc',n,hd⟩:=pl.isList;exact⟨o,Heap.get?_push_of_some _ ho,hc',n,hd⟩
 refine jeP (I1.ok.hd hc) (xax hla) ⟨_,Heap.get?_push_size _ rfl,rfl,rfl⟩ hl' (by rw[xaj];omega) fun h' tk acc' c' k e' it=>?_;have er:=jh8 it;rw[List.toList_toArray] at er;have kp:∀(b:Addr) (o:Obj),s1.heap.get? b=some o->h'.get? b=some o:=fun b o hb=>k b o (xax (Heap.lt_size hb)) (Heap.get?_push_of_some _ hb);have sz:(s1.heap.push (revObj a ((its.toArray.size:Int)-1))).objs.size=s1.heap.objs.size+1:=by
  unfold Heap.push;exact Array.size_push ..
 have hle:s1.heap.objs.size<=(s1.heap.push (revObj a ((its.toArray.size:Int)-1))).objs.size:=by omega
 refine⟨.ref _,_,I1.laid (t':=tk) (o:=.lst ys.reverse) kp hle ?_,rfl,q _ (I1.hok.fresh hle)⟩;refine⟨by rw[xaM];exact hz,its.reverse,c',rv.rev,?_⟩;rw[e',<- er]
end
def jdk (J:It) (n:Nat) (ρ:St) (g:TG) (tt:TT) (te:TE) (acc:Addr) (Z:Hp->Prop) (H1:Hp):Prop :=
  ∃ W : Nat -> Nat -> List V -> Hp -> Prop, (∃ m, W 0 m [] (upd H1 acc (.lst []))) /\ ∀ i m xs H, W i m xs H ->
    ((J.stop i H /\ Z H) \/ (J.go i H /\ ∃ (Nx : V -> Hp -> Prop) (Nn : Hp -> Prop), (∀ y H4, Nx y H4 -> H4 acc = some (.lst xs) /\ xs.length < sizeLine /\ ∃ m', m' < m /\ W (i + 1) m' (xs ++ [y]) (upd H4 acc (.lst (xs ++ [y])))) /\
      (∀H3,Nn H3->∃m',m'<m/\W (i+1) m' xs H3)/\∀(v0:St) x H',v0.length=n->J.yld i H x H'->g x (v0++ρ) H' fun σ2 H2=>(∃v:St,v.length=n/\σ2=v++ρ)/\tt σ2 H2 fun b H3=>if b=true then te σ2 H3 Nx else Nn H3))
section
variable {X:Cx} {N' r xs0:List Str} {ix:List Nat} {cs:Scope} {tg iter elt:Expr} {ifs:List Expr} {pos:Pos} {wi:TI} {g:TG} {tt:TT} {te:TE}
def jkx (wi:TI) (ix:List Nat) (n:Nat) (g:TG) (tt:TT) (te:TE):TE:=fun σ H Q=>wi σ H fun J H1=>∀acc,H1 acc=none->jdk J n (jaM σ ix) g tt te acc (fun H'=>Q (.ref acc) H') H1
end
section
variable {K:PySem.W.Frag} {ta:TA} {tl:TE} {ix:List Nat} {n:Nat} {g:TG} {tt:TT} {te:TE} {σ:St} {H:Hp} {Q:VK}
theorem jgu:jkx (jjo K tl) ix n g tt te σ H Q=tl σ H fun x H1=>∃a,x=.ref a/\(∃xs,SqL K H1 a xs)/\∀acc,H1 acc=none->jdk (Itl K a) n (jaM σ ix) g tt te acc (fun H'=>Q (.ref acc) H') H1:=rfl
end
theorem jb3 {X:Cx}:CallR X (.type "tuple") (fun xs H Q=>∃p ys,xs=[.ref p]/\SqL X.K H p ys/\∀l,H l=none->Q (.ref l) (upd H l (.tup ys))):=fun pins s σ H xs us Q I r ⟨p,ys,e,k,q⟩=>jbm pins s σ H xs us Q I r ⟨p,ys,e,.inl ⟨k,q⟩⟩
theorem jh9 {X:Cx} {K:PySem.W.Frag} {es:List Expr} {k:Nat} {t:TGs} {n:Nat} {pos:Pos} (hK:X.K=K) (hc:X.calm=true) (h:PGs X es t)
  (hn:(assignEach es X.env).length=n:=by rfl) (hst:(assignEach es X.env).findIdx? (·.1)=none:=by rfl):PG X (.Tuple es k pos) (jlj K n t):=hK▸jep hc h hn hst
def SameB (L:Addr) (H H':Hp):Prop:=∀b o,b≠L->H b=some o->H' b=some o
theorem SameB.refl (L:Addr) (H:Hp):SameB L H H:=fun _ _ _ h=>h
theorem SameB.trans {L:Addr} {H H' J:Hp} (s:SameB L H H') (t:SameB L H' J):SameB L H J:=fun b o n h=>t b o n (s b o n h)
theorem Same.b {L:Addr} {H H':Hp} (s:Same H H'):SameB L H H':=fun b o _ h=>s b o h
theorem SameB.acc {L acc:Addr} {H H':Hp} {o:HO} (s:SameB L H H') (h:H acc=none):SameB L H (upd H' acc o):=fun b u n q=>by rw[jaK (jaA q h)];exact s b u n q
theorem SameB.none {L b:Addr} {H H':Hp} (s:SameB L H H') (n:b≠L) (h:H' b=none):H b=none:=by
 cases e:H b with
 | none=>rfl
 | some o=>rw[s b o n e] at h;cases h
theorem SameB.set {L:Addr} {H:Hp} {o:HO}:SameB L H (upd H L o):=fun b u n h=>by rw[jaK n];exact h
end L2
namespace L2
open PySem PyProof.Rows PySem.Calls
end L2
namespace L2
open PySem PySem.Spec PyProof.Rows
section
variable {X:Cx} {tg:Expr}
def It3 (lo c:Int) (n:Nat):It:=⟨fun i _=>i<n,fun i H x H'=>H'=H/\x=.int (lo+i*c),fun i _=>n<=i⟩
def iRng3 (ta:TA):TI:=fun σ H R=>ta σ H fun vs H1=>∃i j c:Int,vs=[.int i,.int j,.int c]/\(-(2^30)<=i/\i<2^30/\-(2^30)<=j/\j<2^30/\1<=c/\c<2^30)/\R (It3 i c (Builtin.Range.rangeSize i j c).toNat) H1
end
end L2
namespace L2
section
variable {K:PySem.W.Frag} {tl:TE} {ta:TA} {ix:List Nat} {g:TG} {tt:TT} {te:TE} {σ:St} {H:Hp} {Q:VK}
theorem jgv:jft (iRng3 ta) ix g tt te σ H Q=ta σ H fun vs H1=>∃i j c:Int,vs=[.int i,.int j,.int c]/\(-(2^30)<=i/\i<2^30/\-(2^30)<=j/\j<2^30/\1<=c/\c<2^30)/\∀acc,H1 acc=none->CompGo (It3 i c (PySem.Builtin.Range.rangeSize i j c).toNat) (jaM σ ix) g tt te acc (fun H'=>Q (.ref acc) H') H1:=rfl
end
end L2
namespace L2
open PySem PySem.Spec PyProof.Rows
theorem jeR {M:Model} {A:Around} {E:Value->Shared->Prop} {s:Shared} {scope:Scope} {globals:Addr} {cl:List (Str × Addr)} {qual:Str} {env:Env} {Q:Env->Shared->Prop}
  (hQ:Q (newEnv scope s.heap.objs.size globals (cellsFrom (s.heap.objs.size+1) scope.names cl) qual none .none (some env) builtinsNs) { s with heap:=pushCells (s.heap.push { cls:=.type "dict",data:=.dict #[] }) scope.names }) :
  wpAny M A (newFunctionEnv scope globals cl [] qual none .none (some env)) Q E s:=by
 simp only[newFunctionEnv,Option.isSome_some,if_true];refine wpAny_bind (wpAny_alloc ?_);refine wpAny_bind (wpAny_layCells _ (fun name kind cells=>by cases hkc:kind==NameKind.cell<;>simp [hkc]) _ _ _ _ ?_);rw[show ({ s with heap:=s.heap.push { cls:=.type "dict",data:=.dict #[] } }:Shared).heap.objs.size=s.heap.objs.size+1 from Heap.size_push ..];rw[List.forIn_nil];exact wpAny_bind (wpAny_pure (wpAny_pure hQ))
structure CfOk (n:Nat) (cs:List (Str × Addr)):Prop where
 lt:∀y c,cs.lookup y=some c->c<n
 inj:∀x y c,cs.lookup x=some c->cs.lookup y=some c->x=y
theorem jlx {n:Nat} {name:Str} {acc:List (Str × Addr)} (k:CfOk n acc):CfOk (n+1) ((name,n)::acc):=by
  refine⟨fun y c e=>?_,fun x y c e1 e2=>?_⟩
  . rw[xaI] at e
    cases z:y==name with
    | true=>rw[z] at e;cases e;exact Nat.lt_succ_self _
    | false=>rw[z] at e;exact xbF (k.lt y c e)
  . rw[xaI] at e1 e2
    cases z1:x==name with
    | true =>
      cases z2:y==name with
      | true=>exact (beq_iff_eq.mp z1).trans (beq_iff_eq.mp z2).symm
      | false =>
        rw[z1] at e1;rw[z2] at e2;cases e1;exact absurd (k.lt y _ e2) (xbg _)
    | false =>
      cases z2:y==name with
      | true =>
        rw[z1] at e1;rw[z2] at e2;cases e2;exact absurd (k.lt x _ e1) (xbg _)
      | false =>
        rw[z1] at e1;rw[z2] at e2;exact k.inj x y c e1 e2
theorem jly:∀(names:List (Str × NameKind)) (h:Heap) (acc:List (Str × Addr)),CfOk h.objs.size acc->CfOk (pushCells h names).objs.size (cellsFrom h.objs.size names acc)
  | [],_,_,k=>k
  | (name, kind) :: r, h, acc, k => by
    unfold pushCells cellsFrom;split
    . have z:=jly r (h.push { cls:=.type "cell",data:=.cell none }) ((name,h.objs.size)::acc) (by rw[Heap.size_push]; exact jlx k)
      rwa [Heap.size_push] at z
    . exact jly r h acc k
theorem jf2:∀(names:List (Str × NameKind)) (h:Heap) (acc:List (Str × Addr)) (y:Str) (c:Addr),(cellsFrom h.objs.size names acc).lookup y=some c ->
    acc.lookup y=some c\/((y,NameKind.cell)∈names/\h.objs.size<=c/\(pushCells h names).IsCell c none)
  | [],_,_,_,_,e=>.inl e
  | (name, kind) :: r, h, acc, y, c, e => by
    unfold pushCells;unfold cellsFrom at e;by_cases hk:(kind==NameKind.cell)=true
    . rw[if_pos hk] at e |-
      rw[<- Heap.size_push (h:=h) (o:={ cls:=.type "cell",data:=.cell none })] at e;rcases jf2 r _ _ y c e with z | ⟨z1,z2,z3⟩
      . rw[xaI] at z
        cases q:y==name with
        | true =>
          rw[q] at z;cases z;have e1:=beq_iff_eq.mp q;have e2:=beq_iff_eq.mp hk;subst e1;subst e2;refine .inr ⟨xaX,xag _,⟨_,pushCells_keeps r _ _ _ (Heap.get?_push_size _ rfl),rfl⟩⟩
        | false =>
          rw[q] at z;exact .inl z
      . rw[Heap.size_push] at z2
        exact .inr ⟨xan _ z1,by omega,z3⟩
    . rw[if_neg hk] at e |-
      rcases jf2 r h acc y c e with z | ⟨z1,z2,z3⟩
      . exact .inl z
      . exact .inr ⟨xan _ z1,z2,z3⟩
theorem jfy:∀(names:List (Str × NameKind)) (n:Nat) (acc:List (Str × Addr)) (y:Str),(y,NameKind.cell)∉names->(cellsFrom n names acc).lookup y=acc.lookup y
  | [],_,_,_,_=>rfl
  | (name, kind) :: r, n, acc, y, hn => by
    unfold cellsFrom;have hr:(y,NameKind.cell)∉r:=fun z=>hn (xan _ z);by_cases hk:(kind==NameKind.cell)=true
    . rw[if_pos hk,jfy r _ _ y hr,xaI]
      cases q:y==name with
      | true =>
        have e1:=beq_iff_eq.mp q;have e2:=beq_iff_eq.mp hk;subst e1;subst e2;exact absurd xaX hn
      | false=>rfl
    . rw[if_neg hk,jfy r _ _ y hr]
theorem jfz:∀(names:List (Str × NameKind)) (n:Nat) (acc:List (Str × Addr)) (y:Str),(y,NameKind.cell)∈names->∃c,(cellsFrom n names acc).lookup y=some c/\n<=c
  | (name, kind) :: r, n, acc, y, hy => by
    unfold cellsFrom;by_cases hr:(y,NameKind.cell)∈r
    . by_cases hk:(kind==NameKind.cell)=true
      . rw[if_pos hk]
        obtain⟨c,h1,h2⟩:=jfz r (n+1) ((name,n)::acc) y hr;exact⟨c,h1,by omega⟩
      . rw[if_neg hk]
        exact jfz r n acc y hr
    . rcases xav.mp hy with z | z
      . cases z
        rw[if_pos (by rfl),jfy r _ _ _ hr,xaI];exact⟨n,by rw[beq_self_eq_true],xag _⟩
      . exact absurd z hr
theorem jlz {names:List (Str × NameKind)} {n:Nat} {acc:List (Str × Addr)} {y:Str} (h:∃c,acc.lookup y=some c):∃c,(cellsFrom n names acc).lookup y=some c:=by
 by_cases hy:(y,NameKind.cell)∈names
 ·obtain⟨c,h1,_⟩:=jfz names n acc y hy;exact⟨c,h1⟩
 ·rw[jfy names n acc y hy];exact h
structure CompScopeC (N:List Str) (sc:Scope) (N':List Str) (ix:List Nat) (x:Str) (r:List Str) (cs:Scope):Prop where
 eq:N'=x::r
 kind:cs.kind=.function
 hown:∀y∈cs.names,y.2=.cell->cs.names.lookup y.1=some .cell
 hnames:∀y∈cs.names,y.2=.local->cs.names.lookup y.1=some .local
 nd:(x::r).Nodup
 fr:∀y∈cs.names,y.2=.free->sc.names.lookup y.1=some .cell\/sc.names.lookup y.1=some .free
 ixs:Ixs N sc cs r ix
def jaP (X:Cx) (N':List Str) (cs:Scope) (cl:List (Str × Addr)) (s3:Shared) (H3:Hp) (fp:List Addr):Cx :=
 { X with N:=N',s₀:=s3,H₀:=H3,env:=compEnvC cs (cellsFrom (s3.heap.objs.size+1) cs.names cl) s3.heap.objs.size X.env,outer:=X.stack,stack:=X.stack,ex:=fp,fn:=fun y=>cs.names.lookup y==some .cell,pn:=[],xe:=fun _ _=>False }
theorem jc5 {env:Env} {cs:Scope} {y:Str} {k:NameKind} (h:(relabel cs env).names.lookup y=some k) (hk:k=.cell\/k=.free):(y,NameKind.free)∈cs.names\/(y,NameKind.cell)∈cs.names:=by
 have m:=PySem.mem_of_lookup h;obtain⟨⟨n,k0⟩,h1,h2⟩:=xaz.mp m;by_cases c:(k0==NameKind.free&&env.scope.kind==.function&&env.kindOf n==some .cell)=true
 ·have h2':(n,NameKind.cell)=(y,k):=by rw[<- h2];exact (if_pos c).symm
  cases h2';have:k0=.free:=by
   have z:=(xbt.mp (xbt.mp c).1).1;exact beq_iff_eq.mp z
  rw[this] at h1;exact .inl h1
 ·have h2':(n,k0)=(y,k):=by rw[<- h2];exact (if_neg c).symm
  cases h2';rcases hk with rfl | rfl
  ·exact .inr h1
  ·exact .inl h1
section
variable {X:Cx} {pins:List (Addr × Obj)} {σ:St} {H:Hp} {s:Shared}
theorem Inv.cfs {cs:Scope} {cl:List (Str × Addr)} (I:Inv X pins σ H s) (h2:∀y c,cl.lookup y=some c->X.env.cells.lookup y=some c) :
  CfOk (pushCells (s.heap.push { cls:=.type "dict",data:=.dict #[] }) cs.names).objs.size (cellsFrom (s.heap.objs.size+1) cs.names cl) /\
  ∀y c,(cellsFrom (s.heap.objs.size+1) cs.names cl).lookup y=some c->X.env.cells.lookup y=some c\/((y,NameKind.cell)∈cs.names/\s.heap.objs.size+1<=c/\(pushCells (s.heap.push { cls:=.type "dict",data:=.dict #[] }) cs.names).IsCell c none):=by
 have e:s.heap.objs.size+1=(s.heap.push { cls:=.type "dict",data:=.dict #[] }).objs.size:=(Heap.size_push ..).symm;rw[e];refine⟨jly _ _ _ ⟨fun y c q=>?_,fun a b c ha hb=>I.ok.inj a b c (h2 a c ha) (h2 b c hb)⟩,fun y c q=>?_⟩
 ·obtain⟨v,o,ho,_⟩:=I.cell y c (h2 y c q);rw[<- e];exact xbF (Heap.lt_size ho)
 ·rcases jf2 _ _ _ y c q with z | z
  ·exact .inl (h2 y c z)
  ·exact .inr z
end
section
variable {X:Cx} {N' r:List Str} {ix:List Nat} {x:Str} {cs:Scope} {tg iter elt:Expr} {ifs:List Expr} {pos:Pos} {wi:TI} {g:TG} {tt:TT} {te:TE}
theorem CompScopeC.clos {sc:Scope} {N:List Str} (S:CompScopeC N sc N' ix x r cs) {env:Env} (he:env.scope=sc) (has:∀y,(env.kindOf y=some .cell\/env.kindOf y=some .free)->∃c,env.cells.lookup y=some c) :
  ∃cl:List (Str × Addr),closureFor cs env=pure cl/\(∀y c,cl.lookup y=some c->env.cells.lookup y=some c)/\(∀y,(y,NameKind.free)∈cs.names->∃c,cl.lookup y=some c) :=
 jdi fun y hy hk=>has y.1 (by
  subst he;exact S.fr y hy hk)
end
end L2
namespace L2
open PySem PyProof.Rows
end L2
namespace L2
open PySem PySem.Spec PyProof.Rows
def Ite (K:PySem.W.Frag) (a:Addr):It :=
 ⟨fun i H=>∃xs x,SqL K H a xs/\xs[i]?=some x,fun i H x H'=>∃T v,x=.ref T/\H T=none/\H'=upd H T (.tup [.int i,v])/\∀xs,SqL K H a xs->xs[i]?=some v,fun i H=>∃xs,SqL K H a xs/\xs.length<=i⟩
section
variable {X:Cx} {elts:List Expr} {x1:Nat} {tpos:Pos}
def iEnum (K:PySem.W.Frag) (ta:TA):TI:=fun σ H R=>ta σ H fun vs H1=>∃a,vs=[.ref a]/\(∃xs,SqL K H1 a xs)/\R (Ite K a) H1
end
section
variable {K:PySem.W.Frag} {ta:TA} {tl:TE} {g:TG} {tb:TS} {D:Ends} {σ:St} {H:Hp}
theorem jky:jln (iEnum K ta) g tb D σ H=ta σ H fun vs H1=>∃a,vs=[.ref a]/\(∃xs,SqL K H1 a xs)/\jmL (Ite K a) g tb D σ H1:=rfl
end
section
variable {P:Program} {w:World} {H:Hp} {h h':Heap} {a:Addr} {o:HO}
theorem ObjOk.get (x:ObjOk P w H h a o):∃ob,h.get? a=some ob:=by
 cases o with
 | lst xs=>obtain⟨_,_,_,_,e⟩:=x;exact⟨_,e⟩
 | tup xs=>obtain⟨_,_,_,ob,e,_⟩:=x;exact⟨_,e⟩
 | dK kvs=>obtain⟨_,_,_,_,o,_,_,e,_⟩:=x;exact⟨_,e⟩
 | dT kvs=>obtain⟨_,_,_,_,o,_,_,e,_⟩:=x;exact⟨_,e⟩
 | set S n=>obtain⟨o,_,_,_,e,_⟩:=x;exact⟨_,e⟩
 | ins C dx fs=>obtain⟨_,_,_,e,_⟩:=x;exact⟨_,e⟩
 | own y=>exact x
 | xd fs=>obtain⟨_,⟨_,_,_,e,_⟩,_⟩:=x;exact⟨_,e⟩
 | rng lo hi=>obtain⟨_,_,_,e⟩:=x;exact⟨_,e⟩
 | frz ob u=>obtain⟨e,_⟩:=x;exact⟨_,e⟩
 | tbl ps=>exact⟨_,(show h.get? a=some _ from x)⟩
 | met f y=>exact⟨_,(show h.get? a=some _ from x)⟩
 | ext φ=>obtain⟨_,e,_⟩:=x;exact e
end
section
open PySem.W PySem.Calls PySem.Builtin PySem.Builtin.ObjectAttr
variable {prog:Program} {w:World} {A:Around} {K:PySem.W.Frag} {x C:Addr} {ox:Obj} {od:Option Obj} {s:Shared} {name:Str} {tk:Tok} {v:Value} {R:Result->Shared->Prop}
end
section
open PySem.W PySem.Calls PySem.Builtin PySem.Builtin.ObjectAttr PySem.Builtin.Getset_descriptor
variable {prog:Program} {w:World} {A:Around} {E:Value->Shared->Prop} {K:PySem.W.Frag} {x C:Addr} {s:Shared} {name:Str} {tk:Tok} {v:Value}
end
@[elab_as_elim] theorem jeh {C:Hp->Prop} {H:Hp} {p:Addr} {o:HO} (hp:H p=none) (k:∀J,Same H J->J p=some o->C J):C (upd H p o):=k _ (Same.new hp o) jag
section
variable {prog:Program} {w:World} {A:Around} {E:Value->Shared->Prop} {it:Addr} {fp wr:List Addr} {n:Nat} {P:Nat->Value->Prop} {St:Nat->Heap->Prop}
theorem drawW (W:Walks prog w A it fp wr n P St) (k:Nat):∀(i:Nat) (s:Shared) (Q:List Value->Shared->Prop),i+k<=n->St i s.heap ->
    (∀vs h tk,vs.length=k->(∀j v,vs[j]?=some v->P (i+j) v)->St (i+k) h->(∀b o,b∉wr->s.heap.get? b=some o->h.get? b=some o)->Q vs { s with heap:=h,toks:=tk })->wpAny (model prog w) A (draw (.ref it) k) Q E s:=by
  induction k with
  | zero=>exact fun i s Q _ st q=>wpAny_pure (q [] s.heap s.toks rfl (fun j v h=>by simp at h) st fun _ _ _ e=>e)
  | succ k ih =>
    intro i s Q le st q;refine wpAny_bind (W.item i s _ _ (by omega) st fun v h1 t1 pv st1 k1=>?_);refine wpAny_bind (wpAny_holding (ih (i+1) _ _ (by omega) st1 fun vs h2 t2 l2 p2 st2 k2=>wpAny_pure ?_));refine q (v::vs) h2 t2 (by simp [l2]) (fun j u hj=>?_) (by rw[show i+(k+1)=i+1+k by omega];exact st2) fun b o bw e=>k2 b o bw (k1 b o bw e);cases j with
    | zero=>cases hj;exact pv
    | succ j=>rw[show i+(j+1)=i+1+j by omega];exact p2 j u hj
theorem jnb {s:Shared} {l:Addr} {xs:List Value} {Q:List Value->Shared->Prop} (hh:A.handled=none) (hl:s.heap.IsList l xs.toArray)
  (q:∀h tk,(∀b o,s.heap.get? b=some o->h.get? b=some o)->Q xs { s with heap:=h,toks:=tk }):wpAny (model prog w) A (unpackItems (.ref l) xs.length none) Q E s:=by
 have lt:l<s.heap.objs.size:=by obtain⟨o,ho,_⟩:=hl;exact Heap.lt_size ho
 have W:=Walks.list (prog:=prog) (w:=w) hh s.heap.objs.size l (xax lt) xs.toArray;have old:∀{b:Addr} {o:Obj},s.heap.get? b=some o->b∉[s.heap.objs.size]:=fun x m=>xax (Heap.lt_size x) (xas.mp m);unfold unpackItems notIterableAtAll;refine wpAny_bind (wpAny_bind (wpAny_specialOf hl.typeIs F.slot_list_iter.lookup (wpAny_pure ?_)));rw[if_neg (by decide)];refine wpAny_bind (wpAny_holding (wpAny_pyIter_list hl (wpAny_bind (wpAny_holding ?_))));refine drawW W xs.length 0 _ _ (by simp) ⟨⟨_,Heap.get?_push_size _ rfl,rfl,rfl⟩,hl.push _⟩ fun vs h1 t1 l1 p1 st1 k1=>?_;have ev:vs=xs:=by
  refine xbW fun j=>?_;by_cases c:j<vs.length
  ·have e:=p1 j vs[j] (xac c);rw[xac c,<- e];simp
  ·rw[xaT (by omega),xaT (by omega)]
 rw[if_neg (by omega)];refine wpAny_bind (wpAny_holding (W.done _ _ _ (by simpa using st1) fun h2 t2 k2=>?_));rw[if_neg (show ¬(none:Option Value).isSome=true by decide),ev];exact wpAny_pure (q h2 t2 fun b o x=>k2 b o (old x) (k1 b o (old x) (Heap.get?_push_of_some _ x)))
end
section
variable {X:Cx} {pos:Pos}
def gLst (K:PySem.W.Frag) (n:Nat) (t:TGs):TG:=fun v σ H Q=>∃a xs,v=.ref a/\SqL K H a xs/\xs.length=n/\t xs σ H Q
theorem jkz {es:List Expr} {k:Nat} {t:TGs} {n:Nat} (hc:X.calm=true) (h:PGs X es t)
  (hn:(assignEach es X.env).length=n:=by rfl) (hst:(assignEach es X.env).findIdx? (·.1)=none:=by rfl):PG X (.Tuple es k pos) (gLst X.K n t):=by
 intro pins s σ H v u Q I r ⟨a,xs,e1,hq,hl,hw⟩;subst e1;cases r;obtain⟨its,rv,ht,hz⟩:=I.list hq;have len:(assignEach es X.env).length=its.length:=by rw[hn,<- hl,rv.length]
 rw[assign_Tuple];unfold unpack;rw[len,hst];exact wpAny_bind (wpAny_standAt (wpAny_bind (wpAny_holding (jnb (I.ok.hd hc) ht.isList fun h' tk hx=>h pins _ σ H xs _ Q (I.kept hx) rv hw))))
end
section
open PySem.AutoSeq1 (wpAny_loadPart')
open PySem.MeetsSeq3 (plain_eq_loop entry_eq_loop)
end
structure CompScopeMC (N:List Str) (sc:Scope) (N':List Str) (ix:List Nat) (xs0:List Str) (r:List Str) (cs:Scope):Prop where
 eq:N'=xs0++r
 kind:cs.kind=.function
 hown:∀y∈cs.names,y.2=.cell->cs.names.lookup y.1=some .cell
 hnames:∀y∈cs.names,y.2=.local->cs.names.lookup y.1=some .local
 nd:(xs0++r).Nodup
 fr:∀y∈cs.names,y.2=.free->sc.names.lookup y.1=some .cell\/sc.names.lookup y.1=some .free
 ixs:Ixs N sc cs r ix
section
variable {X:Cx} {pins:List (Addr × Obj)} {σ:St} {H:Hp} {s:Shared}
theorem Inv.compOkMC {N' r:List Str} {ix:List Nat} {xs0:List Str} {cs:Scope} {cl:List (Str × Addr)} {fp:List Addr} (I:Inv X pins σ H s) (S:CompScopeMC X.N X.env.scope N' ix xs0 r cs)
  (h2:∀y c,cl.lookup y=some c->X.env.cells.lookup y=some c) (h3:∀y,(y,NameKind.free)∈cs.names->∃c,cl.lookup y=some c) (hf:∀b∈fp,jgi X pins H b) (hfp:∀b∈fp,b<s.heap.objs.size) :
  (jaP X N' cs cl s H fp).Ok where
 mod:=I.ok.mod
 kind:=S.kind
 glob:=I.ok.glob
 blt:=I.ok.blt
 above:=xag _
 inj:=(I.cfs (cs:=cs) h2).1.inj
 has:=fun y hy=>by
  rcases hy.elim (fun z=>jc5 z (.inl rfl)) fun z=>jc5 z (.inr rfl) with z | z
  ·exact jlz (h3 y z)
  ·obtain⟨c,h,_⟩:=jfz cs.names (s.heap.objs.size+1) cl y z;exact⟨c,h⟩
 cab:=fun y c hy e=>by
  have z:cs.names.lookup y=some .cell:=beq_iff_eq.mp hy;obtain⟨c',h,hl⟩:=jfz cs.names (s.heap.objs.size+1) cl y (PySem.mem_of_lookup z);have e':(cellsFrom (s.heap.objs.size+1) cs.names cl).lookup y=some c:=e;rw[h] at e';cases e';exact xaA (Nat.le_succ _) hl
 hd:=I.ok.hd
 frames:=I.ok.frames
 stk:=.inl rfl
 exf:=fun b hb=>⟨xax (hfp b hb),fun y c e=>by
  rcases (I.cfs (cs:=cs) h2).2 y c e with z | ⟨_,z,_⟩
  ·exact (hf b hb).2.2.2.2.1 y c z
  ·exact Nat.ne_of_gt (xam (xbF (hfp b hb)) z)⟩
 bs:=I.bs
 bsz:=xaA I.ok.bsz I.sz
 noex:=fun b o e hb=>by
  rcases (hf b hb).2.2.2.1 with z | z
  ·exact I.ok.noex b o e z
  ·exact absurd (xam (Heap.lt_size e) (xaA I.ok.bsz z)) (xbg _)
 exfs:=fun b hb hs=>by
  rcases xav.mp (I.stkSub b hs) with z | z
  ·exact (hf b hb).2.1 z
  ·exact (hf b hb).2.2.1 z
 funs:=I.stack
 frf:=I.stkFree
theorem Inv.compStartMC {N' r:List Str} {ix:List Nat} {xs0:List Str} {cs:Scope} {cl:List (Str × Addr)} {fp:List Addr} (I:Inv X pins σ H s) (S:CompScopeMC X.N X.env.scope N' ix xs0 r cs)
  (h2:∀y c,cl.lookup y=some c->X.env.cells.lookup y=some c) (h3:∀y,(y,NameKind.free)∈cs.names->∃c,cl.lookup y=some c) (hf:∀b∈fp,jgi X pins H b) (hfp:∀b∈fp,b<s.heap.objs.size) :
  Inv (jaP X N' cs cl s H fp) [] (List.replicate xs0.length none++jaM σ ix) H { s with heap:=pushCells (s.heap.push { cls:=.type "dict",data:=.dict #[] }) cs.names }:=by
 have ok:=I.compOkMC (N':=N') (fp:=fp) S h2 h3 hf hfp;obtain⟨mo,hno,hlo⟩:=id I.loc;have hk:∀b o,s.heap.get? b=some o->(pushCells (s.heap.push { cls:=.type "dict",data:=.dict #[] }) cs.names).get? b=some o:=fun b o e=>pushCells_keeps _ _ _ _ (Heap.get?_push_of_some _ e);have cf:=(I.cfs (cs:=cs) h2).2;refine⟨ok,rfl,I.bare,Un.kept hk,⟨fun _=>none,(Heap.Ns.new s.heap (.type "dict")).keeps (pushCells_keeps _ _),fun i y v e1 e2 e3=>?_⟩,fun y c e=>?_,I.hok.fresh (xag _),fun y c e=>?_,fun p hp=>absurd (show p∈([]:List (Addr × Obj)) from hp) (by simp),I.hok.kept hk,?_⟩
 ·by_cases hi:i<xs0.length
  ·rw[xaF (by rw[xa9];exact hi),List.getElem?_replicate,if_pos hi] at e2;cases e2
  ·have e1':r[i-xs0.length]?=some y:=by
    have:N'[i]?=some y:=e1;rw[S.eq,xau (by omega)] at this;exact this
   have e2:(jaM σ ix)[i-xs0.length]?=some (some v):=by
    rw[xau (by rw[xa9];omega),xa9] at e2;exact e2
   obtain⟨j,j1,j2,j3,j4⟩:=S.ixs.get e1';obtain⟨j',k1,k2⟩:=jdT (σ:=σ) (ix:=ix) (i:=i-xs0.length) (v:=v) e2;rw[j1] at k1;cases k1;obtain⟨u,ru,lk⟩:=hlo j y v j2 k2 (j3.elim (fun z=>.inr (.inl z)) fun z=>.inr (.inr z));refine⟨u,ru,?_⟩;obtain⟨c,hc⟩:=h3 y (PySem.mem_of_lookup j4);rcases lk with ⟨k,_⟩ | ⟨k,c',e',z⟩
   ·have k':X.env.scope.names.lookup y=some .local:=k;rcases j3 with q | q<;>(rw[q] at k';cases k')
   ·rw[h2 y c hc] at e';cases e';refine .inr ⟨?_,c,?_,?_⟩
    ·exact jbh (env:=X.env) j4
    ·have no:(y,NameKind.cell)∉cs.names:=fun q=>by
      have:=S.hown _ q rfl;rw[j4] at this;cases this
     show (cellsFrom (s.heap.objs.size+1) cs.names cl).lookup y=some c;rw[jfy _ _ _ y no];exact hc
    ·obtain⟨o,ho,hd⟩:=z;exact⟨o,hk c o ho,hd⟩
 ·rcases cf y c e with z | ⟨_,_,z⟩
  ·obtain⟨v,o,ho,hd⟩:=I.cell y c z;exact⟨v,o,hk c o ho,hd⟩
  ·exact⟨none,z⟩
 ·rcases cf y c e with z | ⟨_,z,_⟩
  ·exact I.freeC y c z
  ·exact I.hok.fresh (xaA (Nat.le_succ _) z)
 ·show (List.replicate xs0.length none++jaM σ ix).length=N'.length;rw[S.eq,xad,xad,xa9,S.ixs.len];unfold jaM;rw[xaa]
theorem jcU {N' r:List Str} {ix:List Nat} {xs0:List Str} {cs:Scope} {cl:List (Str × Addr)} {tg iter elt:Expr} {ifs:List Expr} {pos:Pos} {J:It} {fp:List Addr} {it:Addr} {tn:Nat->Heap->Prop} {g:TG} {tt:TT} {te:TE} {Z:Addr->Hp->Prop}
    {RR:Value->Addr->Result->Shared->Prop} {E:Value->Shared->Prop}
    (I:Inv X pins σ H s) (hc:X.calm=true) (S:CompScopeMC X.N X.env.scope N' ix xs0 r cs) (h2:∀y c,cl.lookup y=some c->X.env.cells.lookup y=some c) (h3:∀y,(y,NameKind.free)∈cs.names->∃c,cl.lookup y=some c)
    (T:Turn X.prog X.w X.K tg J fp it tn) (st:tn 0 s.heap) (hf:∀b∈fp,jgi X pins H b)
    (hg:∀s3 H3,PG (jaP X N' cs cl s3 H3 fp) tg g) (ht:∀s3 H3,PTs (jaP X N' cs cl s3 H3 fp) ifs tt) (he:∀s3 H3,PE (jaP X N' cs cl s3 H3 fp) elt te)
    (go:∀acc,H acc=none->jdk J xs0.length (jaM σ ix) g tt te acc (Z acc) H)
    (fin:∀acc C s' H' m,Inv X pins σ H' s'->jgi X pins H' C->s'.heap.Ns C m->Z acc H'->RR (.ref acc) C (.ok .next) s') :
    wpAny (model X.prog X.w) X.A (newList []) (fun acc s₃=>wpAny (model X.prog X.w) X.A (newFunctionEnv cs X.env.globals cl [] X.env.qual none .none (some X.env)) (fun cenv s₄ =>
      codeAny (model X.prog X.w) X.A (.compStart (.ListComp elt [⟨tg,iter,ifs,0⟩] cs pos) 0 (.ref it) acc { cenv with scope:=relabel cs X.env }) (RR acc cenv.locals) s₄) E s₃) E s:=by
  refine wpAny_newObj_type (jeR ?_);dsimp only;have hfs:∀b∈fp,b<s.heap.objs.size:=fun b hb=>by
    obtain⟨o,e,_⟩:=T.obj _ _ st b hb;exact Heap.lt_size e
  have I3:Inv X pins σ (upd H s.heap.objs.size (.lst [])) { s with heap:=s.heap.push { cls:=.type "list",data:=.seq ([]:List Value).toArray } }:=I.lnew (its:=[]) (t':=s.toks) .nil (xaQ _);have nacc:H s.heap.objs.size=none:=I.fresh;have hf3:∀b∈fp,jgi X pins (upd H s.heap.objs.size (.lst [])) b:=fun b hb=>⟨by rw[jaK (xax (hfs b hb))];exact (hf b hb).1,(hf b hb).2⟩;have hfs3:∀b∈fp,b<(s.heap.push { cls:=.type "list",data:=.seq ([]:List Value).toArray }).objs.size:=fun b hb=>by
    rw[Heap.size_push];exact xbF (hfs b hb)
  generalize hs3:({ s with heap:=s.heap.push { cls:=.type "list",data:=.seq ([]:List Value).toArray } }:Shared)=s3 at I3;generalize hH3:upd H s.heap.objs.size (.lst [])=H3 at I3 hf3;have eh:s.heap.push { cls:=.type "list",data:=.seq ([]:List Value).toArray }=s3.heap:=by rw[<- hs3]
  rw[eh] at hfs3;have I4:Inv (jaP X N' cs cl s3 H3 fp) [] (List.replicate xs0.length none++jaM σ ix) H3 { s3 with heap:=pushCells (s3.heap.push { cls:=.type "dict",data:=.dict #[] }) cs.names } :=
    I3.compStartMC S h2 h3 hf3 hfs3
  have cf:=(I3.cfs (cs:=cs) h2).2;have kp2:∀b o,s.heap.get? b=some o->(pushCells (s3.heap.push { cls:=.type "dict",data:=.dict #[] }) cs.names).get? b=some o:=fun b o e=>pushCells_keeps _ _ _ _ (Heap.get?_push_of_some _ (by rw[<- eh];exact Heap.get?_push_of_some _ e));have st4:tn 0 (pushCells (s3.heap.push { cls:=.type "dict",data:=.dict #[] }) cs.names):=T.keep _ _ _ st fun b hb o e=>kp2 b o e;obtain⟨W,⟨m0,w0⟩,turn⟩:=go s.heap.objs.size nacc;rw[hH3] at w0;have stat:∀{H':Hp},(∀b∈fp,H' b=none)->∀b∈fp,jgi (jaP X N' cs cl s3 H3 fp) [] H' b:=fun hn b hb =>
    ⟨hn b hb,xax (hfs3 b hb),fun hs=>by
      rcases xav.mp (I.stkSub b hs) with z | z
      . exact (hf b hb).2.1 z
      . exact (hf b hb).2.2.1 z,.inl hb,fun y c e=>by
        rcases cf y c e with z | ⟨_,z,_⟩
        . exact (hf b hb).2.2.2.2.1 y c z
        . exact Nat.ne_of_gt (xam (xbF (hfs3 b hb)) z),fun p hp=>absurd (show p∈([]:List (Addr × Obj)) from hp) (by simp)⟩
  have es:s3.heap.objs.size=s.heap.objs.size+1:=by rw[<- eh,Heap.size_push]
  have loop:codeAny (model X.prog X.w) X.A (.compLoop (.ListComp elt [⟨tg,iter,ifs,0⟩] cs pos) 0 (.ref it) (.ref s.heap.objs.size) (jaP X N' cs cl s3 H3 fp).env)
      (RR (.ref s.heap.objs.size) s3.heap.objs.size) { s3 with heap:=pushCells (s3.heap.push { cls:=.type "dict",data:=.dict #[] }) cs.names }:=by
    refine jfs (fun n s'=>∃i v0 H' xs,v0.length=xs0.length/\Inv (jaP X N' cs cl s3 H3 fp) [] (v0++jaM σ ix) H' s'/\tn i s'.heap/\(∀b∈fp,H' b=none)/\W i n xs H') ?_ m0
      ⟨0,List.replicate xs0.length none,H3,[],xa9,I4,st4,fun b hb=>(hf3 b hb).1,w0⟩
    rintro n s5 ⟨i,v0,H5,xs,l5,I5,st5,fr5,w5⟩;rcases turn i n xs H5 w5 with ⟨stop,q⟩ | ⟨hgo,Nx,Nn,hNx,hNn,step⟩
    . refine thn (T.done (jaP X N' cs cl s3 H3 fp) rfl rfl rfl hc i [] s5 _ H5 _ I5 (stat fr5) st5 stop) fun r' s6 ⟨hr,I6⟩=>?_
      subst hr;have u:Un (frs X.stack) fp H H5 s.heap s6.heap:=by
        refine Un.trans (H1:=H3) (h1:=s3.heap) ?_ I6.base;rw[<- hH3,<- eh];exact Un.laid (fun _ _ q=>Heap.get?_push_of_some _ q) (xag _) nacc
      have e3:s3.os=s.os:=by rw[<- hs3]
      have os6:s6.os=s.os:=I6.os.trans e3;have J6:Inv X pins σ H5 s6:=I.call' os6 u I6.hok I6.bare fun b hb=>⟨(hf b hb).2.2.2.1,(hf b hb).2.1,(hf b hb).2.2.2.2.1,(hf b hb).2.2.2.2.2⟩;obtain⟨m6,n6,_⟩:=I6.loc;exact fin _ _ s6 H5 m6 J6 (I.fpOk (by rw[es];exact Nat.le_succ _) I6.free) n6 q
    . refine thn (T.item (jaP X N' cs cl s3 H3 fp) rfl rfl rfl hc i [] s5 _ H5 _ I5 (stat fr5) st5 hgo) fun r' s6 ⟨u,hr,h6⟩=>?_
      subst hr;refine thn h6 fun _ s7 ⟨y,H7,I7,r7,y7,st7,fr7⟩=>?_;have I7':=I7.pinned (stat fr7) (T.obj _ _ st7);refine wpAny_mono (hg s3 H3 _ s7 _ H7 y u _ I7' r7 (step v0 y H7 l5 y7)) (fun _ s8 ⟨σ8,H8,I8,⟨v8,l8,e8⟩,q8⟩=>?_) fun _ _ z=>z.elim;subst e8;have back:∀{s9:Shared} {H9:Hp} {m':Nat} {xs':List V},Inv (jaP X N' cs cl s3 H3 fp) ([]++jfj fp s7.heap) (v8++jaM σ ix) H9 s9->m'<n->W (i+1) m' xs' H9 ->
          ∃m,m<n/\∃i v0 H' xs,v0.length=xs0.length/\Inv (jaP X N' cs cl s3 H3 fp) [] (v0++jaM σ ix) H' s9/\tn i s9.heap/\(∀b∈fp,H' b=none)/\W i m xs H':=fun {s9 H9 m' xs'} I9 hm w9 =>
        ⟨m',hm,i+1,v8,H9,xs',l8,I9.unpinned,T.keep _ _ _ st7 fun b hb o e=>(I9.pin (b,o) (xaB _ (xaB _ (jcE hb e)))).1,fun b hb=>by
          obtain⟨o,e,d⟩:=T.obj _ _ st7 b hb;exact (I9.pin (b,o) (xaB _ (xaB _ (jcE hb e)))).2.1,w9⟩
      refine thn (ht s3 H3 _ _ s8 _ H8 _ (fun _ _ z=>z.elim) I8 q8) fun b s9 ⟨H9,I9,q9⟩=>?_;cases b with
      | false =>
        rw[if_neg xao] at q9 |-
        obtain⟨m',hm,w9⟩:=hNn H9 q9;exact back I9 hm w9
      | true =>
        rw[if_pos rfl] at q9 |-
        refine wpAny_mono (he s3 H3 _ s9 _ H9 _ I9 q9) (fun u2 s10 ⟨y2,H10,I10,r10,q10⟩=>?_) fun _ _ z=>z.elim;obtain⟨a10,z10,m',hm,w10⟩:=hNx y2 H10 q10;refine wpAny_mono (jba (X:=jaP X N' cs cl s3 H3 fp) _ s10 _ H10 (.ref s.heap.objs.size) [y2] (.ref s.heap.objs.size) [u2] (fun _ H'=>H'=upd H10 s.heap.objs.size (.lst (xs++[y2]))) I10 rfl (.cons r10 .nil) ⟨_,xs,y2,rfl,rfl,a10,z10,rfl⟩) (fun _ s11 ⟨_,H11,I11,_,e11⟩=>?_) fun _ _ z=>z.elim;subst e11;exact back I11 hm w10
  subst hs3;exact codeAny_compStart_list loop (T.self X.A 0 _ _ _ st4 loop)
end
section
variable {X:Cx} {N' r xs0:List Str} {ix:List Nat} {cs:Scope} {tg iter elt:Expr} {ifs:List Expr} {pos:Pos} {wi:TI} {g:TG} {tt:TT} {te:TE}
theorem CompScopeMC.clos {sc:Scope} {N:List Str} (S:CompScopeMC N sc N' ix xs0 r cs) {env:Env} (he:env.scope=sc) (has:∀y,(env.kindOf y=some .cell\/env.kindOf y=some .free)->∃c,env.cells.lookup y=some c) :
  ∃cl:List (Str × Addr),closureFor cs env=pure cl/\(∀y c,cl.lookup y=some c->env.cells.lookup y=some c)/\(∀y,(y,NameKind.free)∈cs.names->∃c,cl.lookup y=some c) :=
 jdi fun y hy hk=>has y.1 (by
  subst he;exact S.fr y hy hk)
theorem jfA (hc:X.calm=true) (S:CompScopeMC X.N X.env.scope N' ix xs0 r cs) (hi:PI X tg iter wi)
  (hg:∀cl s3 H3 fp,PG (jaP X N' cs cl s3 H3 fp) tg g) (ht:∀cl s3 H3 fp,PTs (jaP X N' cs cl s3 H3 fp) ifs tt) (he:∀cl s3 H3 fp,PE (jaP X N' cs cl s3 H3 fp) elt te)
  (hs:∀x,foldedSetIterable iter X.env x=pure x:=by intro _;rfl):PE X (.ListComp elt [⟨tg,iter,ifs,0⟩] cs pos) (jkx wi ix xs0.length g tt te):=by
 intro pins s σ H Q I h;obtain⟨cl,c1,c2,c3⟩:=S.clos rfl I.ok.has;rw[eval_ListComp];refine wpAny_comprehension_free (use:=none) rfl hs c1 S.kind S.hnames (thn (hi pins s σ H _ I h) fun v s1 h1=>thn h1 fun itv s2 h2=>?_);obtain⟨it,fp,tn,J,H2,e,I2,T,st2,f2,R⟩:=h2;subst e;refine jcU (RR:=fun acc C=>compPost (model X.prog X.w) X.A X.xe none (EP X pins σ Q) acc C) I2 hc S c2 c3 T st2 f2 (fun s3 H3=>hg cl s3 H3 fp) (fun s3 H3=>ht cl s3 H3 fp) (fun s3 H3=>he cl s3 H3 fp) R ?_;intro acc C s' H' m I' fC hn q;refine⟨m,hn,fun h' hb=>⟨.ref acc,H',?_,rfl,q⟩⟩;exact I'.turned (t':=s'.toks) (fun b o hne e=>(hb.2 b hne).trans e) fC.1 fC.2.1 fC.2.2.2.1 fC.2.2.2.2.1 fC.2.2.2.2.2
end
theorem CompScopeC.mc {N:List Str} {sc:Scope} {N':List Str} {ix:List Nat} {x:Str} {r:List Str} {cs:Scope} (S:CompScopeC N sc N' ix x r cs):CompScopeMC N sc N' ix [x] r cs:=⟨S.eq,S.kind,S.hown,S.hnames,S.nd,S.fr,S.ixs⟩
theorem CompGo.m1 {J:It} {ρ:St} {g:TG} {tt:TT} {te:TE} {acc:Addr} {Z:Hp->Prop} {H1:Hp} (h:CompGo J ρ g tt te acc Z H1):jdk J [("":Str)].length ρ g tt te acc Z H1:=by
 obtain⟨W,h0,hs⟩:=h;refine⟨W,h0,fun i m xs H w=>?_⟩;rcases hs i m xs H w with h | ⟨hg,Nx,Nn,h1,h2,step⟩
 ·exact .inl h
 ·refine .inr ⟨hg,Nx,Nn,h1,h2,fun v0 x H' l0 y=>?_⟩;obtain⟨a,rfl⟩:=List.length_eq_one_iff.mp l0;have e:(fun (σ2:St) (H2:Hp)=>(∃v,σ2=v::ρ)/\tt σ2 H2 fun b H3=>if b=true then te σ2 H3 Nx else Nn H3)=fun σ2 H2=>(∃v:St,v.length=[("":Str)].length/\σ2=v++ρ)/\tt σ2 H2 fun b H3=>if b=true then te σ2 H3 Nx else Nn H3:=by
   funext σ2 H2
   refine congrArg (·/\_) (propext ⟨fun ⟨v,e⟩=>⟨[v],rfl,e⟩,fun ⟨v,l,e⟩=>?_⟩);obtain⟨b,rfl⟩:=List.length_eq_one_iff.mp l;exact⟨b,e⟩
  have:=step a x H' y;rw[e] at this;exact this
section
variable {X:Cx} {N' r:List Str} {ix:List Nat} {x:Str} {cs:Scope} {tg iter elt:Expr} {ifs:List Expr} {pos:Pos} {wi:TI} {g:TG} {tt:TT} {te:TE}
theorem ja1 (hc:X.calm=true) (S:CompScopeC X.N X.env.scope N' ix x r cs) (hi:PI X tg iter wi)
  (hg:∀cl s3 H3 fp,PG (jaP X N' cs cl s3 H3 fp) tg g) (ht:∀cl s3 H3 fp,PTs (jaP X N' cs cl s3 H3 fp) ifs tt) (he:∀cl s3 H3 fp,PE (jaP X N' cs cl s3 H3 fp) elt te)
  (hs:∀x,foldedSetIterable iter X.env x=pure x:=by intro _;rfl):PE X (.ListComp elt [⟨tg,iter,ifs,0⟩] cs pos) (jft wi ix g tt te):=by
 intro pins s σ H Q I h;obtain⟨cl,c1,c2,c3⟩:=S.mc.clos rfl I.ok.has;rw[eval_ListComp];refine wpAny_comprehension_free (use:=none) rfl hs c1 S.kind S.hnames (thn (hi pins s σ H _ I h) fun v s1 h1=>thn h1 fun itv s2 h2=>?_);obtain⟨it,fp,tn,J,H2,e,I2,T,st2,f2,R⟩:=h2;subst e;refine jcU (RR:=fun acc C=>compPost (model X.prog X.w) X.A X.xe none (EP X pins σ Q) acc C) I2 hc S.mc c2 c3 T st2 f2 (fun s3 H3=>hg cl s3 H3 fp) (fun s3 H3=>ht cl s3 H3 fp) (fun s3 H3=>he cl s3 H3 fp) (fun acc h=>(R acc h).m1) ?_;intro acc C s' H' m I' fC hn q;refine⟨m,hn,fun h' hb=>⟨.ref acc,H',?_,rfl,q⟩⟩;exact I'.turned (t':=s'.toks) (fun b o hne e=>(hb.2 b hne).trans e) fC.1 fC.2.1 fC.2.2.2.1 fC.2.2.2.2.1 fC.2.2.2.2.2
theorem jbr {i:Nat} {y:Str} {py spos:Pos} (hc:X.calm=true) (hN:X.N.Nodup) (hiN:X.N[i]?=some y) (hy:X.env.scope.names.lookup y=some .local) (S:CompScopeC X.N X.env.scope N' ix x r cs) (hi:PI X tg iter wi)
  (hg:∀cl s3 H3 fp,PG (jaP X N' cs cl s3 H3 fp) tg g) (ht:∀cl s3 H3 fp,PTs (jaP X N' cs cl s3 H3 fp) ifs tt) (he:∀cl s3 H3 fp,PE (jaP X N' cs cl s3 H3 fp) elt te)
  (hsw:swapsWith (.ListComp elt [⟨tg,iter,ifs,0⟩] cs pos) (some (.Name y py)) spos.line X.env=pure true:=by rfl)
  (hs:∀x,foldedSetIterable iter X.env x=pure x:=by intro _;rfl):PS X (.Assign [.Name y py] (.ListComp elt [⟨tg,iter,ifs,0⟩] cs pos) spos) (jkj (jft wi ix g tt te) (jbM i)):=by
 intro pins s σ H D I h;obtain⟨cl,c1,c2,c3⟩:=S.mc.clos rfl I.ok.has;rw[exec_Assign_Name_used _ _ _ _ hsw];refine wpAny_bind (wpAny_standAt (wpAny_bind ?_));show wpAny _ X.A (do let _ <- comprehension (.ListComp elt [⟨tg,iter,ifs,0⟩] cs pos) cs X.env _ (newList []) false (eval iter X.env) (some (assign (.Name y py) X.env))) _ _ s;refine wpAny_bind (wpAny_mono (wpAny_comprehension_free (use:=some (assign (.Name y py) X.env)) (Q:=fun _ s'=>SP X pins D .next s') rfl hs c1 S.kind S.hnames
  (thn (hi pins s σ H _ I h) fun v s1 h1=>thn h1 fun itv s2 h2=>?_)) (fun _ s' hq=>wpAny_pure (wpAny_pure hq)) fun _ _ e=>e)
 obtain⟨it,fp,tn,J,H2,e,I2,T,st2,f2,R⟩:=h2;subst e;refine jcU (RR:=fun acc C=>compPost (model X.prog X.w) X.A X.xe (some (assign (.Name y py) X.env)) (fun _ s'=>SP X pins D .next s') acc C) I2 hc S.mc c2 c3 T st2 f2 (fun s3 H3=>hg cl s3 H3 fp) (fun s3 H3=>ht cl s3 H3 fp) (fun s3 H3=>he cl s3 H3 fp) (fun acc h=>(R acc h).m1) ?_;intro acc C s' H' m I' fC hn q;show wpAny _ X.A (assign (.Name y py) X.env (.ref acc)) _ _ _;refine wpAny_assign_Name (jfg (v:=.ref acc) I' hN hiN (.inl hy) rfl (fun s'' I'' ⟨a,hb,ha⟩=>?_) (.inr hy));have hCa:C≠a:=fun z=>by
  rcases ha with ha | ha
  ·exact fC.2.1 (z.trans ha)
  ·exact fC.2.2.2.2.1 y a ha z.symm
 refine⟨m,hn.sameBut hb hCa,fun h' hb'=>⟨_,H',?_,q⟩⟩;exact I''.turned (t':=s''.toks) (fun b o hne e=>(hb'.2 b hne).trans e) fC.1 fC.2.1 fC.2.2.2.1 fC.2.2.2.2.1 fC.2.2.2.2.2
end
section
open PySem.AutoSeq1 (wpAny_loadPart')
open PySem.MeetsSeq3 (plain_eq_loop entry_eq_loop)
end
section
variable {X:Cx}
def rCatE (K:PySem.W.Frag):R2:=fun x y H Q=>∃a b xs ys,x=.ref a/\y=.ref b/\SqT K H a xs/\SqT K H b ys/\ys≠[]/\xs.length+ys.length<=sizeLine /\
 (xs=[]->Q (.ref b) H)/\(xs≠[]->∀p,H p=none->Q (.ref p) (upd H p (.tup (xs++ys))))
theorem jlA:OpR X (binaryOp .Add) (rCatE X.K):=by
 intro pins s σ H x y v u Q I rx ry h;obtain⟨a,b,xs,ys,rfl,rfl,ha,hb,hy,hz,q1,q2⟩:=h;by_cases hx:xs=[]
 ·cases rx;cases ry;obtain⟨its,r1,p1,_⟩:=I.tuple ha;obtain⟨its2,r2,p2,_⟩:=I.tuple hb;have e0:its=[]:=r1.nil_iff.mpr hx;obtain⟨⟨cls,dd,data,sl⟩,ho,hc,n,hd⟩:=id p1;obtain⟨⟨cls2,dd2,data2,sl2⟩,ho2,hc2,n2,hd2⟩:=id p2;simp only at hc hd hc2 hd2;subst hc hd hc2 hd2;exact concat_meets ⟨_,ho,rfl⟩ ⟨_,ho2,rfl⟩ noFill_tuple_add seq_tuple_add PySem.F.slot_tuple_add PySem.F.entry_tuple_add (PySem.F.args_tuple_add_2 _ _)
   (tuple_addW0 a b its.toArray its2.toArray n n2 dd dd2 sl sl2 (by simp [e0])) ⟨ho,ho2,⟨.ref b,H,I,rfl,q1 hx⟩⟩
 ·exact jhS pins s σ H _ _ v u Q I rx ry ⟨a,b,xs,ys,rfl,rfl,ha,hb,hx,hz,fun z=>absurd z hy,fun _=>q2 hx⟩
def gOr (g1 g2:TG):TG:=fun v σ H Q=>g1 v σ H Q\/g2 v σ H Q
theorem pg_or {tg:Expr} {g1 g2:TG} (h1:PG X tg g1) (h2:PG X tg g2):PG X tg (gOr g1 g2):=by
 intro pins s σ H v u Q I r h;rcases h with h | h
 ·exact h1 pins s σ H v u Q I r h
 ·exact h2 pins s σ H v u Q I r h
end
end L2
namespace HT
open PySem PyProof.Rows
section
variable {prog:Program} {w:World} {A:Around} {E:Value->Shared->Prop} {s:Shared}
theorem getItem_tuple_all {t sl:Addr} {items:Array Value} {vl vu:Value} {lo hi:Option Int} {Q:Value->Shared->Prop} (ht:IsTup s.heap t items) (hs:s.heap.IsSliceOf sl vl vu .none) (pl:IsPart vl lo) (pu:IsPart vu hi)
  (hw:sIx items.size 0 lo=0/\sIx items.size items.size hi=items.size)
  (h:Q (.ref t) s)
  (hsz:items.size<=sizeLine):wpAny (model prog w) A (getItem (.ref t) (.ref sl)) Q E s:=by
 have hj:sIx items.size items.size hi<=items.size:=jkn _ _ (xag _) hi;obtain⟨os,hos,hcs,hds⟩:=id hs;have hTs:s.TypeIs (.ref sl) "slice":=⟨os,hos,hcs⟩;unfold getItem;try with_reducible refine wpAny_holding ?_
 first | refine wpAny_bind (wpAny_pure ?_) | skip
 refine wpAny_bind (wpAny_sequenceKey ht.typeIs (by decide) ?_);refine wpAny_bind (wpAny_callSpecial?_slot (name:=Str.ofString "__getitem__") ht.typeIs PyProof.Rows.slot_tuple_getitem
  (wpAny_call_entry PyProof.Rows.slot_tuple_getitem ht.typeIs entry_tuple_getitem ?_ (args_tuple_getitem _ _)))
 show wpAny _ _ (Builtin.Tuple.tupleItemsOf (.ref t) >>= _) _ _ s;refine wpAny_bind (tupleItemsOf_ ht ?_);refine wpAny_bind (wpAny_typeOf hTs ?_);rw[if_pos (by decide)];refine wpAny_bind (jcc hs pl pu ?_);have hyes:((((sIx items.size 0 lo:Nat):Int)==0&&(1:Int)==1&&(sIx items.size items.size hi-sIx items.size 0 lo)==items.size)=true):=by
  rw[hw.1,hw.2,Nat.sub_zero];simp
 show wpAny _ _ (if (((sIx items.size 0 lo:Nat):Int)==0&&(1:Int)==1&&(sIx items.size items.size hi-sIx items.size 0 lo)==items.size)=true then _ else _) _ _ s;rw[if_pos hyes];unfold Builtin.Tuple.tupleIsExact;refine wpAny_bind (wpAny_bind (wpAny_typeOf ht.typeIs (wpAny_pure ?_)));rw[if_pos (by decide)]
 repeat (first | exact⟨_,rfl,wpAny_pure h⟩ | wp_step)
end
end HT
namespace L2
open PySem PySem.Spec PyProof.Rows
section
variable {X:Cx}
def jnc (K:PySem.W.Frag):V->Option Int->Option Int->Hp->VK->Prop:=fun x lo hi H Q=>∃a xs,x=.ref a/\SqT K H a xs/\(HT.sIx xs.length 0 lo=0/\HT.sIx xs.length xs.length hi=xs.length)/\Q (.ref a) H
theorem jlB:SlR X (jnc X.K):=by
 intro pins s σ H x v vl vu lo hi sl Q I rx hs pl pu h;obtain⟨a,xs,rfl,hx,hw,q⟩:=h;cases rx;obtain⟨its,r,ht,hz⟩:=I.tuple hx;have hlen:its.toArray.size=xs.length:=by rw[xaj];exact r.length.symm
 refine⟨"tuple",_,PyProof.Rows.slot_tuple_getitem.lookup,ht.typeIs,?_⟩;exact HT.getItem_tuple_all ht hs pl pu (by rw[hlen];exact hw) ⟨.ref a,H,I,rfl,q⟩ (by rw[hlen];exact hz)
theorem jnd:SlR X (fun x l u H Q=>(rSlL X.K x l u H Q\/rSlT X.K x l u H Q)\/jnc X.K x l u H Q):=(sl_list.or jko).or jlB
end
section
variable {κ:Type} [DecidableEq κ]
def jia (kvs:List (κ × V)) (k:κ):Option V:=(kvs.find? fun kv=>decide (kv.1=k)).map (·.2)
def jhs (kvs:List (κ × V)) (k:κ) (v:V):List (κ × V) :=
 if (kvs.any fun kv=>decide (kv.1=k))=true then kvs.map (fun kv=>if kv.1=k then (kv.1,v) else kv) else kvs++[(k,v)]
def jne (kvs:List (κ × V)) (k:κ):List (κ × V):=kvs.filter fun kv=>decide (kv.1≠k)
theorem jeS {p:κ × V} {r:List (κ × V)} {k:κ} (e:p.1=k):jia (p::r) k=some p.2:=by simp [jia,xb5,e]
theorem jdH {p:κ × V} {r:List (κ × V)} {k:κ} (e:¬p.1=k):jia (p::r) k=jia r k:=by simp [jia,xb5,e]
theorem jgw (k:κ):∀kvs:List (κ × V),(kvs.any fun kv=>decide (kv.1=k))=(jia kvs k).isSome
  | []=>rfl
  | p :: r => by
    rw[xb4];by_cases e:p.1=k
    . simp only[jeS e,decide_eq_true e,Bool.true_or,Option.isSome_some]
    . rw[jdH e,decide_eq_false e,Bool.false_or];exact jgw k r
theorem jf3 (kvs:List (κ × V)) (k:κ) (v:V):(jhs kvs k v).length<=kvs.length+1:=by
 unfold jhs;split
 ·rw[xaa];omega
 ·rw[xad,xaq,List.length_nil];omega
theorem jjF {kvs:List (κ × V)} {k:κ} (v:V) (h:jia kvs k=none):jhs kvs k v=kvs++[(k,v)]:=by
 unfold jhs;rw[jgw,h];exact if_neg (by decide)
theorem RelO.getD {o:Option V} {u:Option Value} {d:V} {d':Value} (r:RelO o u) (rd:RelV d d'):RelV (o.getD d) (u.getD d'):=by
  cases o with
  | none => cases u with
    | none=>exact rd
    | some _=>exact (show False from r).elim
  | some _ => cases u with
    | none=>exact (show False from r).elim
    | some _=>exact r
theorem KV.val {kvs:List (κ × V)} {vs:List (κ × Value)} (r:KV kvs vs) (k:κ):RelO (jia kvs k) (valueAt vs k):=by
  unfold KV at r;induction r with
  | nil=>exact True.intro
  | @cons p q ps qs h t ih =>
    obtain⟨h1,h2⟩:=h;by_cases e:p.1=k
    . have e':q.1=k:=h1.symm.trans e
      have b:valueAt (q::qs) k=some q.2:=by simp [valueAt,xb5,e']
      rw[jeS e,b];exact h2
    . have e':¬q.1=k:=fun z=>e (h1.trans z)
      have b:valueAt (q::qs) k=valueAt qs k:=by simp [valueAt,xb5,e']
      rw[jdH e,b];exact ih
theorem KV.any {kvs:List (κ × V)} {vs:List (κ × Value)} (r:KV kvs vs) (k:κ):(kvs.any fun kv=>decide (kv.1=k))=vs.any fun kv=>decide (kv.1=k):=by
 unfold KV at r;induction r with
 | nil=>rfl
 | cons h t ih=>rw[xb4,xb4,ih,h.1]
theorem KV.repl {kvs:List (κ × V)} {vs:List (κ × Value)} (r:KV kvs vs) (k:κ) {y:V} {u:Value} (ry:RelV y u) :
    KV (kvs.map fun kv=>if kv.1=k then (kv.1,y) else kv) (vs.map fun kv=>if kv.1=k then (kv.1,u) else kv):=by
  unfold KV at r |-
  induction r with
  | nil=>exact .nil
  | @cons p q ps qs h t ih =>
    rw[xaw,xaw];refine .cons ?_ ih;obtain⟨h1,h2⟩:=h;by_cases e:p.1=k
    . rw[if_pos e,if_pos (h1.symm.trans e)];exact⟨h1,ry⟩
    . rw[if_neg e,if_neg (fun z=>e (h1.trans z))];exact⟨h1,h2⟩
theorem KV.put {kvs:List (κ × V)} {vs:List (κ × Value)} (r:KV kvs vs) (k:κ) {y:V} {u:Value} (ry:RelV y u):KV (jhs kvs k y) (stored vs k u):=by
 unfold jhs stored;rw[r.any k];by_cases e:(vs.any fun kv=>decide (kv.1=k))=true
 ·rw[if_pos e,if_pos e];exact r.repl k ry
 ·rw[if_neg e,if_neg e];exact Paired.snoc r ⟨rfl,ry⟩
theorem KV.drop {kvs:List (κ × V)} {vs:List (κ × Value)} (r:KV kvs vs) (k:κ):KV (jne kvs k) (without vs k):=by
  unfold KV at r |-
  unfold jne without;induction r with
  | nil=>exact .nil
  | @cons p q ps qs h t ih =>
    obtain⟨h1,h2⟩:=h;rw[xaR,xaR];by_cases e:p.1=k
    . have a:¬decide (p.1≠k)=true:=by simp [e]
      have b:¬decide (q.1≠k)=true:=by simp [h1.symm.trans e]
      rw[if_neg a,if_neg b];exact ih
    . have e':¬q.1=k:=fun z=>e (h1.trans z)
      have a:decide (p.1≠k)=true:=by simp [e]
      have b:decide (q.1≠k)=true:=by simp [e']
      rw[if_pos a,if_pos b];exact .cons ⟨h1,h2⟩ ih
theorem KV.keys {kvs:List (κ × V)} {vs:List (κ × Value)} (r:KV kvs vs):kvs.map (·.1)=vs.map (·.1):=by
 unfold KV at r;induction r with
 | nil=>rfl
 | cons h t ih=>rw[xaw,xaw,ih,h.1]
theorem KV.length {kvs:List (κ × V)} {vs:List (κ × Value)} (r:KV kvs vs):kvs.length=vs.length:=Paired.length r
end
theorem jnf {P:Program} {w:World} {k:Key} {u:Value} (r:RelV (kV k) u):(jbg P w).is k u=true:=by
 cases k with
 | inl i=>obtain⟨t,e⟩:=(show ∃t,u=Value.int i t from r);subst e;exact jfU P w i t
 | inr x=>obtain⟨t,e⟩:=(show ∃t,u=Value.str x t from r);subst e;exact jfV P w x t
theorem jbU:entryFor table "dict.update.loop"=some Builtin.«dict.update.loop»:=entryFor_of_tree (id (Eq.refl (entriesT.find (code "dict.update.loop"))))
theorem ja5:plainId "dict.update.loop"=true:=by decide +kernel
def jgx (P:Program) (w:World) (h:Heap) (v:Value) (q:Key × Value):Prop:=∃(a:Addr) (o:Obj) (u:Value) (n:Nat),v=.ref a/\h.get? a=some o/\o.cls=.type "tuple"/\o.data=.seq #[u,q.2] n/\(jbg P w).is q.1 u=true
theorem jdl {prog:Program} {w:World} {A:Around} {R:Result->Shared->Prop} {I l S:Addr} {items:Array Value} (hh:A.in1.handled=none) (lI:l≠I) (SI:S≠I) (Sl:S≠l) (hz:items.size<=sizeLine) (res:Value):∀(k i:Nat) (s:Shared) (kvs qs:List (Key × Value)) (z:Int) (tok:Tok),items.size-i=k->i<=items.size->s.heap.IsListIter I l i->s.heap.IsList l items->s.heap.DictOf (jbg prog w) S kvs->kvs.length<=i->qs.length=items.size-i->(∀(j:Nat) (v:Value),items[i+j]?=some v->v≠.ref S/\v≠.ref I/\∃q,qs[j]?=some q/\jgx prog w s.heap v q) ->
    (∀(h':Heap) (tk:Nat),(∀b o,b≠S->b≠I->s.heap.get? b=some o->h'.get? b=some o)->h'.DictOf (jbg prog w) S (qs.foldl (fun acc q=>stored acc q.1 q.2) kvs)->R (.ok (.ret res)) { s with heap:=h',toks:=tk }) ->
    codeAny (model prog w) A (.builtin "dict.update.loop" { pos:=[.ref S,.ref I,.int z tok,res] }) R s:=by
  intro k;have W:=Walks.list (prog:=prog) (w:=w) (A:=A.in1) hh I l lI items;induction k with
  | zero =>
    intro i s kvs qs z tok hk hi hI hl hS hn hq hp q;obtain rfl:i=items.size:=by omega
    obtain rfl:qs=[]:=xbh.mp (by omega);refine codeAny_builtin jbU ?_;rw[Around.under_plainId ja5];unfold Builtin.«dict.update.loop»;refine wpAny_bind (W.done s _ _ ⟨hI,hl⟩ fun h' tk hm=>?_);show wpAny _ _ (Builtin.Dict.addKeywords S [] >>= fun _=>ret res) _ _ _;unfold Builtin.Dict.addKeywords;refine wpAny_bind (wpAny_bind ?_);rw[List.forIn_nil];exact wpAny_pure (wpAny_pure (wpAny_pure (q h' tk (fun b o _ hb e=>hm b o (by simpa using hb) e) (let ⟨o,es,ep,h1,r⟩:=hS;⟨o,es,ep,hm S o (by simpa using SI) h1,r⟩))))
  | succ k ih =>
    intro i s kvs qs z tok hk hi hI hl hS hn hq hp q;refine codeAny_builtin jbU ?_;rw[Around.under_plainId ja5];unfold Builtin.«dict.update.loop»;refine wpAny_bind (W.item i s _ _ (by omega) ⟨hI,hl⟩ fun v h' tk hv hst hm=>?_);obtain⟨vS,vI,q1,hq1,a,o,u,n,rfl,ho,hc,hd,hk'⟩:=hp 0 v hv;obtain⟨qs',rfl⟩:∃qs',qs=q1::qs':=by
      cases qs with
      | nil=>cases hq1
      | cons x xs=>cases hq1;exact⟨xs,rfl⟩
    have hS':h'.DictOf (jbg prog w) S kvs:=let ⟨o,es,ep,h1,r⟩:=hS;⟨o,es,ep,hm S o (by simpa using SI) h1,r⟩;have ha':h'.get? a=some o:=hm a o (by simpa using fun z=>vI (by rw[z])) ho;obtain⟨hst1,hst2⟩:=hst;refine wpAny_bind (wpAny_holding (wpAny_bind (wpAny_tryCatch ?_)));unfold Builtin.Dict.pairItems;refine wpAny_bind (wpAny_typeOf (T:="tuple") ⟨o,ha',hc⟩ ?_);rw[if_pos (by decide)];refine wpAny_bind (wpAny_seqItems ha' hd (wpAny_pure ?_));show wpAny _ _ (holding [u,q1.2] (dictSet S u q1.2)) _ _ _;refine wpAny_holding (wpAny_dictSet_pairs hk' hS' (fun h2 d2 sb=>?_) (by omega));have lst:=stored_length_le kvs q1.1 q1.2;rw[xaq] at hq;have k2:∀b o,b≠S->b≠I->s.heap.get? b=some o->h2.get? b=some o:=fun b o h1 h2' e=>(sb.2 b h1).trans (hm b o (by simpa using h2') e);refine wpAny_pure ⟨plainId_quiet ja5 _,ih (i+1) { s with heap:=h2,toks:=tk+1 } (stored kvs q1.1 q1.2) qs' (z+1) _ (by omega) (by omega) ?_ ?_ d2 (by omega) (by omega) (fun j v hj=>?_) (fun h3 tk3 k3 d3=>?_)⟩
    . obtain⟨o',e1,e2⟩:=hst1
      exact⟨o',(sb.2 I (Ne.symm SI)).trans e1,e2⟩
    . obtain⟨o',e1,e2⟩:=hst2
      exact⟨o',(sb.2 l (Ne.symm Sl)).trans e1,e2⟩
    . obtain⟨h1,h2',q2,e1,a2,o2,u2,n2,rfl,p2,p3,p4,p5⟩:=hp (j+1) v (by rw[show i+(j+1)=i+1+j by omega]; exact hj)
      exact⟨h1,h2',q2,e1,a2,o2,u2,n2,rfl,k2 _ _ (fun z=>h1 (by rw[z])) (fun z=>h2' (by rw[z])) p2,p3,p4,p5⟩
    . exact q h3 tk3 (fun b o h1 h2' e=>k3 b o h1 h2' (k2 b o h1 h2' e)) d3
theorem jhh {prog:Program} {w:World} {A:Around} {E:Value->Shared->Prop} {s:Shared} {a:Addr} {o:Obj} {xs:Array Value} {n:Nat} {Q:Option Value->Shared->Prop} (ho:s.heap.get? a=some o) (hc:o.cls=.type "list") (hd:o.data=.seq xs n) (hn:o.dict=none) (hA:A.handled=none) (h:∀(h':Heap) (tk:Nat),(∀b u,s.heap.get? b=some u->h'.get? b=some u)->Q none { s with heap:=h',toks:=tk }):wpAny (model prog w) A (getAttr? (.ref a) "keys") Q E s:=by
 obtain⟨c,dct,dat,sl⟩:=o;subst hc hd hn;have hT:∀x,Shared.TypeIs { s with toks:=x } (.ref a) "list":=fun x=>⟨_,ho,rfl⟩;have f3:=F.slot_list_getattribute.lookup;have f4:=F.slot_list_getattribute.bind (.ref a);unfold getAttr?;refine wpAny_bind ?_;unfold mkText;refine wpAny_bind (wpAny_fresh' (wpAny_pure ?_));unfold getAttrBy?;refine wpAny_bind (wpAny_attempt ?_);unfold getAttrBy;refine wpAny_holding (wpAny_bind (wpAny_typeOf (T:="list") (hT _) ?_));refine wpAny_bind (wpAny_of_eq f3 ?_);refine wpAny_ite_false rfl ?_;unfold getAttrByItsOwn hookBefore;refine wpAny_bind (wpAny_ite_false rfl (wpAny_pure ?_));refine wpAny_bind (wpAny_attempt (wpAny_holding ?_));unfold callGetattribute;refine wpAny_ite_false rfl ?_;unfold boundAndCalled;refine wpAny_bind (wpAny_of_eq f4 ?_);refine call_meets F.slot_list_getattribute (hT _) am_entry_list_getattribute (F.args_list_getattribute_2 _ _) (meets_getattribute_miss_list a xs n sl "keys" _ rfl rfl) ⟨ho,hA,fun h' tk e hx=>?_⟩;obtain⟨t,u,he⟩:=hx.there;have hE:Shared.TypeIs { s with heap:=h',toks:=tk } (.ref e) "AttributeError":=⟨_,he,rfl⟩;show wpAny _ _ (getattributeRaised _ _ _ _ _ _ _) _ _ _;unfold getattributeRaised;refine wpAny_bind (wpAny_isInstance hE sub_AttributeError ?_);rw[if_pos rfl];unfold hookBehind;refine wpAny_bind (wpAny_ite_false rfl (wpAny_of_eq am_list_getattr_none ?_));unfold hookOrError attributeErrorLeaves;dsimp only;rw[if_pos (by decide)];refine wpAny_bind (wpAny_throw ?_);refine wpAny_bind (wpAny_isInstance hE sub_AttributeError ?_);rw[if_pos rfl];exact wpAny_pure (h h' tk hx.keeps)
theorem jhi {prog:Program} {w:World} {A:Around} {R:Result->Shared->Prop} {s:Shared} {l S:Addr} {o:Obj} {items:Array Value} {n:Nat} {qs:List (Key × Value)} (hh:A.handled=none) (hS:s.heap.DictOf (jbg prog w) S []) (ho:s.heap.get? l=some o) (hc:o.cls=.type "list") (hd:o.data=.seq items n) (hn:o.dict=none) (Sl:S≠l) (hz:items.size<=sizeLine) (hq:qs.length=items.size) (hp:∀(j:Nat) (v:Value),items[j]?=some v->v≠.ref S/\∃q,qs[j]?=some q/\jgx prog w s.heap v q)
  (q:∀(h':Heap) (tk:Nat),(∀b o,b≠S->s.heap.get? b=some o->h'.get? b=some o)->h'.DictOf (jbg prog w) S (qs.foldl (fun acc q=>stored acc q.1 q.2) [])->R (.ok (.ret .none)) { s with heap:=h',toks:=tk }) :
  wpAny (model prog w) A.in1 (Builtin.«dict.__init__» { pos:=[.ref S,.ref l] })
   (fun fin s'=>match fin with | .done f=>R (.ok f) s' | .again c'=>c'.quiet=true/\codeAny (model prog w) A c' R s') (fun e s'=>R (.error e) s') s:=by
 unfold Builtin.«dict.__init__»;refine wpAny_bind ?_;unfold Builtin.Dict.selfAndRest;refine wpAny_bind (wpAny_notOrdered_dict hS.typeIs ?_);show wpAny _ _ (Builtin.Dict.addrOf (Value.ref S) >>= fun d=>pure (d,[Value.ref l])) _ _ _;unfold Builtin.Dict.addrOf;refine wpAny_bind (wpAny_pure (wpAny_pure ?_));show wpAny _ _ (Builtin.Dict.updateFrom "dict.__init__" S (Value.ref l) [] Value.none) _ _ _;unfold Builtin.Dict.updateFrom;have hT:s.TypeIs (.ref l) "list":=⟨o,ho,hc⟩;refine wpAny_bind (wpAny_typeOf hT ?_);dsimp only;rw[if_pos (by decide)];refine wpAny_bind (jhh ho hc hd hn hh fun h1 tk1 k1=>?_);rw[if_pos (by rfl)];refine wpAny_bind (wpAny_rule ?_);have hl1:h1.IsList l items:=⟨o,k1 _ _ ho,hc,n,hd⟩;refine wpAny_bind (wpAny_pyIter_list (s:={ s with heap:=h1,toks:=tk1 }) hl1 ?_);have lt:∀{b:Addr} {u:Obj},h1.get? b=some u->b≠h1.objs.size:=fun e=>xax (Heap.lt_size e);obtain⟨oS,eS,pS,hS1,rS⟩:=hS;have lS:=lt (k1 _ _ hS1);have ll:=lt (k1 _ _ ho);have kp:∀b u,s.heap.get? b=some u->(h1.push { cls:=Value.type "list_iterator",data:=Data.fields #[Value.ref l,Value.int 0 0] }).get? b=some u:=fun b u e=>Heap.get?_push_of_some _ (k1 _ _ e);refine wpAny_pure ⟨plainId_quiet ja5 _,?_⟩;refine jdl (I:=h1.objs.size) (l:=l) (S:=S) (items:=items) hh ll lS Sl hz .none items.size 0 { s with heap:=h1.push { cls:=Value.type "list_iterator",data:=Data.fields #[Value.ref l,Value.int 0 0] },toks:=tk1 } [] qs 0 0 rfl (xaQ _) ⟨_,Heap.get?_push_size _ rfl,rfl,rfl⟩ ⟨o,kp _ _ ho,hc,n,hd⟩ ⟨oS,eS,pS,kp _ _ hS1,rS⟩ (xaQ _) hq (fun j v hj=>?_) fun h2 tk2 k2 d2=>?_
 ·obtain⟨h1',q1,hq1,a,o1,u,m,rfl,p1,p2,p3,p4⟩:=hp j v (by simpa using hj);exact⟨h1',(fun z=>by cases z;exact lt (k1 _ _ p1) rfl),q1,hq1,a,o1,u,m,rfl,kp _ _ p1,p2,p3,p4⟩
 ·exact q h2 tk2 (fun b u h1' e=>k2 b u h1' (lt (k1 _ _ e)) (kp _ _ e)) d2
theorem jel {prog:Program} {w:World} {A:Around} {E:Value->Shared->Prop} {s:Shared} {l:Addr} {o:Obj} {items:Array Value} {n:Nat} {qs:List (Key × Value)} {Q:Value->Shared->Prop} (hh:A.handled=none) (ho:s.heap.get? l=some o) (hc:o.cls=.type "list") (hd:o.data=.seq items n) (hn:o.dict=none) (hz:items.size<=sizeLine) (hq:qs.length=items.size) (hp:∀(j:Nat) (v:Value),items[j]?=some v->∃q,qs[j]?=some q/\jgx prog w s.heap v q)
  (q:∀(h':Heap) (tk:Nat),(∀b o,s.heap.get? b=some o->h'.get? b=some o)->h'.DictOf (jbg prog w) s.heap.objs.size (qs.foldl (fun acc q=>stored acc q.1 q.2) [])->Q (.ref s.heap.objs.size) { s with heap:=h',toks:=tk }) :
  wpAny (model prog w) A (call (.type "dict") [.ref l]) Q E s:=by
 refine callType_codes F.kt_called_dict (F.kt_typeCall_dict_1 _) F.entry_dict_init (Q₁:=fun obj s₁=>obj=.ref s.heap.objs.size/\s₁={ s with heap:=s.heap.push { cls:=.type "dict",data:=.dict #[] } }) (kt_code_dict_new _ ⟨rfl,rfl⟩) ?_;rintro obj s₁ ⟨rfl,rfl⟩;have hnew:(s.heap.push { cls:=.type "dict",data:=.dict #[] }).DictOf (jbg prog w) s.heap.objs.size []:=Heap.DictOf.new s.heap;have lt:∀{b:Addr} {u:Obj},s.heap.get? b=some u->b≠s.heap.objs.size:=fun e=>xax (Heap.lt_size e);refine⟨Heap.DictOf.typeIs (s:={ s with heap:=s.heap.push { cls:=.type "dict",data:=.dict #[] } }) hnew,F.args_dict_init_2 _ _,?_⟩;refine jhi (A:=A.in1) (s:={ s with heap:=s.heap.push { cls:=.type "dict",data:=.dict #[] } }) (items:=items) (qs:=qs) hh hnew (Heap.get?_push_of_some _ ho) hc hd hn (Ne.symm (lt ho)) hz hq (fun j v hj=>?_) fun h' tk k d=>?_
 ·obtain⟨q1,hq1,a,o1,u,m,rfl,p1,p2,p3,p4⟩:=hp j v hj;exact⟨(fun z=>by cases z;exact lt p1 rfl),q1,hq1,a,o1,u,m,rfl,Heap.get?_push_of_some _ p1,p2,p3,p4⟩
 ·exact⟨rfl,q h' tk (fun b o e=>k b o (lt e) (Heap.get?_push_of_some _ e)) d⟩
section
variable {X:Cx} {pos:Pos}
theorem jng {pins:List (Addr × Obj)} {σ:St} {H:Hp} {s:Shared} {a:Addr} {kvs:List (Key × V)} (I:Inv X pins σ H s) (e:H a=some (.dK kvs)):kvs.length<=sizeLine/\(a==sysModules)=false/\∃vs,KV kvs vs/\s.heap.DictOf (jbg X.prog X.w) a vs:=I.hok a _ e
theorem Inv.big {pins:List (Addr × Obj)} {σ:St} {H:Hp} {s:Shared} (I:Inv X pins σ H s):sysModules<s.heap.objs.size:=by
 have h:mainGlobals<s.heap.objs.size:=(I.mod.glob.keeps I.bk).lt;exact Nat.lt_trans (by decide) h
def rIxD:R2:=fun x y H Q=>∃p kvs k v,x=.ref p/\y=kV k/\H p=some (.dK kvs)/\jia kvs k=some v/\Q v H
theorem jlC:IxR X rIxD:=by
 intro value slice pins s σ H x y v u Q I rx ry h hs;obtain⟨p,kvs,k,z,rfl,rfl,hp,he,q⟩:=h;cases rx;obtain⟨zl,hd,vs,rel,dd⟩:=jng I hp;obtain⟨w',hw,rw'⟩:=RelO.some_of (v:=z) (o:=valueAt vs k) (by rw[<- he];exact rel.val k);exact subscriptTail_builtinR (x:=w') dd.typeIs F.slot_dict_getitem.lookup (wpAny_getItem_of (Q:=fun r s'=>r=w'/\EP X pins σ Q r s') (jnf ry) dd.mapOf hw ⟨rfl,z,H,I.tok _,rw',q⟩) hs
theorem kV_of {P:Program} {w:World} {k:Key} {v:Value} (h:(jbg P w).is k v=true):RelV (kV k) v:=by
 rcases jaT h with ⟨i,t,rfl,rfl⟩ | ⟨x,t,rfl,rfl⟩
 ·exact⟨t,rfl⟩
 ·exact⟨t,rfl⟩
theorem jgy:∀{xs:List V} {us:List Value},xs.length=us.length->(∀(i:Nat) (x:V) (u:Value),xs[i]?=some x->us[i]?=some u->RelV x u)->Vals xs us
 | [],[],_,_=>.nil
 | [],_::_,e,_=>by cases e
 | _::_,[],e,_=>by cases e
 | x::xs,u::us,e,h=>.cons (h 0 x u rfl rfl) (jgy (by simpa using e) fun i x u h1 h2=>h (i+1) x u h1 h2)
theorem jem (hc:X.calm=true):CallR X (.type "list") (fun xs H Q=>∃p kvs,xs=[.ref p]/\H p=some (.dK kvs)/\∀l,H l=none->Q (.ref l) (upd H l (.lst (kvs.map fun q=>kV q.1)))):=by
 intro pins s σ H xs us Q I r h;obtain⟨p,kvs,rfl,hp,q⟩:=h;obtain⟨u,rfl,rx⟩:=jei r;cases rx;obtain⟨zl,hd,vs,rel,dd⟩:=jng I hp;obtain⟨ep,da⟩:=dd.dictAt;have hl:=rel.length;refine PySem.W.kdl_call (PySem.W.kdl_dict hd) (I.ok.hd hc) da (by omega) fun h' tk acc' c' k e' it=>?_;obtain⟨z1,z2⟩:=it;refine⟨.ref _,_,I.laid (t':=tk) (o:=.lst (kvs.map fun q=>kV q.1)) k (xag _) ⟨by rw[xaa];exact zl,acc'.toList,c',jgy ((xaa _).trans (hl.trans (z1.symm.trans (Array.length_toList ..).symm))) fun i x u h1 h2=>?_,e'⟩,rfl,q _ (I.hok.fresh (xag _))⟩;rw[xal] at h1;obtain⟨q1,hq1,rfl⟩:=xbA.mp h1;obtain⟨k2,x2,e2,e3⟩:=z2 i u (by simpa using h2);have ek:kvs.map (·.1)=vs.map (·.1):=rel.keys;have ek2:(kvs.map (·.1))[i]?=(vs.map (·.1))[i]?:=by rw[ek]
 rw[xal,xal,hq1,e2] at ek2;have ek3:q1.1=k2:=by simpa using ek2
 rw[ek3];exact kV_of e3
theorem jgz {P:Program} {w:World} {H:Hp} {h:Heap} (ok:HOk P w H h):∀{rs:List Addr} {its:List Value} {ps:List (Key × V)},Vals (rs.map V.ref) its->rs.length=ps.length->(∀(i:Nat) (r:Addr) (q:Key × V),rs[i]?=some r->ps[i]?=some q->H r=some (.tup [kV q.1,q.2]))->∃qs:List (Key × Value),KV ps qs/\qs.length=its.length/\∀(j:Nat) (v:Value),its[j]?=some v->∃q,qs[j]?=some q/\jgx P w h v q
  | [], its, ps, r, l, _ => by
    cases r;obtain rfl:ps=[]:=xbh.mp l.symm;exact⟨[],.nil,rfl,fun j v z=>by cases z⟩
  | a::rs,its,[],r,l,_=>by cases l
  | a :: rs, its, q :: ps, r, l, hp => by
    cases r with
    | @cons x u xs us r1 r2 =>
      cases r1;obtain⟨qs,h1,h2,h3⟩:=jgz ok r2 (by simpa using l) fun i r q e1 e2=>hp (i+1) r q e1 e2;obtain⟨_,it2,rv,o,ho,hc,n,hd⟩:=(show ObjOk P w H h a (.tup [kV q.1,q.2]) from ok a _ (hp 0 a q rfl rfl))
      match it2,rv with
      | _, .cons (b := u1) k1 (.cons (b := u2) k2 .nil) =>
        refine⟨(q.1,u2)::qs,.cons ⟨rfl,k2⟩ h1,by rw[xaq,xaq,h2],fun j v z=>?_⟩;cases j with
        | zero=>cases z;exact⟨_,rfl,a,o,u1,n,rfl,ho,hc,hd,jnf k1⟩
        | succ j=>exact h3 j v z
def ofK (ps:List (Key × V)):List (Key × V):=ps.foldl (fun acc q=>jhs acc q.1 q.2) []
theorem jib:∀{ps:List (Key × V)} {qs:List (Key × Value)} {kvs:List (Key × V)} {vs:List (Key × Value)},KV ps qs->KV kvs vs->KV (ps.foldl (fun acc q=>jhs acc q.1 q.2) kvs) (qs.foldl (fun acc q=>stored acc q.1 q.2) vs)
  | _,_,_,_,.nil,k=>k
  | _, _, _, _, .cons (a := p) (b := q) h t, k => by
    obtain⟨h1,h2⟩:=h;rw[xb6,xb6];refine jib t ?_;rw[<- h1];exact KV.put k p.1 h2
theorem jgA:∀(ps kvs:List (Key × V)),(ps.foldl (fun acc q=>jhs acc q.1 q.2) kvs).length<=kvs.length+ps.length
  | [],kvs=>xag _
  | p :: ps, kvs => by
    have h1:=jgA ps (jhs kvs p.1 p.2);have h2:=jf3 kvs p.1 p.2;rw[xb6,xaq];omega
theorem jdU (hc:X.calm=true):CallR X (.type "dict") (fun xs H Q=>∃(p:Addr) (rs:List Addr) (ps:List (Key × V)),xs=[.ref p]/\H p=some (.lst (rs.map V.ref))/\rs.length=ps.length/\(∀(i:Nat) (r:Addr) (q:Key × V),rs[i]?=some r->ps[i]?=some q->H r=some (.tup [kV q.1,q.2]))/\∀d,H d=none->Q (.ref d) (upd H d (.dK (ofK ps)))):=by
 intro pins s σ H xs us Q I r h;obtain⟨p,rs,ps,rfl,hp,hl,hq,q⟩:=h;obtain⟨u,rfl,rx⟩:=jei r;cases rx;obtain⟨its,n,rv,ho,hz⟩:=I.lst hp;obtain⟨qs,kv,lq,pq⟩:=jgz I.hok rv hl hq;have li:=rv.length;rw[xaa] at li hz;refine jel (items:=its.toArray) (qs:=qs) (I.ok.hd hc) ho rfl rfl rfl (by rw[xaj];omega) (by rw[xaj];exact lq) (fun j v hj=>pq j v (by simpa using hj)) fun h' tk k d=>?_;have ll:=jgA ps [];refine⟨.ref _,_,I.laid (t':=tk) (o:=.dK (ofK ps)) k (xag _) ⟨?_,beq_eq_false_iff_ne.mpr (Ne.symm (xax I.big)),_,jib kv .nil,d⟩,rfl,q _ (I.hok.fresh (xag _))⟩;show (ps.foldl (fun acc q=>jhs acc q.1 q.2) []).length<=sizeLine;rw[List.length_nil] at ll;omega
end
end L2
set_option maxHeartbeats 2000000
namespace My
def G (d:Int) (ns:List Int):Int:=ns.foldl (fun d n=>((Int.gcd d n:Nat):Int)) d
abbrev gl (ns:List Int):Int:=G 0 ns
theorem jfB (d n:Int) (r:List Int):G d (n::r)=G (Int.gcd d n:Nat) r:=rfl
theorem jnh (d:Int) (l:List Int) (n:Int):G d (l++[n])=(Int.gcd (G d l) n:Nat):=by
 unfold G;rw[xch];rfl
theorem jgB:∀(ns:List Int) (d:Int),0<=d->0<=G d ns
 | [],_,h=>h
 | n::r,d,_=>by rw[jfB];exact jgB r _ (by omega)
theorem jbc (ns:List Int):0<=gl ns:=jgB ns 0 (by omega)
theorem jni:∀(ns:List Int) (d:Int),G d ns ∣ d/\∀n∈ns,G d ns ∣ n
  | [],d=>⟨xca d,fun n h=>nomatch h⟩
  | m :: r, d => by
    obtain⟨h1,h2⟩:=jni r (Int.gcd d m:Nat);rw[jfB];refine⟨xbq h1 (xbo ..),fun n hn=>?_⟩;rcases xav.mp hn with rfl | hn
    . exact xbq h1 (xbk ..)
    . exact h2 n hn
variable {ns:List Int}
theorem jaQ {n:Int} (h:n∈ns):gl ns ∣ n:=(jni ns 0).2 n h
theorem jnj:∀(ns:List Int) (d k:Int),k ∣ d->(∀n∈ns,k ∣ n)->k ∣ G d ns
  | [],_,_,h,_=>h
  | m :: r, d, k, h, hn => by
    rw[jfB];refine jnj r _ k ?_ fun n h'=>hn n (xan _ h');have h2:=hn m xaX;exact xbw h h2
theorem jes {k:Int} (h:∀n∈ns,k ∣ n):k ∣ gl ns:=jnj ns 0 k (Int.dvd_zero k) h
theorem jlD {k:Int} (h0:0<=k) (h:k ∣ 1):k=1:=by
 exact Int.eq_one_of_dvd_one h0 h
theorem jnk (hg:gl ns≠0):gl (ns.map (· / gl ns))=1:=by
 have h0:=jbc ns;refine jlD (jbc _) ?_;have h1:∀n∈ns,gl (ns.map (· / gl ns))*gl ns ∣ n:=fun n hn=>by
  obtain⟨c,hc⟩:=jaQ (ns:=ns.map (· / gl ns)) (xaz.mpr ⟨n,hn,rfl⟩);refine⟨c,?_⟩;have e:n=n / gl ns*gl ns:=(xa1 (jaQ hn)).symm;rw[e,hc,xci,xa3 c,<- xci]
 obtain⟨c,hc⟩:=jes h1;refine⟨c,?_⟩;have h2:gl ns*1=gl ns*(gl (ns.map (· / gl ns))*c):=by
  rw[xbB,<- xci,xa3 (gl ns) (gl (ns.map (· / gl ns)))];exact hc
 exact Int.eq_of_mul_eq_mul_left hg h2
theorem jnl:∀ns:List Int,G 1 ns=1
  | []=>rfl
  | n :: r => by
    rw[jfB];have:Int.gcd 1 n=1:=by simp
    rw[this];exact jnl r
theorem jjG (d:Int) (a b:List Int):G d (a++b)=G (G d a) b:=by
 unfold G;exact xch
variable {n k i f j:Nat}
theorem jen (h:gl (ns.take i)=1):gl ns=1:=by
 have e:ns=ns.take i++ns.drop i:=(xba i ns).symm;rw[e];show G 0 _=1;rw[jjG];have h':G 0 (ns.take i)=1:=h;rw[h'];exact jnl _
theorem jfC {n:Int} (h:ns[i]?=some n):gl (ns.take (i+1))=(Int.gcd (gl (ns.take i)) n:Nat):=by
 rw[xaV,h];exact jnh 0 _ n
theorem jf4 (ns:List Int):ns.map (· / 1)=ns:=by
 induction ns with
 | nil=>rfl
 | cons a r ih=>rw[xaw,ih,Int.ediv_one]
theorem jjH (a b:Int) (ha:0<=a):Int.gcd b (a % b)=Int.gcd a b:=by
 have h1:(a % b).natAbs=a.natAbs % b.natAbs:=Int.natAbs_emod_of_nonneg ha b;rw[Int.gcd_eq_natAbs_gcd_natAbs,Int.gcd_eq_natAbs_gcd_natAbs,h1];rw[Nat.gcd_comm,Nat.gcd_comm a.natAbs,<- Nat.gcd_rec]
theorem jlE (a b:Int):Int.gcd (if a<0 then -a else a) (if b<0 then -b else b)=Int.gcd a b:=by
 split<;>split<;>simp [Int.gcd_neg,Int.neg_gcd]
theorem jhj (a b:Int):Int.gcd (if b>a then b else a) (if b<a then b else a)=Int.gcd a b:=by
 split<;>split
 ·omega
 ·exact Int.gcd_comm b a
 ·rfl
 ·have:a=b:=by omega
  rw[this]
variable {a g c d x y A B sg:Int}
theorem parts {b:Int} (ha:a∈ns) (hb:b∈ns):(a / gl ns)*b=a*(b / gl ns):=by
 have e1:a=a / gl ns*gl ns:=(xa1 (jaQ ha)).symm;have e2:b=b / gl ns*gl ns:=(xa1 (jaQ hb)).symm
 conv=>lhs;rhs;rw[e2]
 conv=>rhs;lhs;rw[e1]
 rw[xci,xa3 (gl ns)]
theorem jdw {n:Int} (h:n∈ns) (hn:n≠0):0<gl ns:=by
 have h0:=jbc ns;rcases Int.lt_or_eq_of_le h0 with h1 | h1
 ·exact h1
 ·obtain⟨c,hc⟩:=jaQ h;rw[<- h1,xaP] at hc;exact absurd hc hn
end My
namespace My
variable {a g c d x y A B sg:Int}
theorem jdV {n:Int} (h:g ∣ n) (hn:n≠0):n / g≠0:=fun z=>by
 have e:=xa1 h;rw[z,xaP] at e;exact hn e.symm
end My
local macro_rules | `(tactic| walk_at "rjs") => `(tactic| simp only [L2.jc2, L2.jmG, L2.jhB, L2.jkj, L2.jbM, L2.jli, L2.tC, L2.tOp, L2.tUn, L2.jhK, L2.tB, L2.jmX, L2.jmW, L2.jjn, L2.jhC, L2.jgh, L2.jjm, L2.jmS, L2.tOr, L2.jmT, L2.jhz, L2.jmU, L2.jhA, L2.jha, L2.tCB, L2.jej, L2.jjq, L2.jlq, L2.jkm, L2.jmZ, L2.jm5, L2.tBM, L2.tyV, L2.jmK, L2.gk, and_self, L2.tSl, L2.jdQ, L2.jhR, L2.jlj, L2.jfX, L2.jmH, L2.jhr, and_assoc, L2.rI, L2.rI0, L2.rU, L2.rEq, L2.rNe, L2.jmI, List.map_cons, List.map_nil, List.length_cons, List.length_nil, List.replicate_succ, List.replicate_zero, List.cons_append, List.nil_append, List.append_nil, Nat.reduceSub, Nat.reduceAdd, Nat.sub_self, List.set_cons_zero, List.set_cons_succ, List.getElem?_cons_zero, List.getElem?_cons_succ, Option.some.injEq, exists_eq_left', exists_eq_left, L2.V.int.injEq, L2.V.bl.injEq, L2.V.ref.injEq, L2.V.ty.injEq, List.cons.injEq, exists_and_left, and_true, true_and, reduceCtorEq, false_and, and_false, exists_false, or_false, false_or, L2.jaM, Option.getD_some, Bool.true_eq_false, decide_eq_true_eq, Bool.not_eq_true', decide_eq_false_iff_not, decide_not, Bool.false_eq_true, if_true, if_false, ite_not])
local macro_rules | `(tactic| walk_at "rj") => `(tactic| first | ((dsimp only [L2.jc2, L2.jmG, L2.jhB, L2.jkj, L2.jbM, L2.jli, L2.tC, L2.tOp, L2.tUn, L2.jhK, L2.tB, L2.jmX, L2.jmW, L2.jjn, L2.jhC, L2.jgh, L2.jjm, L2.jmS, L2.tOr, L2.jmT, L2.jhz, L2.jmU, L2.jhA, L2.jha, L2.tCB, L2.jej, L2.jjq, L2.jlq, L2.jkm, L2.jmZ, L2.jm5, L2.tBM, L2.tyV, L2.jmK, L2.gk, L2.tSl, L2.jdQ, L2.jhR, L2.jlj, L2.jfX, L2.jmH, L2.jhr, L2.rI, L2.rI0, L2.rU, L2.rEq, L2.rNe, L2.jmI, L2.jaM, List.map_cons, List.map_nil, List.length_cons, List.length_nil, List.replicate_succ, List.replicate_zero, List.cons_append, List.nil_append, List.set_cons_zero, List.set_cons_succ, List.getElem?_cons_zero, List.getElem?_cons_succ, Option.getD_some, Nat.reduceSub, Nat.reduceAdd]); (try walk_at "rjs")) | walk_at "rjs")
local macro_rules | `(tactic| walk_at "go") => `(tactic| repeat (first | refine L2.ixT (by assumption) rfl ?_ | refine L2.ixL (by assumption) rfl ?_ | refine And.intro (by assumption) ?_ | walk_at "rj"))
local macro_rules | `(tactic| walk_at "ris") => `(tactic| simp only [L2.jc2, L2.jmG, L2.jhB, L2.jkj, L2.jbM, L2.jli, L2.tC, L2.tOp, L2.tUn, L2.jhK, L2.tB, L2.jmX, L2.jmW, L2.jjn, L2.jhC, L2.jgh, L2.jjm, L2.jmS, L2.tOr, L2.jmT, L2.jhz, L2.jmU, L2.jhA, L2.jha, L2.tCB, L2.jej, L2.jjq, L2.jlq, L2.jkm, L2.jmZ, L2.jm5, L2.tBM, L2.tyV, L2.jmK, L2.gk, and_self, L2.tSl, L2.jdQ, L2.jhR, L2.jlj, L2.jfX, L2.jmH, L2.jhr, and_assoc, L2.rI, L2.rI0, L2.rU, L2.rEq, L2.rNe, L2.jmI, List.map_cons, List.map_nil, List.length_cons, List.length_nil, List.replicate_succ, List.replicate_zero, List.cons_append, List.nil_append, List.append_nil, Nat.reduceSub, Nat.reduceAdd, Nat.sub_self, List.set_cons_zero, List.set_cons_succ, List.getElem?_cons_zero, List.getElem?_cons_succ, Option.some.injEq, exists_eq_left', exists_eq_left, L2.V.int.injEq, L2.V.bl.injEq, L2.V.ref.injEq, L2.V.ty.injEq, List.cons.injEq, exists_and_left, and_true, true_and, reduceCtorEq, false_and, and_false, exists_false, or_false, false_or, L2.jaM, Option.getD_some, Bool.true_eq_false, decide_eq_true_eq, Bool.not_eq_true', decide_eq_false_iff_not, decide_not, Bool.false_eq_true, if_true, if_false, ite_not, L2.jh2, L2.jh3, L2.jkt, L2.jku, L2.jgq, L2.jgr, L2.jh4, L2.jh5, L2.jkw, L2.jh7, L2.jkl, L2.V.str.injEq, L2.jgu, L2.jeQ, L2.jgv, L2.jky])
local macro_rules | `(tactic| walk_at "ri") => `(tactic| first | ((dsimp only [L2.jc2, L2.jmG, L2.jhB, L2.jkj, L2.jbM, L2.jli, L2.tC, L2.tOp, L2.tUn, L2.jhK, L2.tB, L2.jmX, L2.jmW, L2.jjn, L2.jhC, L2.jgh, L2.jjm, L2.jmS, L2.tOr, L2.jmT, L2.jhz, L2.jmU, L2.jhA, L2.jha, L2.tCB, L2.jej, L2.jjq, L2.jlq, L2.jkm, L2.jmZ, L2.jm5, L2.tBM, L2.tyV, L2.jmK, L2.gk, L2.tSl, L2.jdQ, L2.jhR, L2.jlj, L2.jfX, L2.jmH, L2.jhr, L2.rI, L2.rI0, L2.rU, L2.rEq, L2.rNe, L2.jmI, L2.jaM, L2.jh2, L2.jh3, L2.jkt, L2.jku, L2.jgq, L2.jgr, L2.jh4, L2.jh5, L2.jkw, L2.jh7, L2.jkl, L2.jgu, L2.jeQ, L2.jgv, L2.jky, List.map_cons, List.map_nil, List.length_cons, List.length_nil, List.replicate_succ, List.replicate_zero, List.cons_append, List.nil_append, List.set_cons_zero, List.set_cons_succ, List.getElem?_cons_zero, List.getElem?_cons_succ, Option.getD_some, Nat.reduceSub, Nat.reduceAdd]); (try walk_at "ris")) | walk_at "ris")
local macro_rules | `(tactic| walk_at "sd") => `(tactic| first | assumption | exact L2.Fit.o (by omega) (by omega) | (show L2.CPow _ _; exact ⟨by decide, by decide, by decide⟩) | decide)
local macro_rules | `(tactic| walk_at "gf") => `(tactic| repeat (first | ((with_reducible apply L2.ixT); assumption; rfl) | ((with_reducible apply L2.ixL); assumption; rfl) | ((with_reducible apply L2.FoR.lst); assumption) | ((with_reducible apply L2.FoR.tup); assumption) | ((with_reducible apply L2.FoR.len); assumption) | ((with_reducible apply L2.FoR.lenT); assumption) | ((with_reducible apply And.intro); (walk_at "sd")) | walk_at "ri"))
local macro_rules | `(tactic| walk_at "sc") => `(tactic| exact ⟨rfl, rfl, rfl, by decide +kernel, rfl, by decide +kernel, by decide +kernel⟩)
local macro_rules | `(tactic| walk_at "rd") => `(tactic| try walk_at "rj")
local macro_rules | `(tactic| walk_at "rf") => `(tactic| try walk_at "ri")
namespace My
open PySem L2 PyProof.Rows
def top (i:Nat):Stmt:=PySem.Challenge.pw_boardsight_k40_two_boards_cut.main.body.getD i (.Pass ⟨0,0,0,0⟩)
abbrev jdW:Stmt:=top 8
abbrev jbn:Stmt:=top 10
abbrev jaX:Stmt:=top 11
abbrev jdX:Stmt:=top 12
abbrev jb4:Stmt:=top 13
abbrev jbj:Stmt:=top 15
abbrev jbO:Stmt:=top 16
abbrev jcj:Stmt:=top 17
abbrev jdm:Stmt:=top 18
abbrev jdY:Stmt:=top 19
abbrev jck:Stmt:=top 21
abbrev jbd:Stmt:=top 22
abbrev jdn:Stmt:=top 23
abbrev jb5:Stmt:=top 24
abbrev jbC:Stmt:=top 25
abbrev jb6:Stmt:=top 26
abbrev jdZ:Stmt:=top 27
abbrev jeT:Stmt:=top 28
abbrev jeU:Stmt:=top 31
abbrev jbV:Stmt:=top 32
abbrev jcV:Stmt:=top 33
abbrev jbP:Stmt:=top 34
abbrev jcW:Stmt:=top 35
abbrev jcl:Stmt:=top 36
abbrev jdo:Stmt:=top 37
abbrev jb7:Stmt:=top 39
abbrev jbA:Stmt:=top 40
abbrev jbu:Stmt:=top 42
abbrev jdp:Stmt:=top 43
abbrev jbo:Stmt:=top 44
abbrev jbQ:Stmt:=top 46
abbrev jbp:Stmt:=top 47
abbrev jcm:Stmt:=top 48
abbrev jcX:Stmt:=top 49
abbrev jbR:Stmt:=top 50
abbrev jbv:Stmt:=top 51
abbrev jbW:Stmt:=top 52
abbrev jaU:Stmt:=top 53
abbrev jcY:Stmt:=top 54
abbrev jb8:Stmt:=top 55
abbrev jbS:Stmt:=top 56
abbrev jaB:Stmt:=top 57
abbrev jcn:Stmt:=top 58
abbrev jbe:Stmt:=top 59
abbrev ja2:Stmt:=top 60
abbrev jaV:Stmt:=top 61
abbrev jbD:Stmt:=top 62
abbrev jbT:Stmt:=top 63
abbrev jbX:Stmt:=top 64
abbrev jeV:Stmt:=top 65
def Small (i:Int):Prop:=i.natAbs<2^1990
theorem Small.neg {i:Int} (h:Small i):Small (-i):=by unfold Small at *;rw[xcf];exact h
theorem Small.ite {c:Prop} [Decidable c] {i j:Int} (h:Small i) (h':Small j):Small (if c then i else j):=by split<;>assumption
theorem Small.bd {i:Int} (h:Small i):Bd 1990 i:=h
theorem Small.of {i:Int} (h1:-1606938044258990275541962092341162602522202993782792835301376<i) (h2:i<1606938044258990275541962092341162602522202993782792835301376):Small i:=(Bd.of h1 h2).mono
variable {a g c d x y A B sg:Int}
theorem Small.div {i:Int} (h:Small i):Small (i / g):=xbd (xbH i g) h
variable {ns:List Int}
theorem jgC (h:∀n∈ns,Small n):Small (gl ns):=by
 by_cases c:∃n∈ns,n≠0
 ·obtain⟨n,hn,h0⟩:=c;have z:=xb1.mpr (jaQ hn);exact xbd (Nat.le_of_dvd (by omega) z) (h n hn)
 ·have z:(0:Int) ∣ gl ns:=jes fun n hn=>by
   have:n=0:=xai fun q=>c ⟨n,hn,q⟩;rw[this];exact xca 0
  rw[Int.zero_dvd.mp z];exact Nat.two_pow_pos _
variable {H H' J H1:Hp}
theorem Same.keep {p:Addr} {o:HO} (h:Same H H') (n:H p=none):Same H (upd H' p o):=fun b u q=>by rw[jaK (jaA q n)];exact h b u q
variable {n k i f j:Nat}
theorem jic {v:V} (h:(ns.map V.int)[i]?=some v):∃z,v=V.int z/\ns[i]?=some z:=by
 rw[xal] at h;cases e:ns[i]? with
 | none=>rw[e] at h;cases h
 | some z=>rw[e] at h;exact⟨z,(Option.some.inj h).symm,rfl⟩
def spGd:Sp:=fun vs H Q _=>∃a b:Int,vs=[.int a,.int b]/\Small a/\Small b/\Q (.int (Int.gcd a b:Nat)) H
def jjI:Sp:=fun vs H Q _=>∃(a:Addr) (ns:List Int),vs=[.ref a]/\H a=some (.tup (ns.map V.int))/\ns.length<=10/\(∀n∈ns,Small n)/\gl ns≠0 /\
 ∀(r:Addr) (H':Hp),Same H H'->H' r=some (.tup ((ns.map (· / gl ns)).map V.int))->Q (.ref r) H'
def jjJ (K:PySem.W.Frag):Sp:=fun vs H Q _=>∃(a:Addr) (ns:List Int),vs=[.ref a]/\SqL K H a (ns.map V.int)/\ns.length<=63/\∀H',Q (.bl true) H'
structure Tx (K:PySem.W.Frag) (mg:Str->Option Value) (t1 t2:Tok):Prop where
 m_sum:mg "sum"=none
 m_dict:mg "dict"=none
 m_all:mg "all"=none
 m_isinstance:mg "isinstance"=none
 m_bool:mg "bool"=none
 m_int:mg "int"=none
 m_abs:mg "abs"=none
 m_max:mg "max"=none
 m_min:mg "min"=none
 m_len:mg "len"=none
 m_range:mg "range"=none
 m_tuple:mg "tuple"=none
 m_list:mg "list"=none
 m_reversed:mg "reversed"=none
 m_SHORT_BITS:mg "SHORT_BITS"=some (.int 2000 t1)
 m_MOST_CORNERS:mg "MOST_CORNERS"=some (.int 8 t2)
theorem Tx.r_SHORT_BITS {K:PySem.W.Frag} {mg:Str->Option Value} {t1 t2:Tok} (_:Tx K mg t1 t2):RelV (.int 2000) (.int 2000 t1):=⟨_,rfl⟩
theorem Tx.r_MOST_CORNERS {K:PySem.W.Frag} {mg:Str->Option Value} {t1 t2:Tok} (_:Tx K mg t1 t2):RelV (.int 8) (.int 8 t2):=⟨_,rfl⟩
def low (ns:List Int):List Int:=ns.map (· / gl ns)
def Sm2 (i:Int):Prop:=i.natAbs<2^650
theorem Sm2.bd {i:Int} (h:Sm2 i):Bd 1990 i:=Bd.mono (n:=650) h
theorem Sm2.of {i:Int} (h1:-1606938044258990275541962092341162602522202993782792835301376<i) (h2:i<1606938044258990275541962092341162602522202993782792835301376):Sm2 i:=(Bd.of h1 h2).mono
theorem Sm2.div {i:Int} (h:Sm2 i):Sm2 (i / g):=xbd (xbH i g) h
structure Pt where
 x:Int
 y:Int
 z:Int
 w:Int
def Pt.sm (p:Pt):Prop:=Sm2 p.x/\Sm2 p.y/\Sm2 p.z/\Sm2 p.w
def Is4 (H:Hp) (r:Addr) (p:Pt):Prop:=H r=some (.tup [.int p.x,.int p.y,.int p.z,.int p.w])/\p.sm
variable {r L sd:Addr}
variable {p q:Pt}
theorem Is4.keep (h:Is4 H r p) (s:Same H H'):Is4 H' r p:=⟨s _ _ h.1,h.2⟩
theorem Is4.sq {K:PySem.W.Frag} (h:Is4 H r p):SqT K H r [.int p.x,.int p.y,.int p.z,.int p.w]:=SqT.of h.1
theorem Pt.sm.fx (h:p.sm):Fit p.x:=h.1.bd.fit
theorem Pt.sm.fy (h:p.sm):Fit p.y:=h.2.1.bd.fit
theorem Pt.sm.fz (h:p.sm):Fit p.z:=h.2.2.1.bd.fit
theorem Pt.sm.fw (h:p.sm):Fit p.w:=h.2.2.2.bd.fit
def wo (k:Int) (p:Pt):List Int:=if k=0 then [p.y,p.z,p.w] else if k=1 then [p.x,p.z,p.w] else if k=2 then [p.x,p.y,p.w] else [p.x,p.y,p.z]
def jby (a b c x y z u v w:Int):Int:=(b*z-c*y)*u+(c*x-a*z)*v+(a*y-b*x)*w
def detL:List Int->List Int->List Int->Int
 | [a,b,c],[x,y,z],[u,v,w]=>jby a b c x y z u v w
 | _,_,_=>0
def jay (k:Int) (p q r:Pt):Int:=detL (wo k p) (wo k q) (wo k r)
def inl (p q r:Pt):Bool:=decide (jay 0 p q r=0/\jay 1 p q r=0/\jay 2 p q r=0)
def Tup3 (H:Hp) (r:Addr) (a b c:Int):Prop:=H r=some (.tup [.int a,.int b,.int c])/\Sm2 a/\Sm2 b/\Sm2 c
def jid:Sp:=fun vs H Q _=>∃(r p:Addr) (a b c x y z:Int),vs=[.ref r,.ref p]/\Tup3 H r a b c/\Tup3 H p x y z /\
 ∀(t:Addr) (H':Hp),Same H H'->H' t=some (.tup [.int (b*z-c*y),.int (c*x-a*z),.int (a*y-b*x)])->Q (.ref t) H'
def jnm:Sp:=fun vs H Q _=>∃(r p s:Addr) (a b c x y z u v w:Int),vs=[.ref r,.ref p,.ref s]/\Tup3 H r a b c/\Tup3 H p x y z/\Tup3 H s u v w/\∀H':Hp,Same H H'->Q (.int (jby a b c x y z u v w)) H'
def jfD:Sp:=fun vs H Q _=>∃(r:Addr) (k:Int) (p:Pt),vs=[.ref r,.int k]/\Is4 H r p/\0<=k/\k<=3/\∀(t:Addr) (H':Hp),Same H H'->H' t=some (.tup ((wo k p).map V.int))->Q (.ref t) H'
def jeW:Sp:=fun vs H Q _=>∃(r s t:Addr) (k:Int) (p q o:Pt),vs=[.ref r,.ref s,.ref t,.int k]/\Is4 H r p/\Is4 H s q/\Is4 H t o/\0<=k/\k<=3/\∀H':Hp,Same H H'->Q (.int (jay k p q o)) H'
def jkA:Sp:=fun vs H Q _=>∃(r s t:Addr) (p q o:Pt),vs=[.ref r,.ref s,.ref t]/\Is4 H r p/\Is4 H s q/\Is4 H t o/\∀H':Hp,Same H H'->Q (.bl (inl p q o)) H'
def jgD:Sp:=fun vs H Q _=>∃(r:Addr) (ns:List Int),vs=[.ref r]/\H r=some (.tup (ns.map V.int))/\ns.length<=10/\∀(t:Addr) (H':Hp),Same H H'->H' t=some (.tup ((ns.map fun n=>-n).map V.int))->Q (.ref t) H'
def plb (a b c:Int):Bool:=if a≠0 then decide (0<a) else if b≠0 then decide (0<b) else if c≠0 then decide (0<c) else false
def jie:Sp:=fun vs H Q _=>∃(r:Addr) (a b c d:Int),vs=[.ref r]/\H r=some (.tup [.int a,.int b,.int c,.int d])/\∀H':Hp,Same H H'->Q (.bl (plb a b c)) H'
def rgh (p o u:Pt):List Int:=[jay 0 p o u,-jay 1 p o u,jay 2 p o u,jay 3 p o u]
def jif:Sp:=fun vs H Q _=>∃(r e t:Addr) (p o u:Pt),vs=[.ref r,.ref e,.ref t]/\Is4 H r p/\Is4 H e o/\Is4 H t u/\∀(g:Addr) (H':Hp),Same H H'->H' g=some (.tup ((rgh p o u).map V.int))->Q (.ref g) H'
def pln (ns:List Int):List Int:=match low ns with
 | [a,b,c,d]=>if plb a b c=true then [a,b,c,d] else [-a,-b,-c,-d]
 | l=>l
def jbE (p o u:Pt):Prop:=jay 0 p o u=0/\jay 1 p o u=0/\jay 2 p o u=0
def hgt (a b c d:Int) (p:Pt):Int:=a*p.x+b*p.y+c*p.z-d*p.w
def sgn (n:Int):Int:=if n>0 then 1 else if n<0 then -1 else 0
def jig:Sp:=fun vs H Q _=>∃n:Int,vs=[.int n]/\Q (.int (sgn n)) H
def sf (x y z w x' y' z' w':Int):Bool:=if x*w'≠x'*w then decide (x*w'<x'*w) else if y*w'≠y'*w then decide (y*w'<y'*w) else if z*w'≠z'*w then decide (z*w'<z'*w) else false
def sfp (p o:Pt):Bool:=sf p.x p.y p.z p.w o.x o.y o.z o.w
def jih:Sp:=fun vs H Q _=>∃(r e:Addr) (p o:Pt),vs=[.ref r,.ref e]/\Is4 H r p/\Is4 H e o/\Q (.bl (sfp p o)) H
def jii:Sp:=fun vs H Q _=>∃a b c d:Int,vs=[.int a,.int b,.int c,.int d]/\Small a/\Small b/\Small c/\Small d/\¬(a=0/\b=0/\c=0)/\∀(r:Addr) (H':Hp),Same H H'->H' r=some (.tup ((low [a,b,c,d]).map V.int))->Q (.ref r) H'
def jd0:Sp:=fun vs H Q _=>∃(r e t:Addr) (p o u:Pt),vs=[.ref r,.ref e,.ref t]/\Is4 H r p/\Is4 H e o/\Is4 H t u/\¬jbE p o u/\∀(g:Addr) (H':Hp),Same H H'->H' g=some (.tup ((pln (rgh p o u)).map V.int))->Q (.ref g) H'
def spHt:Sp:=fun vs H Q _=>∃(r e:Addr) (a b c d:Int) (p:Pt),vs=[.ref r,.ref e]/\H r=some (.tup [.int a,.int b,.int c,.int d])/\Small a/\Small b/\Small c/\Small d/\Is4 H e p/\Q (.int (hgt a b c d p)) H
def jgE:Sp:=fun vs H Q _=>∃(r e:Addr) (a b c d:Int) (p:Pt),vs=[.ref r,.ref e]/\H r=some (.tup [.int a,.int b,.int c,.int d])/\Small a/\Small b/\Small c/\Small d/\Is4 H e p/\Q (.int (sgn (hgt a b c d p))) H
inductive Sps (H:Hp):List Addr->List Pt->Prop
 | nil:Sps H [] []
 | cons {r:Addr} {p:Pt} {rs:List Addr} {ps:List Pt} (h:Is4 H r p) (t:Sps H rs ps):Sps H (r::rs) (p::ps)
variable {ps qs l:List Pt}
theorem Sps.keep {rs:List Addr} (h:Sps H rs ps) (s:SameT H H'):Sps H' rs ps:=by
 induction h with
 | nil=>exact .nil
 | cons h _ ih=>exact .cons ⟨s _ _ h.1,h.2⟩ ih
theorem Sps.len {rs:List Addr} (h:Sps H rs ps):rs.length=ps.length:=by
 induction h with
 | nil=>rfl
 | cons h _ ih=>rw[xaq,xaq,ih]
theorem Sps.app {rs rs':List Addr} {ps':List Pt} (h:Sps H rs ps) (k:Sps H rs' ps'):Sps H (rs++rs') (ps++ps'):=by
 induction h with
 | nil=>exact k
 | cons h _ ih=>exact .cons h ih
theorem Sps.rev {rs:List Addr} (h:Sps H rs ps):Sps H rs.reverse ps.reverse:=by
  induction h with
  | nil=>exact .nil
  | cons h _ ih =>
    rw[xaH,xaH];exact ih.app (.cons h .nil)
theorem Sps.drop {rs:List Addr} (h:Sps H rs ps):∀n,Sps H (rs.drop n) (ps.drop n):=by
  induction h with
  | nil=>intro n;rw[List.drop_nil,List.drop_nil];exact .nil
  | cons h k ih =>
    intro n;cases n with
    | zero=>exact .cons h k
    | succ n=>exact ih n
theorem Sps.take {rs:List Addr} (h:Sps H rs ps):∀n,Sps H (rs.take n) (ps.take n):=by
  induction h with
  | nil=>intro n;rw[List.take_nil,List.take_nil];exact .nil
  | cons h k ih =>
    intro n;cases n with
    | zero=>exact .nil
    | succ n=>exact .cons h (ih n)
def p0:Pt:=⟨0,0,0,0⟩
def pt (ps:List Pt) (i:Nat):Pt:=ps.getD i p0
def ad (rs:List Addr) (i:Nat):Addr:=rs.getD i 0
theorem Sps.get {rs:List Addr} (h:Sps H rs ps):∀{i:Nat},i<ps.length->(rs.map V.ref)[i]?=some (.ref (ad rs i))/\Is4 H (ad rs i) (pt ps i):=by
  induction h with
  | nil=>intro i hi;exact absurd hi (by simp)
  | cons h k ih =>
    intro i hi;cases i with
    | zero=>exact⟨rfl,h⟩
    | succ i=>exact ih (by simpa using hi)
theorem jb9 {α:Type} {xs:List α} {v:α} (hn:xs.length=n+1) (h:xs[n]?=some v):atI xs (-1)=some v:=by
 have e:xs=xs.take n++[v]:=by
  have z:=xaV (l:=xs) (i:=n);rw[h,<- hn,xa0] at z;exact z
 rw[e];exact jjs _ _
variable {xs ys:List V}
theorem jgF :jff xs (some (f:Int)) none=xs.drop f:=by
 unfold jff;rw[HT.sIx_nat,HT.sIx_none];by_cases h:f<=xs.length
 ·rw[Nat.min_eq_left h,xaZ (by rw[xat];exact xag _)]
 ·rw[Nat.min_eq_right (by omega),xbV (xag _),xbV (by omega),List.take_nil]
theorem jdI :jff xs none (some (f:Int))=xs.take f:=by
 unfold jff;rw[HT.sIx_nat,HT.sIx_none];by_cases h:f<=xs.length
 ·rw[Nat.min_eq_left h];rfl
 ·rw[Nat.min_eq_right (by omega)];show xs.take (xs.length-0)=_;rw[Nat.sub_zero,xa0,xaZ (by omega)]
def jgG (ps:List Pt):Nat->Nat
 | 0=>0
 | i+1=>if sfp (pt ps (i+1)) (pt ps (jgG ps i))=true then i+1 else jgG ps i
theorem jd1 (ps:List Pt):∀i,jgG ps i<=i
  | 0=>xag _
  | i + 1 => by
    have:=jd1 ps i;unfold jgG;split<;>omega
def rot {α:Type} (f:Nat) (l:List α):List α:=l.drop f++l.take f
def turn {α:Type} (b:Bool) (l:List α):List α:=if b=true then l.take 1++(l.drop 1).reverse else l
def fF (ps:List Pt):Nat:=jgG ps (ps.length-1)
def fB (ps:List Pt):Bool:=sfp (pt (rot (fF ps) ps) (ps.length-1)) (pt (rot (fF ps) ps) 1)
def frm {α:Type} (ps:List Pt) (l:List α):List α:=turn (fB ps) (rot (fF ps) l)
theorem Sps.rot {rs:List Addr} (h:Sps H rs ps) (f:Nat):Sps H (rot f rs) (rot f ps):=(h.drop f).app (h.take f)
theorem Sps.turn {rs:List Addr} (h:Sps H rs ps) (b:Bool):Sps H (turn b rs) (turn b ps):=by
 unfold My.turn;cases b
 ·exact h
 ·exact (h.take 1).app (h.drop 1).rev
theorem Sps.frm {rs:List Addr} (h:Sps H rs qs):Sps H (frm ps rs) (frm ps qs):=(h.rot _).turn _
def Cor (H:Hp) (l:Addr) (rs:List Addr) (ps:List Pt):Prop:=H l=some (.lst (rs.map V.ref))/\Sps H rs ps
theorem Cor.keep {l:Addr} {rs:List Addr} (h:Cor H l rs ps) (s:Same H H'):Cor H' l rs ps:=⟨s _ _ h.1,h.2.keep s.t⟩
def jeX:Sp:=fun vs H Q _=>∃(l:Addr) (rs:List Addr) (ps:List Pt),vs=[.ref l]/\Cor H l rs ps/\3<=ps.length/\ps.length<=17 /\
 ∀(t:Addr) (H':Hp),Same H H'->H' t=some (.tup ((frm ps rs).map V.ref))->Q (.ref t) H'
def jkB:Sp:=fun vs H Q _=>∃(r:Addr) (a b c d:Int),vs=[.ref r]/\H r=some (.tup [.int a,.int b,.int c,.int d])/\¬(a=0/\b=0/\c=0)/\∀k:Int,(k=0/\a≠0)\/(k=1/\a=0/\b≠0)\/(k=2/\a=0/\b=0/\c≠0)->Q (.int k) H
def jkC:Sp:=fun vs H Q _=>∃(g r e t:Addr) (k:Int) (p o u:Pt),vs=[.ref g,.ref t,.int k]/\H g=some (.tup [.ref r,.ref e])/\Is4 H r p/\Is4 H e o/\Is4 H t u/\0<=k/\k<=3/\∀H':Hp,Same H H'->Q (.int (sgn (jay k p o u))) H'
def Rnd (k:Int) (ps:List Pt):Prop:=∀i j,i<ps.length->1<=j->j<ps.length-1->sgn (jay k (pt ps ((i+(ps.length-1)) % ps.length)) (pt ps i) (pt ps ((i+j) % ps.length)))=sgn (jay k (pt ps 0) (pt ps 1) (pt ps 2))
def jnn:Sp:=fun vs H Q _=>∃(l:Addr) (k:Int) (rs:List Addr) (ps:List Pt),vs=[.ref l,.int k]/\Cor H l rs ps/\3<=ps.length/\ps.length<=8/\0<=k/\k<=2/\Rnd k ps/\∀H':Hp,Same H H'->Q (.bl true) H'
structure Brd (ps:List Pt):Prop where
 n3:3<=ps.length
 n8:ps.length<=8
 na:¬jbE (pt ps 0) (pt ps 1) (pt ps 2)
 flat:∀i,i<ps.length->hgt (jay 0 (pt ps 0) (pt ps 1) (pt ps 2)) (-jay 1 (pt ps 0) (pt ps 1) (pt ps 2)) (jay 2 (pt ps 0) (pt ps 1) (pt ps 2)) (jay 3 (pt ps 0) (pt ps 1) (pt ps 2)) (pt ps i)=0
 rnd:∀k:Int,0<=k->k<=2->jay k (pt ps 0) (pt ps 1) (pt ps 2)≠0->Rnd k ps
def jf5:Sp:=fun vs H Q _=>∃(l:Addr) (rs:List Addr) (ps:List Pt),vs=[.ref l]/\Cor H l rs ps/\Brd ps/\∀(t:Addr) (H':Hp),Same H H'->H' t=some (.tup ((frm ps rs).map V.ref))->Q (.ref t) H'
section
variable {P:Program} {w:World} {K:PySem.W.Frag} {mg:Str->Option Value} {base:Heap} {t1 t2:Tok}
theorem jet:FnScope ["number"] ["number"] (jae jdW):=by walk_at "sc"
theorem jbF:FnScope ["one","other","great","small","steps","rest"] ["one","other"] (jae jbn):=by walk_at "sc"
theorem jbK:FnScope ["numbers","divisor","number"] ["numbers"] (jae jaX):=by walk_at "sc"
theorem jeu:FnScope ["one","other"] ["one","other"] (jae jdX):=by walk_at "sc"
theorem jcI:FnScope ["one","other","third","arrow"] ["one","other","third"] (jae jb4):=by walk_at "sc"
theorem jdx:FnScope ["x","y","z","w"] ["x","y","z","w"] (jae jbj):=by walk_at "sc"
theorem jco:FnScope ["one","other","k","mine","yours"] ["one","other"] (jae jbO):=by walk_at "sc"
theorem jev:FnScope ["spot","place"] ["spot","place"] (jae jcj):=by walk_at "sc"
theorem jd2:FnScope ["one","other","third","place"] ["one","other","third","place"] (jae jdm):=by walk_at "sc"
theorem jew:FnScope ["one","other","third","place"] ["one","other","third"] (jae jdY):=by walk_at "sc"
theorem jc6:FnScope ["a","b","c","d"] ["a","b","c","d"] (jae jck):=by walk_at "sc"
theorem jcp:FnScope ["plane"] ["plane"] (jae jbd):=by walk_at "sc"
theorem jd3:FnScope ["plane","number"] ["plane"] (jae jdn):=by walk_at "sc"
theorem jcJ:FnScope ["one","other","third"] ["one","other","third"] (jae jb5):=by walk_at "sc"
theorem jce:FnScope ["one","other","third","rough","plane"] ["one","other","third"] (jae jbC):=by walk_at "sc"
theorem jcK:FnScope ["plane","spot"] ["plane","spot"] (jae jb6):=by walk_at "sc"
theorem jex:FnScope ["plane","spot"] ["plane","spot"] (jae jdZ):=by walk_at "sc"
theorem jfE:FnScope ["plane","one","other","mine","yours"] ["plane","one","other"] (jae jeT):=by walk_at "sc"
theorem jfF:FnScope ["corners","first","k","ring"] ["corners"] (jae jeU):=by walk_at "sc"
theorem jd4:FnScope ["board"] ["board"] (jae jbV):=by walk_at "sc"
theorem jdy:FnScope ["plane","axis"] ["plane"] (jae jcV):=by walk_at "sc"
theorem jcq:FnScope ["edge","spot","axis"] ["edge","spot","axis"] (jae jbP):=by walk_at "sc"
theorem jdz:FnScope ["corners","axis","turn","many","k","edge","ahead"] ["corners","axis"] (jae jcW):=by walk_at "sc"
theorem jc7:FnScope ["corners","plane","corner"] ["corners"] (jae jcl):=by walk_at "sc"
theorem jd5:FnScope ["board"] ["board"] (jae jdo):=by walk_at "sc"
theorem jcL:FnScope ["board","plane","sided","edge","before","side"] ["board","plane"] (jae jb7):=by walk_at "sc"
theorem jfG:FnScope ["board","plane","sides","sided","below","above"] ["board","plane"] (jae jbA):=by walk_at "sc"
theorem jca:FnScope ["tree","number","board","own","parts","below","above"] ["tree","number","board","own"] (jae jbu):=by walk_at "sc"
theorem jd6:FnScope ["tree","piece"] ["tree","piece"] (jae jdp):=by walk_at "sc"
theorem jey:FnScope ["some","row","boards","numbers","tree","number"] ["some","row"] (jae jbo):=by walk_at "sc"
theorem jcr:FnScope ["script","k","cell"] ["script","k"] (jae jbQ):=by walk_at "sc"
theorem jcM:FnScope ["script","many","cells","k","at"] ["script","many"] (jae jbp):=by walk_at "sc"
theorem jc8:FnScope ["cell","left"] ["cell"] (jae jcm):=by walk_at "sc"
theorem jdA:FnScope ["state","many","found"] ["state","many"] (jae jcX):=by walk_at "sc"
theorem jcs:FnScope ["one","other"] ["one","other"] (jae jbR):=by walk_at "sc"
theorem jc9:FnScope ["state","span"] ["state","span"] (jae jbv):=by walk_at "sc"
theorem jd7:FnScope ["state","made","way","span","base","one","other","shape","across","place"] ["state","made"] (jae jbW):=by walk_at "sc"
theorem jct:FnScope ["raw","base","one","other","shape","rows","found","i","j","place"] ["raw"] (jae jaU):=by walk_at "sc"
theorem jdB:FnScope ["cells","raws","some","used","cell","state","number"] ["cells"] (jae jcY):=by walk_at "sc"
theorem jcN:FnScope ["plane","spot","found"] ["plane","spot"] (jae jb8):=by walk_at "sc"
theorem jcu:FnScope ["one","other"] ["one","other"] (jae jbS):=by walk_at "sc"
theorem jda:FnScope ["corners","a","b","c","one","other","upright","found","by"] ["corners"] (jae jaB):=by walk_at "sc"
theorem jdb:FnScope ["found"] ["found"] (jae jcn):=by walk_at "sc"
theorem jcv:FnScope ["found"] ["found"] (jae jbe):=by walk_at "sc"
theorem jcf:FnScope ["found"] ["found"] (jae ja2):=by walk_at "sc"
theorem jbG:FnScope ["found"] ["found"] (jae jaV):=by walk_at "sc"
theorem jdC:FnScope ["corners","plane","sign","found","inner","k","one","other","here","there","place"] ["corners","plane","sign"] (jae jbD):=by walk_at "sc"
theorem jcw:FnScope ["part","number","plane"] ["part","number","plane"] (jae jbT):=by walk_at "sc"
theorem jd8:FnScope ["one","other","plane","second"] ["one","other"] (jae jbX):=by walk_at "sc"
theorem jkD:FnScope ["script","some","raws","one","other","tree","handed","row","found"] ["script"] (jae jeV):=by walk_at "sc"
theorem ok_gd (T:Tx K mg t1 t2) (F:At K mg "greatest_divisor" jbn ["one","other"] []):jan P w K mg base CX0 1 "greatest_divisor" ["one","other"] [] spGd:=by
 refine F.ok jbF (fun vs H Q E h=>?_) (fun f cdv A outer s H vs Q E hr h=>?_)
 ·obtain⟨a,b,rfl,_⟩:=h;rfl
 obtain⟨a,b,rfl,ha,hb,q⟩:=h;have S:=jbF;refine⟨_,(jad (jat (i:=2) S.nd rfl (Or.inl rfl) (jaw (jhL rfl) rfl T.m_max boot_max (jaa (jaw jcF rfl T.m_abs boot_abs (jaa (pv 0) jac jaf)) (jaa (jaw jcF rfl T.m_abs boot_abs (jaa (pv 1) jac jaf)) jac jaI) jaI)))
  (jad (jat (i:=3) S.nd rfl (Or.inl rfl) (jaw (jhM rfl) rfl T.m_min boot_min (jaa (jaw jcF rfl T.m_abs boot_abs (jaa (pv 0) jac jaf)) (jaa (jaw jcF rfl T.m_abs boot_abs (jaa (pv 1) jac jaf)) jac jaI) jaI)))
  (jad (jdG PassesOwn.never (jau jfY (jm6 PySem.F.plainAttrs_int PySem.F.slot_int_bit_length PySem.F.type_int_bit_length jlt (pv 3)) (jhy rfl T.m_SHORT_BITS T.r_SHORT_BITS) (jax _)) jbB)
  (jad (jdG PassesOwn.never (jau jdP (pv 3) jab (jax _))
  (jad (jat (i:=5) S.nd rfl (Or.inl rfl) (jap jbI (pv 2) (pv 3)))
  (jad (jat (i:=2) S.nd rfl (Or.inl rfl) (pv 3))
  (jai (jat (i:=3) S.nd rfl (Or.inl rfl) (pv 5))))))
  (jai (jas (pv 2))))))),?_⟩
 walk_at "rd";have hg:Int.gcd (if (if b<0 then -b else b)>(if a<0 then -a else a) then (if b<0 then -b else b) else (if a<0 then -a else a)) (if (if b<0 then -b else b)<(if a<0 then -a else a) then (if b<0 then -b else b) else (if a<0 then -a else a))=Int.gcd a b:=(jhj _ _).trans (jlE a b);have hM:0<=(if (if b<0 then -b else b)>(if a<0 then -a else a) then (if b<0 then -b else b) else (if a<0 then -a else a)):=by split<;>split<;>omega
 have hm:0<=(if (if b<0 then -b else b)<(if a<0 then -a else a) then (if b<0 then -b else b) else (if a<0 then -a else a)):=by split<;>split<;>omega
 have hs:Small (if (if b<0 then -b else b)<(if a<0 then -a else a) then (if b<0 then -b else b) else (if a<0 then -a else a)):=by
  exact Small.ite (Small.ite hb.neg hb) (Small.ite ha.neg ha)
 generalize (if (if b<0 then -b else b)>(if a<0 then -a else a) then (if b<0 then -b else b) else (if a<0 then -a else a))=M at hg hM |-
 generalize (if (if b<0 then -b else b)<(if a<0 then -a else a) then (if b<0 then -b else b) else (if a<0 then -a else a))=m at hg hm hs |-
 have hz:Builtin.Int.intBits m<=1990:=L2.jdj hs;refine⟨fun _ σ H1=>σ=[some (.int a),some (.int b),some (.int M),some (.int m),none,none]/\H1=H,⟨0,rfl,rfl⟩,?_⟩;rintro _ σ H1 ⟨rfl,rfl⟩;walk_at "rd";rw[if_neg (by omega)];refine⟨fun n σ H2=>H2=H1/\∃(x y:Int) (o:Option V),σ=[some (.int a),some (.int b),some (.int x),some (.int y),none,o]/\0<=x/\0<=y/\Int.gcd x y=Int.gcd a b/\n=y.toNat,⟨_,rfl,M,m,none,rfl,hM,hm,hg,rfl⟩,?_⟩;rintro n σ H2 ⟨rfl,x,y,o,rfl,hx,hy,hgg,rfl⟩;walk_at "rd";by_cases c:y=0
 ·subst c;rw[if_pos rfl];rw[<- hgg,Int.gcd_zero_right] at q;have e2:((x.natAbs:Nat):Int)=x:=by omega
  rw[e2] at q;exact q
 ·rw[if_neg c];have b1:=xbb x c;have b2:=xaY x (show 0<y by omega);exact⟨fun σ' H'=>σ'=[some (V.int a),some (V.int b),some (V.int y),some (V.int (x % y)),none,some (V.int (x % y))]/\H'=H2,fun σ' H' ⟨h1,h2⟩=>⟨_,by omega,h2,y,x % y,_,h1,by omega,b1,(jjH x y hx).trans hgg,rfl⟩,by omega,rfl,rfl⟩
theorem jno (T:Tx K mg t1 t2) (F:At K mg "in_lowest_terms" jaX ["numbers"] []) (dS:jan P w K mg base CX0 1 "greatest_divisor" ["one","other"] [] spGd):jan P w K mg base CX0 2 "in_lowest_terms" ["numbers"] [] jjI:=by
 refine F.ok jbK (fun vs H Q E h=>?_) (fun f cdv A outer s H vs Q E hr h=>?_)
 ·obtain⟨a,ns,rfl,_⟩:=h;rfl
 obtain⟨a,ns,rfl,ha,hl,hs,hg,q⟩:=h;have S:=jbK;refine⟨_,(jad (jat (i:=1) S.nd rfl (Or.inr rfl) jab)
  (jad (jbx PassesOwn.never rfl (jc1 (pv 0)) (jao (i:=2) S.nd rfl (Or.inl rfl))
  (jad (jat (i:=1) S.nd rfl (Or.inr rfl) (jah dS hr.m rfl jav (jaa (pv 1) (jaa (pv 2) jac jaf) jaf)))
  (jai (jaW (jau jdO (pv 1) jab (jax _))
  (jai (jas (jaS jbm rfl T.m_tuple boot_tuple (jaa (pv 0) jac jaf))))
  jaz))))
  (jai (jas (jaS jbm rfl T.m_tuple boot_tuple (jaa (ja1 rfl (N':=["number","divisor"]) (ix:=[1]) ⟨rfl,rfl,by decide +kernel,by decide +kernel,by decide +kernel,(show ∀y:Str × NameKind,y∈_->y.2=NameKind.free->(jae jaX).names.lookup y.1=some .cell\/(jae jaX).names.lookup y.1=some .free from by decide +kernel),(.cons rfl (.inl rfl) rfl .nil)⟩ (jc1 (pv 0)) (fun _ _ _ _=>jao (i:=0) (show (["number","divisor"]:List Str).Nodup from by decide +kernel) rfl (Or.inl rfl)) (fun _ _ _ _=>ja0) (fun _ _ _ _=>(jap jeO (pv 0) (pv 1)))) jac jcd)))))),?_⟩
 walk_at "rd";refine⟨_,rfl,a,rfl,⟨_,SqT.of ha⟩,jhG (K:=K) (a:=a) (xs:=ns.map V.int) (fun i σ H2=>H2=H/\∃o:Option V,σ=[some (.ref a),some (.int (gl (ns.take i))),o]) ⟨rfl,none,rfl⟩ (fun i σ H2 _ ⟨h,_⟩=>by rw[h];exact SqT.of ha) ?_ ?_⟩
 ·rintro i v σ H2 hi ⟨rfl,o,rfl⟩;obtain⟨z,rfl,hz⟩:=jic hi;walk_at "rd";refine⟨_,_,rfl,jgC fun n hn=>hs n (xbu hn),hs z (xaD hz),?_⟩;walk_at "rd";rw[<- jfC hz];refine jb2 (fun c=>⟨_,.inr ⟨SqT.of ha,?_⟩⟩) fun c=>⟨rfl,_,rfl⟩;have g1:gl ns=1:=jen c;refine q a H2 (Same.refl _) ?_;rw[g1,jf4];exact ha
 ·rintro σ H2 ⟨rfl,o,rfl⟩;walk_at "rd";have el:(ns.map V.int).length=ns.length:=xaa _;rw[el,xa0];have gp:0<gl ns:=by have:=jbc ns;omega
  refine⟨_,rfl,a,rfl,⟨_,SqT.of ha⟩,fun acc hacc=>jeN (K:=K) (a:=a) (zs:=ns.map V.int) (fun i xs H3=>Same H2 H3/\H3 acc=some (.lst xs)/\xs=((ns.take i).map (· / gl ns)).map V.int) ⟨Same.new hacc _,jag,rfl⟩ (fun i xs H3 _ h=>h.1.tup (SqT.of ha)) ?_ ?_⟩
  ·rintro i v xs H3 hi ⟨h1,h2,rfl⟩;obtain⟨z,rfl,hz⟩:=jic hi;walk_at "rd";have li:=(xaf.mp hz).1;refine⟨gp,(jgC hs).bd.fit,h2,?_,Same.keep h1 hacc,jag,?_⟩
   ·rw[xaa,xaa,xay];exact jh0 (by omega)
   ·rw[xaV,hz,xah,xah];rfl
  ·rintro xs H3 ⟨h1,h2,rfl⟩;rw[el,xa0] at h2;exact⟨acc,rfl,_,.inl ⟨SqL.of h2,fun l hl=>q l _ (h1.trans (Same.new hl _)) jag⟩⟩
theorem jij (h:∀(i:Nat) (y:V),ys[i]?=some y->∃v:Int,y=V.int v):∃ms:List Int,ys=ms.map V.int:=by
  induction ys with
  | nil=>exact⟨[],rfl⟩
  | cons y r ih =>
    obtain⟨v,rfl⟩:=h 0 y rfl;obtain⟨ms,rfl⟩:=ih fun i z hz=>h (i+1) z hz;exact⟨v::ms,rfl⟩
theorem jhk (T:Tx K mg t1 t2) (F:At K mg "crossed" jdX ["one","other"] []):jan P w K mg base CX0 1 "crossed" ["one","other"] [] jid:=by
 refine F.ok jeu (fun vs H Q E h=>?_) (fun f cdv A outer s H vs Q E hr h=>?_)
 ·obtain⟨r,p,a,b,c,x,y,z,rfl,_⟩:=h;rfl
 obtain⟨r,p,a,b,c,x,y,z,rfl,⟨h1,sa,sb,sc⟩,⟨h2,sx,sy,sz⟩,q⟩:=h;have S:=jeu;refine⟨_,(jai (jas (jaG (jaa (jap jaZ (jap jar (jaj jal (pv 0) jab) (jaj jal (pv 1) jab)) (jap jar (jaj jal (pv 0) jab) (jaj jal (pv 1) jab))) (jaa (jap jaZ (jap jar (jaj jal (pv 0) jab) (jaj jal (pv 1) jab)) (jap jar (jaj jal (pv 0) jab) (jaj jal (pv 1) jab))) (jaa (jap jaZ (jap jar (jaj jal (pv 0) jab) (jaj jal (pv 1) jab)) (jap jar (jaj jal (pv 0) jab) (jaj jal (pv 1) jab))) jac jbb) jbb) jbb)))),?_⟩;have k1:SqT K H r [.int a,.int b,.int c]:=SqT.of h1;have k2:SqT K H p [.int x,.int y,.int z]:=SqT.of h2;have fa:=sa.bd.fit;have fb:=sb.bd.fit;have fc:=sc.bd.fit;have fx:=sx.bd.fit;have fy:=sy.bd.fit;have fz:=sz.bd.fit;walk_at "rf";walk_at "gf";intro t ht;exact q t _ (Same.new ht _) jag
theorem jnp (T:Tx K mg t1 t2) (F:At K mg "determinant" jb4 ["one","other","third"] []) (Dm:jan P w K mg base CX0 1 "crossed" ["one","other"] [] jid):jan P w K mg base CX0 2 "determinant" ["one","other","third"] [] jnm:=by
 refine F.ok jcI (fun vs H Q E h=>?_) (fun f cdv A outer s H vs Q E hr h=>?_)
 ·obtain⟨r,p,e,a,b,c,x,y,z,u,v,o,rfl,_⟩:=h;rfl
 obtain⟨r,p,e,a,b,c,x,y,z,u,v,o,rfl,h1,h2,h3,q⟩:=h;have S:=jcI;refine⟨_,(jad (jat (i:=3) S.nd rfl (Or.inl rfl) (jah Dm hr.m rfl jav (jaa (pv 0) (jaa (pv 1) jac jaf) jaf)))
  (jai (jas (jap jbl (jap jbl (jap jar (jaj jal (pv 3) jab) (jaj jal (pv 2) jab)) (jap jar (jaj jal (pv 3) jab) (jaj jal (pv 2) jab))) (jap jar (jaj jal (pv 3) jab) (jaj jal (pv 2) jab)))))),?_⟩
 walk_at "rf";refine⟨r,p,a,b,c,x,y,z,rfl,h1,h2,fun t H1 s1 e1=>?_⟩;have k1:SqT K H1 t _:=SqT.of e1;have k2:SqT K H1 e [.int u,.int v,.int o]:=SqT.of (s1 _ _ h3.1);have fu:=h3.2.1.bd.fit;have fv:=h3.2.2.1.bd.fit;have fo:=h3.2.2.2.bd.fit;have ma:∀{i j k l:Int},Sm2 i->Sm2 j->Sm2 k->Sm2 l->Fit (i*j-k*l):=fun h1 h2 h3 h4=>Bd.fit (n:=1301) (Bd.sub (Bd.mul (n:=650) (m:=650) h1 h2) (Bd.mul (n:=650) (m:=650) h3 h4));have g1:=ma h1.2.2.1 h2.2.2.2 h1.2.2.2 h2.2.2.1;have g2:=ma h1.2.2.2 h2.2.1 h1.2.1 h2.2.2.2;have g3:=ma h1.2.1 h2.2.2.1 h1.2.2.1 h2.2.1;walk_at "gf";exact q _ s1
theorem jhl (T:Tx K mg t1 t2) (F:At K mg "without" jcj ["spot","place"] []):jan P w K mg base CX0 1 "without" ["spot","place"] [] jfD:=by
  refine F.ok jev (fun vs H Q E h=>?_) (fun f cdv A outer s H vs Q E hr h=>?_)
  . obtain⟨r,k,p,rfl,_⟩:=h
    rfl
  obtain⟨r,k,p,rfl,h1,k0,k3,q⟩:=h;have S:=jev;refine⟨_,(jai (jas (jaS jbm rfl T.m_tuple boot_tuple (jaa (ja1 rfl (N':=["k","spot","place"]) (ix:=[0,1]) ⟨rfl,rfl,by decide +kernel,by decide +kernel,by decide +kernel,(show ∀y:Str × NameKind,y∈_->y.2=NameKind.free->(jae jcj).names.lookup y.1=some .cell\/(jae jcj).names.lookup y.1=some .free from by decide +kernel),(.cons rfl (.inl rfl) rfl (.cons rfl (.inl rfl) rfl .nil))⟩ (jaN rfl T.m_range (jaa jab jac jam)) (fun _ _ _ _=>jao (i:=0) (show (["k","spot","place"]:List Str).Nodup from by decide +kernel) rfl (Or.inl rfl)) (fun _ _ _ _=>(jeM (jau jdP (pv 0) (pv 2) (jax _)))) (fun _ _ _ _=>(jaj (jaR (K:=K) rfl) (pv 1) (pv 0)))) jac jcd)))),?_⟩;have k_h1:=h1.sq (K:=K);have e:k=0\/k=1\/k=2\/k=3:=by omega
  walk_at "rf";walk_at "gf";intro acc hacc;refine jlu (n:=4) (fun i=>.int (match i with | 0=>p.x | 1=>p.y | 2=>p.z | _=>p.w)) (fun i=>!decide ((i:Int)=k)) (by decide) hacc ?_ ?_ ?_
  . intro i H3 R hi s3 hR
    walk_at "rf";have z:=hR H3 (Same.refl _);rw[xb2];exact z
  . intro i H3 R hi ci s3 hR
    have k1:=s3.tup k_h1
    match i,hi with
    | 0, _ =>
      walk_at "rf";walk_at "gf";exact hR _ (Same.refl _)
    | 1, _ =>
      walk_at "rf";walk_at "gf";exact hR _ (Same.refl _)
    | 2, _ =>
      walk_at "rf";walk_at "gf";exact hR _ (Same.refl _)
    | 3, _ =>
      walk_at "rf";walk_at "gf";exact hR _ (Same.refl _)
  intro H1 s1 e1;refine FoR.tupOf (X:=True) (SqL.of e1) fun t H2 s2 e2=>q t H2 (s1.trans s2) ?_;rw[e2];rcases e with rfl | rfl | rfl | rfl<;>rfl
theorem jik {k:Int} (hp:p.sm) (h:H r=some (.tup ((wo k p).map V.int))):∃a b c,wo k p=[a,b,c]/\Tup3 H r a b c:=by
 by_cases k0:k=0
 ·have e:wo k p=[p.y,p.z,p.w]:=if_pos k0;rw[e] at h;exact⟨_,_,_,e,h,hp.2.1,hp.2.2.1,hp.2.2.2⟩
 by_cases k1:k=1
 ·have e:wo k p=[p.x,p.z,p.w]:=by unfold wo;rw[if_neg k0,if_pos k1]
  rw[e] at h;exact⟨_,_,_,e,h,hp.1,hp.2.2.1,hp.2.2.2⟩
 by_cases k2:k=2
 ·have e:wo k p=[p.x,p.y,p.w]:=by unfold wo;rw[if_neg k0,if_neg k1,if_pos k2]
  rw[e] at h;exact⟨_,_,_,e,h,hp.1,hp.2.1,hp.2.2.2⟩
 have e:wo k p=[p.x,p.y,p.z]:=by unfold wo;rw[if_neg k0,if_neg k1,if_neg k2]
 rw[e] at h;exact⟨_,_,_,e,h,hp.1,hp.2.1,hp.2.2.1⟩
theorem Tup3.keep {b:Int} (h:Tup3 H r a b c) (s:Same H H'):Tup3 H' r a b c:=⟨s _ _ h.1,h.2⟩
theorem jjK (T:Tx K mg t1 t2) (F:At K mg "minor_of" jdm ["one","other","third","place"] []) (dH:jan P w K mg base CX0 1 "without" ["spot","place"] [] jfD) (Db:jan P w K mg base CX0 2 "determinant" ["one","other","third"] [] jnm):jan P w K mg base CX0 3 "minor_of" ["one","other","third","place"] [] jeW:=by
 refine F.ok jd2 (fun vs H Q E h=>?_) (fun f cdv A outer s H vs Q E hr h=>?_)
 ·obtain⟨r,e,t,k,p,o,u,rfl,_⟩:=h;rfl
 obtain⟨r,e,t,k,p,o,u,rfl,h1,h2,h3,k0,k3,q⟩:=h;have S:=jd2;refine⟨_,(jai (jas (jah Db hr.m rfl jav (jaa (jah dH hr.m rfl jav (jaa (pv 0) (jaa (pv 3) jac jaf) jaf)) (jaa (jah dH hr.m rfl jav (jaa (pv 1) (jaa (pv 3) jac jaf) jaf)) (jaa (jah dH hr.m rfl jav (jaa (pv 2) (jaa (pv 3) jac jaf) jaf)) jac jaI) jaI) jaI)))),?_⟩;walk_at "rf";refine⟨r,k,p,rfl,h1,k0,k3,fun t1 H1 s1 e1=>?_⟩;refine⟨e,k,o,rfl,h2.keep s1,k0,k3,fun t2 H2 s2 e2=>?_⟩;refine⟨t,k,u,rfl,h3.keep (s1.trans s2),k0,k3,fun t3 H3 s3 e3=>?_⟩;obtain⟨a,b,c,w1,z1⟩:=jik h1.2 e1;obtain⟨a2,b2,c2,w2,z2⟩:=jik h2.2 e2;obtain⟨a3,b3,c3,w3,z3⟩:=jik h3.2 e3;have em:jay k p o u=jby a b c a2 b2 c2 a3 b3 c3:=by
  unfold jay;rw[w1,w2,w3];rfl
 refine⟨t1,t2,t3,a,b,c,a2,b2,c2,a3,b3,c3,rfl,z1.keep (s2.trans s3),z2.keep s3,z3,fun H4 s4=>?_⟩;rw[<- em];exact q H4 (s1.trans (s2.trans (s3.trans s4)))
theorem jlF (T:Tx K mg t1 t2) (F:At K mg "in_line" jdY ["one","other","third"] []) (df:jan P w K mg base CX0 3 "minor_of" ["one","other","third","place"] [] jeW):jan P w K mg base CX0 4 "in_line" ["one","other","third"] [] jkA:=by
  refine F.ok jew (fun vs H Q E h=>?_) (fun f cdv A outer s H vs Q E hr h=>?_)
  . obtain⟨r,e,t,p,o,u,rfl,_⟩:=h
    rfl
  obtain⟨r,e,t,p,o,u,rfl,h1,h2,h3,q⟩:=h;have S:=jew;refine⟨_,(jad (jbx PassesOwn.never rfl (jaN rfl T.m_range (jaa jab jac jam)) (jao (i:=3) S.nd rfl (Or.inl rfl))
    (jai (jaW (jau jdP (jah df hr.m rfl jav (jaa (pv 0) (jaa (pv 1) (jaa (pv 2) (jaa (pv 3) jac jaf) jaf) jaf) jaf)) jab (jax _))
    (jai (jas jdD))
    jaz)))
    (jai (jas jdD))),?_⟩
  walk_at "rf";walk_at "gf";refine jbt (lo:=0) (n:=3) (fun i σ H2=>Same H H2/\∃o3:Option V,σ=[some (.ref r),some (.ref e),some (.ref t),o3]/\(1<=i->jay 0 p o u=0)/\(2<=i->jay 1 p o u=0)/\(3<=i->jay 2 p o u=0)) ⟨Same.refl _,none,rfl,by simp,by simp,by simp⟩ ?_ ?_
  . rintro i σ H2 hi ⟨s2,o3,rfl,e0,e1,e2⟩
    walk_at "rf";refine⟨r,e,t,_,p,o,u,rfl,h1.keep s2,h2.keep s2,h3.keep s2,by omega,by omega,fun H3 s3=>?_⟩;have ei:(0:Int)+(i:Int)=(i:Int):=xb2 _;rw[ei]
    match i,hi with
    | 0, _ =>
      walk_at "rf";refine jb2 (fun c=>⟨s2.trans s3,fun _=>c,fun h=>absurd h (by decide),fun h=>absurd h (by decide)⟩) fun c=>?_;have ef:inl p o u=false:=decide_eq_false fun z=>c z.1;exact ef▸q H3 (s2.trans s3)
    | 1, _ =>
      have d0:=e0 (by decide);walk_at "rf";refine jb2 (fun c=>⟨s2.trans s3,fun _=>d0,fun _=>c,fun h=>absurd h (by decide)⟩) fun c=>?_;have ef:inl p o u=false:=decide_eq_false fun z=>c z.2.1;exact ef▸q H3 (s2.trans s3)
    | 2, _ =>
      have d0:=e0 (by decide);have d1:=e1 (by decide);walk_at "rf";refine jb2 (fun c=>⟨s2.trans s3,fun _=>d0,fun _=>d1,fun _=>c⟩) fun c=>?_;have ef:inl p o u=false:=decide_eq_false fun z=>c z.2.2;exact ef▸q H3 (s2.trans s3)
  . rintro σ H2 ⟨s2,o3,rfl,e0,e1,e2⟩
    have ef:inl p o u=true:=decide_eq_true ⟨e0 (by decide),e1 (by decide),e2 (by decide)⟩;exact ef▸q H2 s2
theorem mem4 {b:Int} (ha:Small a) (hb:Small b) (hc:Small c) (hd:Small d):∀n∈[a,b,c,d],Small n:=fun n hn=>by
 simp only[xav,xbM,or_false] at hn;rcases hn with rfl | rfl | rfl | rfl<;>assumption
theorem gl4 {b:Int} (h:¬(a=0/\b=0/\c=0)):0<gl [a,b,c,d]:=by
 by_cases c1:a=0
 ·by_cases c2:b=0
  ·exact jdw (n:=c) (by simp) fun z=>h ⟨c1,c2,z⟩
  ·exact jdw (n:=b) (by simp) c2
 ·exact jdw (n:=a) (by simp) c1
def vneg (v:V):V:=match v with | .int i=>.int (-i) | _=>v
theorem jjL (ns:List Int):(ns.map V.int).map vneg=(ns.map fun n=>-n).map V.int:=by
 rw[xa4,xa4];rfl
theorem jil (T:Tx K mg t1 t2) (F:At K mg "turned_about" jbd ["plane"] []):jan P w K mg base CX0 1 "turned_about" ["plane"] [] jgD:=by
 refine F.ok jcp (fun vs H Q E h=>?_) (fun f cdv A outer s H vs Q E hr h=>?_)
 ·obtain⟨r,ns,rfl,_⟩:=h;rfl
 obtain⟨r,ns,rfl,h1,hl,q⟩:=h;have S:=jcp;refine⟨_,(jai (jas (jaS jbm rfl T.m_tuple boot_tuple (jaa (ja1 rfl (N':=["number"]) (ix:=[]) ⟨rfl,rfl,by decide +kernel,by decide +kernel,by decide +kernel,(show ∀y:Str × NameKind,y∈_->y.2=NameKind.free->(jae jbd).names.lookup y.1=some .cell\/(jae jbd).names.lookup y.1=some .free from by decide +kernel),.nil⟩ (jc1 (pv 0)) (fun _ _ _ _=>jao (i:=0) (show (["number"]:List Str).Nodup from by decide +kernel) rfl (Or.inl rfl)) (fun _ _ _ _=>ja0) (fun _ _ _ _=>(jdE jcb (pv 0)))) jac jcd)))),?_⟩;have k1:SqT K H r (ns.map V.int):=SqT.of h1;walk_at "rf";walk_at "gf";intro acc hacc;refine jjw vneg (by rw[xaa];omega) hacc k1 ?_ ?_
 ·intro z H3 R hz s3 hR;obtain⟨m,hm,rfl⟩:=xaz.mp hz;walk_at "rd";exact hR _ (Same.refl _)
 intro H1 s1 e1;rw[jjL] at e1;exact FoR.tupOf (X:=True) (SqL.of e1) fun t H2 s2 e2=>q t H2 (s1.trans s2) e2
theorem jlG (T:Tx K mg t1 t2) (F:At K mg "sign_of" jdW ["number"] []):jan P w K mg base CX0 1 "sign_of" ["number"] [] jig:=by
 refine F.ok jet (fun vs H Q E h=>?_) (fun f cdv A outer s H vs Q E hr h=>?_)
 ·obtain⟨a,rfl,_⟩:=h;rfl
 obtain⟨n,rfl,q⟩:=h;have S:=jet;refine⟨_,(jad (jaW (jau jfY (pv 0) jab (jax _))
  (jai (jas jab))
  jaz)
  (jad (jaW (jau jfk (pv 0) jab (jax _))
  (jai (jas (jdE jcb jab)))
  jaz)
  (jai (jas jab)))),?_⟩
 unfold sgn at q;walk_at "rd";refine jb2 (fun c=>?_) fun c=>jb2 (fun c1=>?_) fun c1=>?_
 ·rw[if_pos c] at q;exact q
 ·rw[if_neg c,if_pos c1] at q;exact q
 ·rw[if_neg c,if_neg c1] at q;exact q
theorem jjM (T:Tx K mg t1 t2) (F:At K mg "is_plain" jdn ["plane"] []):jan P w K mg base CX0 1 "is_plain" ["plane"] [] jie:=by
  refine F.ok jd3 (fun vs H Q E h=>?_) (fun f cdv A outer s H vs Q E hr h=>?_)
  . obtain⟨r,a,b,c,d,rfl,_⟩:=h
    rfl
  obtain⟨r,a,b,c,d,rfl,h1,q⟩:=h;have S:=jd3;refine⟨_,(jad (jbx PassesOwn.never rfl (jc1 (jb1 jko (pv 0) jcR (jcS jab))) (jao (i:=1) S.nd rfl (Or.inl rfl))
    (jai (jaW (jau jdP (pv 1) jab (jax _))
    (jai (jas (jch jfY (pv 1) jab (jax _))))
    jaz)))
    (jai (jas jdD))),?_⟩
  walk_at "rf";refine⟨r,_,rfl,SqT.of h1,(show ¬(HT.sIx 4 0 none=0/\HT.sIx 4 4 (some 3)=4) by decide),fun p hp=>?_⟩;have sp:=Same.new hp (.tup (jff [.int a,.int b,.int c,.int d] none (some 3)));have ep:upd H p (.tup (jff [.int a,.int b,.int c,.int d] none (some 3))) p=some (.tup ([a,b,c].map V.int)):=jag;generalize upd H p (.tup (jff [.int a,.int b,.int c,.int d] none (some 3)))=H1 at sp ep |-
  have kp:SqT K H1 p ([a,b,c].map V.int):=SqT.of ep;walk_at "gf";have q:=q H1 sp;unfold plb at q;refine jhG (K:=K) (a:=p) (xs:=[a,b,c].map V.int) (fun i σ H2=>H2=H1/\∃o1:Option V,σ=[some (.ref r),o1]/\(1<=i->a=0)/\(2<=i->b=0)/\(3<=i->c=0)) ⟨rfl,none,rfl,by simp,by simp,by simp⟩ (fun i σ H2 _ ⟨h,_⟩=>by rw[h];exact kp) ?_ ?_
  . rintro i v σ H2 hi ⟨rfl,o1,rfl,e0,e1,e2⟩
    match i,hi with
    | 0, hi =>
      cases hi;walk_at "rf";refine jb2 (fun cc=>⟨fun _=>cc,fun h=>absurd h (by decide),fun h=>absurd h (by decide)⟩) fun cc=>?_;rw[if_pos cc] at q;exact q
    | 1, hi =>
      cases hi;have d0:=e0 (by decide);walk_at "rf";refine jb2 (fun cc=>⟨fun _=>d0,fun _=>cc,fun h=>absurd h (by decide)⟩) fun cc=>?_;rw[if_neg (fun n=>n d0),if_pos cc] at q;exact q
    | 2, hi =>
      cases hi;have d0:=e0 (by decide);have d1:=e1 (by decide);walk_at "rf";refine jb2 (fun cc=>⟨fun _=>d0,fun _=>d1,fun _=>cc⟩) fun cc=>?_;rw[if_neg (fun n=>n d0),if_neg (fun n=>n d1),if_pos cc] at q;exact q
  . rintro σ H2 ⟨rfl,o1,rfl,e0,e1,e2⟩
    rw[if_neg (fun n=>n (e0 (show 1<=3 by decide))),if_neg (fun n=>n (e1 (show 2<=3 by decide))),if_neg (fun n=>n (e2 (show 3<=3 by decide)))] at q;exact q
theorem jjN (T:Tx K mg t1 t2) (F:At K mg "rough_plane" jb5 ["one","other","third"] []) (df:jan P w K mg base CX0 3 "minor_of" ["one","other","third","place"] [] jeW):jan P w K mg base CX0 4 "rough_plane" ["one","other","third"] [] jif:=by
 refine F.ok jcJ (fun vs H Q E h=>?_) (fun f cdv A outer s H vs Q E hr h=>?_)
 ·obtain⟨r,e,t,p,o,u,rfl,_⟩:=h;rfl
 obtain⟨r,e,t,p,o,u,rfl,h1,h2,h3,q⟩:=h;have S:=jcJ;refine⟨_,(jai (jas (jaG (jaa (jah df hr.m rfl jav (jaa (pv 0) (jaa (pv 1) (jaa (pv 2) (jaa jab jac jam) jaf) jaf) jaf)) (jaa (jdE jcb (jah df hr.m rfl jav (jaa (pv 0) (jaa (pv 1) (jaa (pv 2) (jaa jab jac jam) jaf) jaf) jaf))) (jaa (jah df hr.m rfl jav (jaa (pv 0) (jaa (pv 1) (jaa (pv 2) (jaa jab jac jam) jaf) jaf) jaf)) (jaa (jah df hr.m rfl jav (jaa (pv 0) (jaa (pv 1) (jaa (pv 2) (jaa jab jac jam) jaf) jaf) jaf)) jac jaI) jaI) jhe) jaI)))),?_⟩;walk_at "rf";refine⟨r,e,t,0,p,o,u,rfl,h1,h2,h3,by decide,by decide,fun H1 s1=>?_⟩;refine⟨r,e,t,1,p,o,u,rfl,h1.keep s1,h2.keep s1,h3.keep s1,by decide,by decide,fun H2 s2=>?_⟩;have s12:=s1.trans s2;walk_at "rf";refine⟨r,e,t,2,p,o,u,rfl,h1.keep s12,h2.keep s12,h3.keep s12,by decide,by decide,fun H3 s3=>?_⟩;have s13:=s12.trans s3;refine⟨r,e,t,3,p,o,u,rfl,h1.keep s13,h2.keep s13,h3.keep s13,by decide,by decide,fun H4 s4=>?_⟩;exact⟨by decide,fun g hg=>q g _ (s13.trans (s4.trans (Same.new hg _))) jag⟩
theorem jgH {b z u v w:Int} (ha:Sm2 a) (hb:Sm2 b) (hc:Sm2 c) (hx:Sm2 x) (hy:Sm2 y) (hz:Sm2 z) (hu:Sm2 u) (hv:Sm2 v) (hw:Sm2 w):Bd 1953 (jby a b c x y z u v w):=by
 have m:∀{i j k l e:Int},Sm2 i->Sm2 j->Sm2 k->Sm2 l->Sm2 e->Bd 1951 ((i*j-k*l)*e):=fun h1 h2 h3 h4 h5=>Bd.mul (n:=1301) (m:=650) (Bd.sub (Bd.mul (n:=650) (m:=650) h1 h2) (Bd.mul (n:=650) (m:=650) h3 h4)) h5;exact Bd.add (Bd.add (m hb hz hc hy hu) (m hc hx ha hz hv)) (Bd.mono (n:=1951) (m ha hy hb hx hw))
theorem jgI {o u:Pt} (hp:p.sm) (ho:o.sm) (hu:u.sm):Small (jay 0 p o u)/\Small (jay 1 p o u)/\Small (jay 2 p o u)/\Small (jay 3 p o u):=by
 obtain⟨a,b,c,d⟩:=hp;obtain⟨a',b',c',d'⟩:=ho;obtain⟨a2,b2,c2,d2⟩:=hu;exact⟨Bd.mono (n:=1953) (jgH b c d b' c' d' b2 c2 d2),Bd.mono (n:=1953) (jgH a c d a' c' d' a2 c2 d2),Bd.mono (n:=1953) (jgH a b d a' b' d' a2 b2 d2),Bd.mono (n:=1953) (jgH a b c a' b' c' a2 b2 c2)⟩
theorem jjO (T:Tx K mg t1 t2) (F:At K mg "made_plane" jck ["a","b","c","d"] []) (dq:jan P w K mg base CX0 2 "in_lowest_terms" ["numbers"] [] jjI):jan P w K mg base CX0 3 "made_plane" ["a","b","c","d"] [] jii:=by
 refine F.ok jc6 (fun vs H Q E h=>?_) (fun f cdv A outer s H vs Q E hr h=>?_)
 ·obtain⟨a,b,c,d,rfl,_⟩:=h;rfl
 obtain⟨a,b,c,d,rfl,sa,sb,sc,sd,nz,q⟩:=h;have S:=jc6;refine⟨_,(jad (jaW (PW.pt (jfi (jau jdO (pv 0) jab (jax _)) (jfi (jau jdO (pv 1) jab (jax _)) (jeF (jau jdO (pv 2) jab (jax _))))))
  jbB
  jaz)
  (jai (jas (jah dq hr.m rfl jav (jaa (jaG (jaa (pv 0) (jaa (pv 1) (jaa (pv 2) (jaa (pv 3) jac jaf) jaf) jaf) jaf)) jac jaE))))),?_⟩
 have fin:∀p,H p=none->jjI [.ref p] (upd H p (.tup [.int a,.int b,.int c,.int d])) Q (fun _ _ _=>False):=fun p hp =>
  ⟨p,[a,b,c,d],rfl,jag,by simp,mem4 sa sb sc sd,by have:=gl4 (d:=d) nz;omega,fun r H' h1 h2=>q r H' ((Same.new hp _).trans h1) h2⟩
 walk_at "rf";by_cases c1:a=0
 ·rw[if_pos c1];by_cases c2:b=0
  ·rw[if_pos c2];by_cases c3:c=0
   ·exact absurd ⟨c1,c2,c3⟩ nz
   ·rw[if_neg c3];exact⟨by decide,fin⟩
  ·rw[if_neg c2];exact⟨by decide,fin⟩
 ·rw[if_neg c1];exact⟨by decide,fin⟩
theorem jhm (T:Tx K mg t1 t2) (F:At K mg "plane_through" jbC ["one","other","third"] []) (Da:jan P w K mg base CX0 4 "rough_plane" ["one","other","third"] [] jif) (Dc:jan P w K mg base CX0 3 "made_plane" ["a","b","c","d"] [] jii) (Dk:jan P w K mg base CX0 1 "is_plain" ["plane"] [] jie) (dW:jan P w K mg base CX0 1 "turned_about" ["plane"] [] jgD):jan P w K mg base CX0 5 "plane_through" ["one","other","third"] [] jd0:=by
  refine F.ok jce (fun vs H Q E h=>?_) (fun f cdv A outer s H vs Q E hr h=>?_)
  . obtain⟨r,e,t,p,o,u,rfl,_⟩:=h
    rfl
  obtain⟨r,e,t,p,o,u,rfl,h1,h2,h3,na,q⟩:=h;have S:=jce;refine⟨_,(jad (jat (i:=3) S.nd rfl (Or.inl rfl) (jah Da hr.m rfl jav (jaa (pv 0) (jaa (pv 1) (jaa (pv 2) jac jaf) jaf) jaf)))
    (jad (jat (i:=4) S.nd rfl (Or.inl rfl) (jah Dc hr.m rfl jav (jaa (jaj jal (pv 3) jab) (jaa (jaj jal (pv 3) jab) (jaa (jaj jal (pv 3) jab) (jaa (jaj jal (pv 3) jab) jac jaq) jaq) jaq) jaq)))
    (jad (jaW (jbH (jah Dk hr.m rfl jav (jaa (pv 4) jac jaf)))
    (jai (jas (pv 4)))
    jaz)
    (jai (jas (jah dW hr.m rfl jav (jaa (pv 4) jac jaf))))))),?_⟩
  obtain⟨m0,m1,m2,m3⟩:=jgI h1.2 h2.2 h3.2;walk_at "rf";refine⟨r,e,t,p,o,u,rfl,h1,h2,h3,fun g H1 s1 e1=>?_⟩;have kg:SqT K H1 g [.int (jay 0 p o u),.int (-jay 1 p o u),.int (jay 2 p o u),.int (jay 3 p o u)]:=SqT.of e1;walk_at "gf";refine⟨_,_,_,_,rfl,m0,m1.neg,m2,m3,fun z=>na ⟨z.1,by omega,z.2.2⟩,fun g2 H2 s2 e2=>?_⟩;have el:∃a b c d,low (rgh p o u)=[a,b,c,d]:=⟨_,_,_,_,rfl⟩;have e2':H2 g2=some (.tup ((low (rgh p o u)).map V.int)):=e2;obtain⟨a,b,c,d,el⟩:=el;unfold pln at q;rw[el] at q e2';walk_at "rf";refine⟨g2,a,b,c,d,rfl,e2',fun H3 s3=>?_⟩;have s13:=s1.trans (s2.trans s3);dsimp only at q;cases eb:plb a b c with
  | true =>
    rw[eb,if_pos rfl] at q;walk_at "rf";exact q g2 H3 s13 (s3 _ _ e2')
  | false =>
    rw[eb,if_neg (by decide)] at q;walk_at "rf";refine⟨g2,[a,b,c,d],rfl,s3 _ _ e2',by simp,fun g3 H4 s4 e4=>?_⟩;exact q g3 H4 (s13.trans s4) e4
theorem ok_ht (T:Tx K mg t1 t2) (F:At K mg "height_over" jb6 ["plane","spot"] []):jan P w K mg base CX0 1 "height_over" ["plane","spot"] [] spHt:=by
 refine F.ok jcK (fun vs H Q E h=>?_) (fun f cdv A outer s H vs Q E hr h=>?_)
 ·obtain⟨r,e,a,b,c,d,p,rfl,_⟩:=h;rfl
 obtain⟨r,e,a,b,c,d,p,rfl,h1,sa,sb,sc,sd,h2,q⟩:=h;have S:=jcK;refine⟨_,(jai (jas (jap jaZ (jap jbl (jap jbl (jap jar (jaj jal (pv 0) jab) (jaj jal (pv 1) jab)) (jap jar (jaj jal (pv 0) jab) (jaj jal (pv 1) jab))) (jap jar (jaj jal (pv 0) jab) (jaj jal (pv 1) jab))) (jap jar (jaj jal (pv 0) jab) (jaj jal (pv 1) jab))))),?_⟩;have k1:SqT K H r [.int a,.int b,.int c,.int d]:=SqT.of h1;have f1:=sa.bd.fit;have f2:=sb.bd.fit;have f3:=sc.bd.fit;have f4:=sd.bd.fit;have k_h2:=h2.sq (K:=K);have g0:=h2.2.fx;have g1:=h2.2.fy;have g2:=h2.2.fz;have g3:=h2.2.fw;walk_at "rf";walk_at "gf";exact q
theorem jlH (T:Tx K mg t1 t2) (F:At K mg "side_of" jdZ ["plane","spot"] []) (dI:jan P w K mg base CX0 1 "sign_of" ["number"] [] jig) (du:jan P w K mg base CX0 1 "height_over" ["plane","spot"] [] spHt):jan P w K mg base CX0 2 "side_of" ["plane","spot"] [] jgE:=by
 refine F.ok jex (fun vs H Q E h=>?_) (fun f cdv A outer s H vs Q E hr h=>?_)
 ·obtain⟨r,e,a,b,c,d,p,rfl,_⟩:=h;rfl
 obtain⟨r,e,a,b,c,d,p,rfl,h1,sa,sb,sc,sd,h2,q⟩:=h;have S:=jex;refine⟨_,(jai (jas (jah dI hr.m rfl jav (jaa (jah du hr.m rfl jav (jaa (pv 0) (jaa (pv 1) jac jaf) jaf)) jac jaI)))),?_⟩;walk_at "rf";exact⟨r,e,a,b,c,d,p,rfl,h1,sa,sb,sc,sd,h2,_,rfl,q⟩
theorem jjP (T:Tx K mg t1 t2) (F:At K mg "stands_first" jbO ["one","other"] []):jan P w K mg base CX0 1 "stands_first" ["one","other"] [] jih:=by
  refine F.ok jco (fun vs H Q E h=>?_) (fun f cdv A outer s H vs Q E hr h=>?_)
  . obtain⟨r,e,p,o,rfl,_⟩:=h
    rfl
  obtain⟨r,e,p,o,rfl,h1,h2,q⟩:=h;have S:=jco;refine⟨_,(jad (jbx PassesOwn.never rfl (jaN rfl T.m_range (jaa jab jac jam)) (jao (i:=2) S.nd rfl (Or.inl rfl))
    (jad (jat (i:=3) S.nd rfl (Or.inl rfl) (jap jar (jaj jal (pv 0) (pv 2)) (jaj jal (pv 1) jab)))
    (jad (jat (i:=4) S.nd rfl (Or.inl rfl) (jap jar (jaj jal (pv 1) (pv 2)) (jaj jal (pv 0) jab)))
    (jai (jaW (jau jdP (pv 3) (pv 4) (jax _))
    (jai (jas (jch jfk (pv 3) (pv 4) (jax _))))
    jaz)))))
    (jai (jas jdD))),?_⟩
  have k_h1:=h1.sq (K:=K);have k_h2:=h2.sq (K:=K);have f0:=h1.2.fx;have f1:=h1.2.fy;have f2:=h1.2.fz;have f3:=h1.2.fw;have g0:=h2.2.fx;have g1:=h2.2.fy;have g2:=h2.2.fz;have g3:=h2.2.fw;unfold sfp at q;walk_at "rd";refine⟨3,rfl,by decide,by decide,jbt (lo:=0) (n:=3) (fun i σ H2=>H2=H/\∃(o0 o1 o2:Option V),σ=[some (.ref r),some (.ref e),o0,o1,o2]/\(1<=i->p.x*o.w=o.x*p.w)/\(2<=i->p.y*o.w=o.y*p.w)/\(3<=i->p.z*o.w=o.z*p.w)) ⟨rfl,none,none,none,rfl,by simp,by simp,by simp⟩ ?_ ?_⟩
  . rintro i σ H2 hi ⟨rfl,o0,o1,o2,rfl,e0,e1,e2⟩
    match i,hi with
    | 0, _ =>
      walk_at "rd";walk_at "go";refine jb2 (fun c=>⟨fun _=>c,fun h=>absurd h (by decide),fun h=>absurd h (by decide)⟩) fun c=>?_;rw[sf,if_pos c] at q;exact q
    | 1, _ =>
      have d0:=e0 (by decide);walk_at "rd";walk_at "go";refine jb2 (fun c=>⟨fun _=>d0,fun _=>c,fun h=>absurd h (by decide)⟩) fun c=>?_;rw[sf,if_neg (fun n=>n d0),if_pos c] at q;exact q
    | 2, _ =>
      have d0:=e0 (by decide);have d1:=e1 (by decide);walk_at "rd";walk_at "go";refine jb2 (fun c=>⟨fun _=>d0,fun _=>d1,fun _=>c⟩) fun c=>?_;rw[sf,if_neg (fun n=>n d0),if_neg (fun n=>n d1),if_pos c] at q;exact q
  . rintro σ H2 ⟨rfl,o0,o1,o2,rfl,e0,e1,e2⟩
    rw[sf,if_neg (fun n=>n (e0 (by decide))),if_neg (fun n=>n (e1 (by decide))),if_neg (fun n=>n (e2 (by decide)))] at q;walk_at "rd";exact q
theorem jlI (T:Tx K mg t1 t2) (F:At K mg "flat_axis" jcV ["plane"] []):jan P w K mg base CX0 1 "flat_axis" ["plane"] [] jkB:=by
  refine F.ok jdy (fun vs H Q E h=>?_) (fun f cdv A outer s H vs Q E hr h=>?_)
  . obtain⟨r,a,b,c,d,rfl,_⟩:=h
    rfl
  obtain⟨r,a,b,c,d,rfl,h1,nz,q⟩:=h;have S:=jdy;refine⟨_,(jad (jbx PassesOwn.never rfl (jaN rfl T.m_range (jaa jab jac jam)) (jao (i:=1) S.nd rfl (Or.inl rfl))
    (jai (jaW (jau jdP (jaj jal (pv 0) (pv 1)) jab (jax _))
    (jai (jas (pv 1)))
    jaz)))
    (jai (jas ja6))),?_⟩
  have k1:SqT K H r [.int a,.int b,.int c,.int d]:=SqT.of h1;walk_at "rf";walk_at "gf";refine jbt (lo:=0) (n:=3) (fun i σ H2=>H2=H/\∃o1:Option V,σ=[some (.ref r),o1]/\(1<=i->a=0)/\(2<=i->b=0)/\(3<=i->c=0)) ⟨rfl,none,rfl,by simp,by simp,by simp⟩ ?_ ?_
  . rintro i σ H2 hi ⟨rfl,o1,rfl,e0,e1,e2⟩
    match i,hi with
    | 0, _ =>
      walk_at "rf";walk_at "gf";refine jb2 (fun cc=>⟨fun _=>cc,fun h=>absurd h (by decide),fun h=>absurd h (by decide)⟩) fun cc=>?_;exact q _ (.inl ⟨rfl,cc⟩)
    | 1, _ =>
      have d0:=e0 (by decide);walk_at "rf";walk_at "gf";refine jb2 (fun cc=>⟨fun _=>d0,fun _=>cc,fun h=>absurd h (by decide)⟩) fun cc=>?_;exact q _ (.inr (.inl ⟨rfl,d0,cc⟩))
    | 2, _ =>
      have d0:=e0 (by decide);have d1:=e1 (by decide);walk_at "rf";walk_at "gf";refine jb2 (fun cc=>⟨fun _=>d0,fun _=>d1,fun _=>cc⟩) fun cc=>?_;exact q _ (.inr (.inr ⟨rfl,d0,d1,cc⟩))
  . rintro σ H2 ⟨rfl,o1,rfl,e0,e1,e2⟩
    exact absurd ⟨e0 (by decide),e1 (by decide),e2 (by decide)⟩ nz
theorem jlJ (T:Tx K mg t1 t2) (F:At K mg "side_of_edge" jbP ["edge","spot","axis"] []) (dI:jan P w K mg base CX0 1 "sign_of" ["number"] [] jig) (df:jan P w K mg base CX0 3 "minor_of" ["one","other","third","place"] [] jeW):jan P w K mg base CX0 4 "side_of_edge" ["edge","spot","axis"] [] jkC:=by
 refine F.ok jcq (fun vs H Q E h=>?_) (fun f cdv A outer s H vs Q E hr h=>?_)
 ·obtain⟨g,r,e,t,k,p,o,u,rfl,_⟩:=h;rfl
 obtain⟨g,r,e,t,k,p,o,u,rfl,hg,h1,h2,h3,k0,k3,q⟩:=h;have S:=jcq;refine⟨_,(jai (jas (jah dI hr.m rfl jav (jaa (jah df hr.m rfl jav (jaa (jaj jal (pv 0) jab) (jaa (jaj jal (pv 0) jab) (jaa (pv 1) (jaa (pv 2) jac jaf) jaf) jaq) jaq)) jac jaI)))),?_⟩;have kg:SqT K H g [.ref r,.ref e]:=SqT.of hg;walk_at "rf";walk_at "gf";refine⟨r,e,t,k,p,o,u,rfl,h1,h2,h3,k0,k3,fun H1 s1=>?_⟩;exact⟨_,rfl,q H1 s1⟩
def fM1 (H:Hp) (l:Addr) (ps:List Pt):L2.St->Hp->Prop:=fun σ H'=>∃o2:Option V,σ=[some (.ref l),some (.int (fF ps:Nat)),o2,none]/\H'=H
def fM2 (H:Hp) (l:Addr) (ps:List Pt) (rs:List Addr):L2.St->Hp->Prop:=fun σ H'=>∃(g:Addr) (o1 o2:Option V),σ=[some (.ref l),o1,o2,some (.ref g)]/\H' g=some (.lst ((rot (fF ps) rs).map V.ref))/\Same H H'
def fM3 (H:Hp) (ps:List Pt) (rs:List Addr):L2.St->Hp->Prop:=fun σ H'=>∃(g:Addr) (o0 o1 o2:Option V),σ=[o0,o1,o2,some (.ref g)]/\H' g=some (.lst ((frm ps rs).map V.ref))/\Same H H'
theorem jeY {α:Type} {l:List α} (h:f<=l.length):(rot f l).length=l.length:=by
 unfold rot;rw[xad,xat,xay];omega
theorem jim (T:Tx K mg t1 t2) (F:At K mg "formed" jeU ["corners"] []) (dJ:jan P w K mg base CX0 1 "stands_first" ["one","other"] [] jih):jan P w K mg base CX0 2 "formed" ["corners"] [] jeX:=by
  refine F.ok jfF (fun vs H Q E h=>?_) (fun f cdv A outer s H vs Q E hr h=>?_)
  . obtain⟨l,rs,ps,rfl,_⟩:=h
    rfl
  obtain⟨l,rs,ps,rfl,hc,n3,n8,q⟩:=h;have S:=jfF;refine⟨_,(jad (jat (i:=1) S.nd rfl (Or.inl rfl) jab)
    (ja8 (fM1 H l ps) (jbx PassesOwn.never rfl (jdN rfl T.m_range (jaa jab (jaa (jaw jaH rfl T.m_len PySem.boot_len (jaa (pv 0) jac jaf)) jac jaI) jam)) (jao (i:=2) S.nd rfl (Or.inl rfl))
    (jai (jaW (jbH (jah dJ hr.m rfl jav (jaa (jaj ix_list (pv 0) (pv 2)) (jaa (jaj ix_list (pv 0) (pv 1)) jac jaq) jaq)))
    (jai (jat (i:=1) S.nd rfl (Or.inl rfl) (pv 2)))
    jaz)))
    (ja8 (fM2 H l ps rs) (jat (i:=3) S.nd rfl (Or.inl rfl) (jap jfq (jaS jbJ rfl T.m_list boot_list (jaa (jb1 sl_list (pv 0) (jcS (pv 1)) jcR) jac jaq)) (jaS jbJ rfl T.m_list boot_list (jaa (jb1 sl_list (pv 0) jcR (jcS (pv 1))) jac jaq))))
    (ja8 (fM3 H ps rs) (jaW (jbH (jah dJ hr.m rfl jav (jaa (jaj ix_list (pv 3) (jdE jcb jab)) (jaa (jaj ix_list (pv 3) jab) jac jaq) jaq)))
    (jai (jat (i:=3) S.nd rfl (Or.inl rfl) (jap jfq (jb1 sl_list (pv 3) jcR (jcS jab)) (jhg rfl rfl T.m_list rfl T.m_reversed (jb1 sl_list (pv 3) (jcS jab) jcR)))))
    jaz)
    (jai (jas (jaS jb3 rfl T.m_tuple boot_tuple (jaa (pv 3) jac jaf)))))))),?_⟩
  have ln:=hc.2.len;have lm:(rs.map V.ref).length=ps.length:=by rw[xaa,ln]
  have kl:SqL K H l (rs.map V.ref):=SqL.of hc.1;walk_at "rf";refine⟨⟨_,.inl kl,by decide,by decide,by omega,by omega,?_⟩,?_⟩
  . refine jbt (lo:=1) (n:=_) (fun i σ H2=>H2=H /\ ∃o2:Option V,σ=[some (.ref l),some (.int (jgG ps i:Nat)),o2,none]) ⟨rfl,none,rfl⟩ ?_ ?_
    . rintro i σ H2 hi ⟨rfl,o2,rfl⟩
      have hi2:i+1<ps.length:=by omega
      have al:=jd1 ps i;obtain⟨g1,g2⟩:=hc.2.get hi2;obtain⟨g3,g4⟩:=hc.2.get (i:=jgG ps i) (by omega);have e1:atI (rs.map V.ref) (1+(i:Int))=some (.ref (ad rs (i+1))):=by
        have z:(1+(i:Int))=((i+1:Nat):Int):=by omega
        rw[z];exact jaJ g1
      walk_at "rf";refine ixL kl e1 ?_;refine ixL kl (jaJ g3) ?_;refine⟨_,_,_,_,rfl,g2,g4,?_⟩;have ea:jgG ps (i+1)=if sfp (pt ps (i+1)) (pt ps (jgG ps i))=true then i+1 else jgG ps i:=rfl;walk_at "rf";cases es:sfp (pt ps (i+1)) (pt ps (jgG ps i)) with
      | true =>
        rw[es,if_pos rfl] at ea;rw[ea,if_pos rfl];exact⟨by omega,_,rfl⟩
      | false =>
        rw[es,if_neg (by decide)] at ea;rw[ea,if_neg (by decide)];exact⟨rfl,_,rfl⟩
    . rintro σ H2 ⟨rfl,o2,rfl⟩
      have e:(((List.map V.ref rs).length:Int)-1).toNat=ps.length-1:=by omega
      rw[e];exact⟨_,rfl,rfl⟩
  rintro σ1 H1 ⟨o2,rfl,rfl⟩;have fl:fF ps<ps.length:=by have:=jd1 ps (ps.length-1);unfold fF;omega
  walk_at "rf";refine⟨⟨l,_,rfl,kl,fun a1 h1=>?_⟩,?_⟩
  . rw[jgF]
    refine jeh h1 fun J1 s1 e1=>?_;refine⟨a1,rfl,_,.inl (SqL.of e1),fun a2 h2=>?_⟩;refine jeh h2 fun J2 s2 e2=>?_;refine⟨l,_,rfl,(s1.trans s2).seq kl,fun a3 h3=>?_⟩;rw[jdI];refine jeh h3 fun J3 s3 e3=>?_;refine⟨a3,rfl,_,.inl (SqL.of e3),fun a4 h4=>?_⟩;refine jeh h4 fun J4 s4 e4=>?_;refine⟨a2,a4,_,_,rfl,rfl,s4 _ _ (s3 _ _ e2),e4,?_,fun a5 h5=>⟨a5,_,_,rfl,?_,s1.trans (s2.trans (s3.trans (s4.trans (Same.new h5 _))))⟩⟩
    . rw[xat,xay]
      exact xaA (show _<=1000 by omega) (by decide)
    . unfold rot
      rw[xah,xcj,xck];exact jag
  rintro σ2 H2 ⟨g,o1,o2,rfl,hg,s2⟩;have hr2:=(hc.2.keep s2.t).rot (fF ps);have rl:(rot (fF ps) ps).length=ps.length:=jeY (by omega);have rl2:((rot (fF ps) rs).map V.ref).length=ps.length:=by rw[xaa,jeY (by omega),ln]
  have kg:SqL K H2 g ((rot (fF ps) rs).map V.ref):=SqL.of hg;obtain⟨b1,b2⟩:=hr2.get (i:=ps.length-1) (by omega);obtain⟨b3,b4⟩:=hr2.get (i:=1) (by omega);have ef:∀{α:Type} (x:List α),frm ps x=turn (fB ps) (rot (fF ps) x):=fun _=>rfl;have eb:fB ps=sfp (pt (rot (fF ps) ps) (ps.length-1)) (pt (rot (fF ps) ps) 1):=rfl;walk_at "rf";refine⟨ixL kg (jb9 (n:=ps.length-1) (by omega) b1) (ixL kg (jaJ (j:=1) b3) ?_),?_⟩
  . refine⟨_,_,_,_,rfl,b2,b4,?_⟩
    rw[<- eb];have ef:=ef rs;cases es:fB ps with
    | false =>
      rw[es] at ef;walk_at "rf";exact⟨g,_,_,_,rfl,by rw[ef];exact hg,s2⟩
    | true =>
      rw[es] at ef;have ef2:frm ps rs=(rot (fF ps) rs).take 1++((rot (fF ps) rs).drop 1).reverse:=ef;walk_at "rf";refine⟨g,_,rfl,kg,fun a1 h1=>?_⟩;have c1:jff ((rot (fF ps) rs).map V.ref) none (some 1)=((rot (fF ps) rs).map V.ref).take 1:=jdI (f:=1);rw[c1];refine jeh h1 fun J1 s3 e1=>?_;refine⟨g,_,rfl,s3.seq kg,fun a2 h2=>?_⟩;have c2:jff ((rot (fF ps) rs).map V.ref) (some 1) none=((rot (fF ps) rs).map V.ref).drop 1:=jgF (f:=1);rw[c2];refine jeh h2 fun J2 s4 e2=>?_;refine⟨a2,rfl,_,SqL.of e2,fun a3 h3=>?_⟩;refine jeh h3 fun J3 s5 e3=>?_;refine⟨a1,a3,_,_,rfl,rfl,s5 _ _ (s4 _ _ e1),e3,?_,fun a4 h4=>⟨a4,_,_,_,rfl,?_,s2.trans (s3.trans (s4.trans (s5.trans (Same.new h4 _))))⟩⟩
      . rw[xaM,xat,xay]
        exact xaA (show _<=1000 by omega) (by decide)
      . rw[ef2,xah,xck,List.map_reverse,xcj]
        exact jag
  rintro σ3 H3 ⟨g,o0,o1,o2,rfl,hg,s3⟩;walk_at "rf";exact⟨_,SqL.of hg,fun t ht=>q t _ (s3.trans (Same.new ht _)) jag⟩
theorem jjQ {rs:List Addr} (h:Sps H rs ps) (hi:i<ps.length):atI (rs.map V.ref) ((i:Int)-1)=some (.ref (ad rs ((i+(ps.length-1)) % ps.length))):=by
  have lm:(rs.map V.ref).length=ps.length:=by rw[xaa,h.len]
  cases i with
  | zero =>
    have e:(0+(ps.length-1)) % ps.length=ps.length-1:=by rw[xbi];exact xae (by omega)
    rw[e];have z:((0:Nat):Int)-1=-1:=rfl;rw[z];exact jb9 (n:=ps.length-1) (by omega) (h.get (i:=ps.length-1) (by omega)).1
  | succ i =>
    have e:(i+1+(ps.length-1)) % ps.length=i:=by
      have z:i+1+(ps.length-1)=i+ps.length:=by omega
      rw[z,xaS];exact xae (by omega)
    rw[e];have z:((i+1:Nat):Int)-1=(i:Int):=by omega
    rw[z];exact jaJ (h.get (i:=i) (by omega)).1
theorem jnq (T:Tx K mg t1 t2) (F:At K mg "is_convex" jcW ["corners","axis"] []) (dM:jan P w K mg base CX0 4 "side_of_edge" ["edge","spot","axis"] [] jkC):jan P w K mg base CX0 5 "is_convex" ["corners","axis"] [] jnn:=by
 refine F.ok jdz (fun vs H Q E h=>?_) (fun f cdv A outer s H vs Q E hr h=>?_)
 ·obtain⟨l,k,rs,ps,rfl,_⟩:=h;rfl
 obtain⟨l,k,rs,ps,rfl,hc,n3,n8,k0,k2,rnd,q⟩:=h;have S:=jdz;refine⟨_,(jad (jat (i:=2) S.nd rfl (Or.inl rfl) (jah dM hr.m rfl jav (jaa (jaG (jaa (jaj ix_list (pv 0) jab) (jaa (jaj ix_list (pv 0) jab) jac jaq) jaq)) (jaa (jaj ix_list (pv 0) jab) (jaa (pv 1) jac jaf) jaq) jaE)))
  (jad (jat (i:=3) S.nd rfl (Or.inl rfl) (jaw jaH rfl T.m_len PySem.boot_len (jaa (pv 0) jac jaf)))
  (jad (jbx PassesOwn.never rfl (jaN rfl T.m_range (jaa (pv 3) jac jaf)) (jao (i:=4) S.nd rfl (Or.inl rfl))
  (jad (jat (i:=5) S.nd rfl (Or.inl rfl) (jaG (jaa (jaj ix_list (pv 0) (jap jaZ (pv 4) jab)) (jaa (jaj ix_list (pv 0) (pv 4)) jac jaq) jaq)))
  (jai (jbx PassesOwn.never rfl (jdN rfl T.m_range (jaa jab (jaa (jap jaZ (pv 3) jab) jac jbb) jam)) (jao (i:=6) S.nd rfl (Or.inl rfl))
  (jai (jaW (jau jdP (jah dM hr.m rfl jav (jaa (pv 5) (jaa (jaj ix_list (pv 0) (jap jbI (jap jbl (pv 4) (pv 6)) (pv 3))) (jaa (pv 1) jac jaf) jaq) jaf)) (pv 2) (jax _))
  (jai (jas jdD))
  jaz))))))
  (jai (jas jdD))))),?_⟩
 have ln:=hc.2.len;have lm:(rs.map V.ref).length=ps.length:=by rw[xaa,ln]
 have kl:SqL K H l (rs.map V.ref):=SqL.of hc.1;obtain⟨a1,a2⟩:=hc.2.get (i:=0) (by omega);obtain⟨a3,a4⟩:=hc.2.get (i:=1) (by omega);obtain⟨a5,a6⟩:=hc.2.get (i:=2) (by omega);walk_at "rf";refine ixL kl (jaJ (j:=0) a1) (ixL kl (jaJ (j:=1) a3) ⟨by decide,fun g hg=>?_⟩);refine jeh hg fun H1 s1 e1=>?_;refine ixL (s1.seq kl) (jaJ (j:=2) a5) ?_;refine⟨g,_,_,_,k,_,_,_,rfl,e1,a2.keep s1,a4.keep s1,a6.keep s1,k0,by omega,fun H2 s2=>?_⟩;have s12:=s1.trans s2;have kl2:=s12.seq kl;walk_at "rf";refine⟨_,.inl kl2,?_⟩;rw[lm];refine⟨by omega,by omega,?_⟩;refine jbt (lo:=0) (n:=_) (fun i σ H3=>Same H H3/\∃o4 o5 o6:Option V,σ=[some (.ref l),some (.int k),some (.int (sgn (jay k (pt ps 0) (pt ps 1) (pt ps 2)))),some (.int (ps.length:Nat)),o4,o5,o6]) ⟨s12,none,none,none,rfl⟩ ?_ ?_
 ·rintro i σ H3 hi ⟨s3,o4,o5,o6,rfl⟩;have hi2:i<ps.length:=by simpa using hi
  have kl3:=s3.seq kl;have sp3:=hc.2.keep s3.t;obtain⟨b1,b2⟩:=sp3.get hi2;have hm:(i+(ps.length-1)) % ps.length<ps.length:=xaC _ (by omega);obtain⟨b3,b4⟩:=sp3.get hm;have ep:=jjQ sp3 hi2;have z0:(0:Int)+(i:Int)=(i:Int):=xb2 _;rw[z0];walk_at "rf";refine ixL kl3 ep (ixL kl3 (jaJ b1) ⟨by decide,fun g3 hg3=>?_⟩);refine jeh hg3 fun H4 s4 e4=>?_;refine⟨by decide,by decide,by omega,by omega,?_⟩;refine jbt (lo:=1) (n:=_) (fun j σ H5=>Same H4 H5/\∃o6:Option V,σ=[some (.ref l),some (.int k),some (.int (sgn (jay k (pt ps 0) (pt ps 1) (pt ps 2)))),some (.int (ps.length:Nat)),some (.int (i:Int)),some (.ref g3),o6]) ⟨Same.refl _,_,rfl⟩ ?_ ?_
  ·rintro j σ H5 hj ⟨s5,o6,rfl⟩;have hj2:j+1<ps.length-1:=by omega
   have s35:=s4.trans s5;have s05:=s3.trans s35;have sp5:=hc.2.keep s05.t;have hm2:(i+(j+1)) % ps.length<ps.length:=xaC _ (by omega);obtain⟨c1,c2⟩:=sp5.get hm2;have ez:((i:Int)+(1+(j:Int))) % ((ps.length:Nat):Int)=(((i+(j+1)) % ps.length:Nat):Int):=by
    rw[Int.natCast_emod]
    congr 1
    omega
   walk_at "rf";rw[ez];refine⟨by omega,ixL (s05.seq kl) (jaJ c1) ?_⟩;refine⟨g3,_,_,_,k,_,_,_,rfl,s5 _ _ e4,b4.keep s35,b2.keep s35,c2,k0,by omega,fun H6 s6=>?_⟩;rw[rnd i (j+1) hi2 (by omega) hj2];walk_at "rf";exact⟨s5.trans s6,_,rfl⟩
  ·rintro σ H5 ⟨s5,o6,rfl⟩;exact⟨s3.trans (s4.trans s5),_,_,_,rfl⟩
 ·rintro σ H3 ⟨s3,o4,o5,o6,rfl⟩;exact q _ s3
theorem jin {b:Int} (h:¬(a=0/\b=0/\c=0)) (hp:plb a b c=false):plb (-a) (-b) (-c)=true:=by
 by_cases ha:a=0
 ·by_cases hb:b=0
  ·have hc:c≠0:=fun z=>h ⟨ha,hb,z⟩;simp [plb,ha,hb,hc] at hp |-
   omega
  ·simp [plb,ha,hb] at hp |-
   omega
 ·simp [plb,ha] at hp |-
  omega
theorem jkE (ns:List Int):gl (ns.map fun n=>-n)=gl ns:=by
 have d1:gl (ns.map fun n=>-n) ∣ gl ns:=jes fun n hn=>Int.dvd_neg.mp (jaQ (xaz.mpr ⟨n,hn,rfl⟩));have d2:gl ns ∣ gl (ns.map fun n=>-n):=jes fun n hn=>by
  obtain⟨m,hm,rfl⟩:=xaz.mp hn;exact Int.dvd_neg.mpr (jaQ hm)
 exact Int.dvd_antisymm (jbc _) (jbc _) d1 d2
theorem jio {b:Int} (h:¬(a=0/\b=0/\c=0)) (sa:Small a) (sb:Small b) (sc:Small c) (sd:Small d):∃x y z w:Int,pln [a,b,c,d]=[x,y,z,w]/\Small x/\Small y/\Small z/\Small w/\gl [x,y,z,w]=1/\plb x y z=true/\∀p:Pt,hgt a b c d p=0->hgt x y z w p=0:=by
  have gp:=gl4 (d:=d) h;have g1:gl (low [a,b,c,d])=1:=jnk (ns:=[a,b,c,d]) (by omega);have nz:¬(a / gl [a,b,c,d]=0/\b / gl [a,b,c,d]=0/\c / gl [a,b,c,d]=0):=fun z=>by
    have g:∀{x:Int},x∈[a,b,c,d]->x / gl [a,b,c,d]=0->x=0:=fun hx z=>xai fun q=>jdV (jaQ hx) q z;exact h ⟨g (by simp) z.1,g (by simp) z.2.1,g (by simp) z.2.2⟩
  have el:low [a,b,c,d]=[a / gl [a,b,c,d],b / gl [a,b,c,d],c / gl [a,b,c,d],d / gl [a,b,c,d]]:=rfl;have ea:=xa1 (jaQ (ns:=[a,b,c,d]) (n:=a) (by simp));have eb:=xa1 (jaQ (ns:=[a,b,c,d]) (n:=b) (by simp));have ec:=xa1 (jaQ (ns:=[a,b,c,d]) (n:=c) (by simp));have ed:=xa1 (jaQ (ns:=[a,b,c,d]) (n:=d) (by simp));have s1:=sa.div (g:=gl [a,b,c,d]);have s2:=sb.div (g:=gl [a,b,c,d]);have s3:=sc.div (g:=gl [a,b,c,d]);have s4:=sd.div (g:=gl [a,b,c,d]);unfold pln;rw[el] at g1 |-
  generalize gl [a,b,c,d]=g at gp g1 nz ea eb ec ed s1 s2 s3 s4 |-
  generalize a / g=x at g1 nz ea s1 |-
  generalize b / g=y at g1 nz eb s2 |-
  generalize c / g=z at g1 nz ec s3 |-
  generalize d / g=w at g1 ed s4 |-
  have hz:∀p:Pt,hgt a b c d p=0->hgt x y z w p=0:=fun p hp=>by
    have e:hgt x y z w p*g=0:=by
      rw[<- hp,<- ea,<- eb,<- ec,<- ed];unfold hgt;grind
    rcases xaE.mp e with q | q
    . exact q
    . omega
  show ∃x' y' z' w':Int,(if plb x y z=true then [x,y,z,w] else [-x,-y,-z,-w])=[x',y',z',w']/\_;cases eb:plb x y z with
  | true=>exact⟨x,y,z,w,if_pos rfl,s1,s2,s3,s4,g1,eb,hz⟩
  | false =>
    refine⟨-x,-y,-z,-w,if_neg (by decide),s1.neg,s2.neg,s3.neg,s4.neg,?_,jin nz eb,fun p hp=>?_⟩
    . rw[<- g1]
      exact jkE [x,y,z,w]
    . have e:=hz p hp
      have e2:hgt (-x) (-y) (-z) (-w) p=-hgt x y z w p:=by
        unfold hgt;grind
      rw[e2,e];rfl
theorem jnr {b z w:Int} (h:pln [a,b,c,d]=[x,y,z,w]):(x≠0->a≠0)/\(y≠0->b≠0)/\(z≠0->c≠0):=by
 have el:low [a,b,c,d]=[a / gl [a,b,c,d],b / gl [a,b,c,d],c / gl [a,b,c,d],d / gl [a,b,c,d]]:=rfl;unfold pln at h;rw[el] at h;generalize gl [a,b,c,d]=g at h;have h':(if plb (a / g) (b / g) (c / g)=true then [a / g,b / g,c / g,d / g] else [-(a / g),-(b / g),-(c / g),-(d / g)])=[x,y,z,w]:=h;have z0:∀{i:Int},i=0->i / g=0:=fun e=>by rw[e];exact Int.zero_ediv g
 split at h'
 ·simp only[List.cons.injEq,and_true] at h';obtain⟨e1,e2,e3,_⟩:=h';exact⟨fun q e=>q (by rw[<- e1];exact z0 e),fun q e=>q (by rw[<- e2];exact z0 e),fun q e=>q (by rw[<- e3];exact z0 e)⟩
 ·simp only[List.cons.injEq,and_true] at h';obtain⟨e1,e2,e3,_⟩:=h';exact⟨fun q e=>q (by rw[<- e1,z0 e];rfl),fun q e=>q (by rw[<- e2,z0 e];rfl),fun q e=>q (by rw[<- e3,z0 e];rfl)⟩
theorem jns {z:Int} (h:plb x y z=true):¬(x=0/\y=0/\z=0):=fun e=>by
 simp [plb,e.1,e.2.1,e.2.2] at h
theorem sgn0:sgn 0=0:=rfl
theorem jnt {o u:Pt} (h:¬jbE p o u):inl p o u=false:=decide_eq_false h
theorem jjR (T:Tx K mg t1 t2) (F:At K mg "made_board" jcl ["corners"] []) (Dl:jan P w K mg base CX0 4 "in_line" ["one","other","third"] [] jkA) (dB:jan P w K mg base CX0 5 "plane_through" ["one","other","third"] [] jd0) (di:jan P w K mg base CX0 2 "side_of" ["plane","spot"] [] jgE) (Df:jan P w K mg base CX0 1 "flat_axis" ["plane"] [] jkB) (De:jan P w K mg base CX0 5 "is_convex" ["corners","axis"] [] jnn) (dA:jan P w K mg base CX0 2 "formed" ["corners"] [] jeX):jan P w K mg base CX0 6 "made_board" ["corners"] [] jf5:=by
 refine F.ok jc7 (fun vs H Q E h=>?_) (fun f cdv A outer s H vs Q E hr h=>?_)
 ·obtain⟨l,rs,ps,rfl,_⟩:=h;rfl
 obtain⟨l,rs,ps,rfl,hc,B,q⟩:=h;have S:=jc7;refine⟨_,(jad (jaW (PW.pt (jfW (jau jfk (jaw jaH rfl T.m_len PySem.boot_len (jaa (pv 0) jac jaf)) jab (jax _)) (jfh (jau jfY (jaw jaH rfl T.m_len PySem.boot_len (jaa (pv 0) jac jaf)) (jhy rfl T.m_MOST_CORNERS T.r_MOST_CORNERS) (jax _)))))
  jbB
  jaz)
  (jad (jaW (jbH (jah Dl hr.m rfl jav (jaa (jaj ix_list (pv 0) jab) (jaa (jaj ix_list (pv 0) jab) (jaa (jaj ix_list (pv 0) jab) jac jaq) jaq) jaq)))
  jbB
  jaz)
  (jad (jat (i:=1) S.nd rfl (Or.inl rfl) (jah dB hr.m rfl jav (jaa (jaj ix_list (pv 0) jab) (jaa (jaj ix_list (pv 0) jab) (jaa (jaj ix_list (pv 0) jab) jac jaq) jaq) jaq)))
  (jad (jbx PassesOwn.never rfl (jbN (pv 0)) (jao (i:=2) S.nd rfl (Or.inl rfl))
  (jai (jaW (jau jdP (jah di hr.m rfl jav (jaa (pv 1) (jaa (pv 2) jac jaf) jaf)) jab (jax _))
  jbB
  jaz)))
  (jad (jaW (jcZ (jbH (jah De hr.m rfl jav (jaa (pv 0) (jaa (jah Df hr.m rfl jav (jaa (pv 1) jac jaf)) jac jaI) jaf))))
  jbB
  jaz)
  (jai (jas (jah dA hr.m rfl jav (jaa (pv 0) jac jaf))))))))),?_⟩
 have n3:=B.n3;have n8:=B.n8;have ln:=hc.2.len;have lm:(rs.map V.ref).length=ps.length:=by rw[xaa,ln]
 have kl:SqL K H l (rs.map V.ref):=SqL.of hc.1;obtain⟨a1,a2⟩:=hc.2.get (i:=0) (by omega);obtain⟨a3,a4⟩:=hc.2.get (i:=1) (by omega);obtain⟨a5,a6⟩:=hc.2.get (i:=2) (by omega);obtain⟨m0,m1,m2,m3⟩:=jgI a2.2 a4.2 a6.2;obtain⟨x,y,z,v,ep,sx,sy,sz,sv,g1',pb,hz⟩:=jio (a:=jay 0 (pt ps 0) (pt ps 1) (pt ps 2)) (b:=-jay 1 (pt ps 0) (pt ps 1) (pt ps 2)) (c:=jay 2 (pt ps 0) (pt ps 1) (pt ps 2)) (d:=jay 3 (pt ps 0) (pt ps 1) (pt ps 2)) (fun z=>B.na ⟨z.1,by omega,z.2.2⟩) m0 m1.neg m2 m3;obtain⟨nx,ny,nz⟩:=jnr ep;have er:rgh (pt ps 0) (pt ps 1) (pt ps 2)=[jay 0 (pt ps 0) (pt ps 1) (pt ps 2),-jay 1 (pt ps 0) (pt ps 1) (pt ps 2),jay 2 (pt ps 0) (pt ps 1) (pt ps 2),jay 3 (pt ps 0) (pt ps 1) (pt ps 2)]:=rfl;walk_at "rf";refine⟨_,.inl kl,?_⟩;rw[lm,if_neg (by omega)];refine⟨_,.inl kl,?_⟩;rw[lm,if_neg (by omega)];refine ixL kl (jaJ (j:=0) a1) (ixL kl (jaJ (j:=1) a3) (ixL kl (jaJ (j:=2) a5) ?_));refine⟨_,_,_,_,_,_,rfl,a2,a4,a6,fun H1 s1=>?_⟩;rw[jnt B.na];have kl1:=s1.seq kl;walk_at "rf";refine ixL kl1 (jaJ (j:=0) a1) (ixL kl1 (jaJ (j:=1) a3) (ixL kl1 (jaJ (j:=2) a5) ?_));refine⟨_,_,_,_,_,_,rfl,a2.keep s1,a4.keep s1,a6.keep s1,B.na,fun g H2 s2 e2=>?_⟩;rw[er,ep] at e2;have s12:=s1.trans s2;have kl2:=s12.seq kl;try walk_at "rf"
 refine⟨⟨_,kl2⟩,?_⟩;refine jb0 (K:=K) (a:=l) (xs:=rs.map V.ref) (fun i σ H3=>H3=H2/\∃o2:Option V,σ=[some (.ref l),some (.ref g),o2]) ⟨rfl,none,rfl⟩ (fun i σ H3 _ ⟨h,_⟩=>by rw[h];exact kl2) ?_ ?_
 ·rintro i r σ H3 hi ⟨rfl,o2,rfl⟩;have hlt:i<ps.length:=by
   have:=(xaf.mp hi).1;omega
  obtain⟨b1,b2⟩:=(hc.2.keep s12.t).get hlt;rw[b1] at hi;cases hi;walk_at "rf";refine⟨g,_,x,y,z,v,_,rfl,e2,sx,sy,sz,sv,b2,?_⟩;rw[hz _ (B.flat i hlt)];walk_at "rf";rw[if_pos sgn0];exact⟨_,rfl⟩
 ·rintro σ H3 ⟨rfl,o2,rfl⟩;walk_at "rf";refine⟨g,x,y,z,v,rfl,e2,jns pb,fun k hk=>?_⟩;have kk:0<=k/\k<=2/\jay k (pt ps 0) (pt ps 1) (pt ps 2)≠0:=by
   rcases hk with ⟨rfl,h⟩ | ⟨rfl,_,h⟩ | ⟨rfl,_,_,h⟩
   ·exact⟨by decide,by decide,nx h⟩
   ·exact⟨by decide,by decide,fun e=>ny h (by omega)⟩
   ·exact⟨by decide,by decide,nz h⟩
  refine⟨l,k,rs,ps,rfl,hc.keep s12,n3,n8,kk.1,kk.2.1,B.rnd k kk.1 kk.2.1 kk.2.2,fun H4 s4=>?_⟩;walk_at "rf";refine⟨l,rs,ps,rfl,hc.keep (s12.trans s4),n3,xaA n8 (by decide),fun t H5 s5 e5=>?_⟩;exact q t H5 (s12.trans (s4.trans s5)) e5
def jfH:Sp:=fun vs H Q _=>∃(t:Addr) (rs:List Addr) (ps:List Pt),vs=[.ref t]/\H t=some (.tup (rs.map V.ref))/\Sps H rs ps/\3<=ps.length/\¬jbE (pt ps 0) (pt ps 1) (pt ps 2)/\∀(g:Addr) (H':Hp),Same H H'->H' g=some (.tup ((pln (rgh (pt ps 0) (pt ps 1) (pt ps 2))).map V.int))->Q (.ref g) H'
theorem jhn (T:Tx K mg t1 t2) (F:At K mg "plane_of" jdo ["board"] []) (dB:jan P w K mg base CX0 5 "plane_through" ["one","other","third"] [] jd0):jan P w K mg base CX0 6 "plane_of" ["board"] [] jfH:=by
 refine F.ok jd5 (fun vs H Q E h=>?_) (fun f cdv A outer s H vs Q E hr h=>?_)
 ·obtain⟨t,rs,ps,rfl,_⟩:=h;rfl
 obtain⟨t,rs,ps,rfl,ht,hc,n3,na,q⟩:=h;have S:=jd5;refine⟨_,(jai (jas (jah dB hr.m rfl jav (jaa (jaj jal (pv 0) jab) (jaa (jaj jal (pv 0) jab) (jaa (jaj jal (pv 0) jab) jac jaq) jaq) jaq)))),?_⟩;have kt:SqT K H t (rs.map V.ref):=SqT.of ht;obtain⟨a1,a2⟩:=hc.get (i:=0) (by omega);obtain⟨a3,a4⟩:=hc.get (i:=1) (by omega);obtain⟨a5,a6⟩:=hc.get (i:=2) (by omega);walk_at "rf";refine ixT kt (jaJ (j:=0) a1) (ixT kt (jaJ (j:=1) a3) (ixT kt (jaJ (j:=2) a5) ?_));exact⟨_,_,_,_,_,_,rfl,a2,a4,a6,na,q⟩
theorem jkF {n:Int} (h:0<=n):0<=sgn n:=by
 unfold sgn;split
 ·decide
 ·split<;>omega
theorem jnu {n:Int} (h:n<=0):sgn n<=0:=by
 unfold sgn;split
 ·omega
 ·split<;>omega
theorem jlK {n:Int} (h:0<n):sgn n=1:=by
 unfold sgn;rw[if_pos h]
theorem jjS {n:Int} (h:n<0):sgn n=-1:=by
 unfold sgn;rw[if_neg (by omega),if_pos h]
theorem jnv {n:Int} (h:n=0):sgn n=0:=by rw[h];rfl
theorem jcg {X:Cx} {K:PySem.W.Frag} (h:X.K=K):IxR X (fun x y H Q=>jmJ K x y H Q\/jek K x y H Q):=h▸ix_lt
variable {Q:VK}
theorem jgJ {i:Int} {v:V} (k:SqL K H r xs\/SqT K H r xs) (e:atI xs i=some v) (q:Q v H):jmJ K (.ref r) (.int i) H Q\/jek K (.ref r) (.int i) H Q:=by
 rcases k with k | k
 ·exact .inl (ixL k e q)
 ·exact .inr (ixT k e q)
local macro_rules | `(tactic| walk_at "gl") => `(tactic| repeat (first | ((with_reducible apply L2.ixT); assumption; rfl) | ((with_reducible apply My.jgJ); assumption; rfl) | ((with_reducible apply L2.ixL); assumption; rfl) | ((with_reducible apply And.intro); (walk_at "sd")) | walk_at "rf"))
structure Tri where
 x:Int
 y:Int
 z:Int
def Tri.bd (n:Nat) (v:Tri):Prop:=Bd n v.x/\Bd n v.y/\Bd n v.z
structure Sht where
 s:Tri
 w:Int
 c:Tri
 d:Tri
def Sht.u (S:Sht):Tri:=⟨S.c.y*S.d.z-S.c.z*S.d.y,S.c.z*S.d.x-S.c.x*S.d.z,S.c.x*S.d.y-S.c.y*S.d.x⟩
def Tri.nz (v:Tri):Prop:=¬(v.x=0/\v.y=0/\v.z=0)
def Box (H:Hp) (L:Addr):Prop:=∃m:Int,H L=some (.lst [.int m])
theorem SameB.t (s:SameB L H H') (h:Box H L):SameT H H':=fun b xs hb=>by
 by_cases e:b=L
 ·obtain⟨m,hm⟩:=h;rw[e,hm] at hb;cases hb
 ·exact s b _ e hb
def Ix (ix:List Nat):Prop:=3<=ix.length/\ix.length<=8/\ix.Pairwise (· < ·)/\∀i∈ix,i<8
def rX (S:Sht) (v:Tri):Int:=S.s.x*v.z+S.w*(v.x*S.c.x+v.y*S.d.x)
def rY (S:Sht) (v:Tri):Int:=S.s.y*v.z+S.w*(v.x*S.c.y+v.y*S.d.y)
def rZ (S:Sht) (v:Tri):Int:=S.s.z*v.z+S.w*(v.x*S.c.z+v.y*S.d.z)
def rW (S:Sht) (v:Tri):Int:=S.w*v.z
def rG (S:Sht) (v:Tri):Int:=gl [rX S v,rY S v,rZ S v,rW S v]
def spt (S:Sht) (v:Tri):Pt:=⟨rX S v / rG S v,rY S v / rG S v,rZ S v / rG S v,rW S v / rG S v⟩
def Tri.pl (v:Tri):Prop:=1<=v.z
theorem Bd.div {i:Int} (h:Bd n i):Bd n (i / g):=xbd (xbH i g) h
local macro_rules | `(tactic| walk_at "gl") => `(tactic| repeat (first | ((with_reducible apply L2.ixT); assumption; rfl) | ((with_reducible apply My.jgJ); assumption; rfl) | ((with_reducible apply L2.ixL); assumption; rfl) | ((with_reducible apply And.intro); (walk_at "sd")) | walk_at "rf"))
def pl4 (p:Pt):List Int:=[p.x,p.y,p.z,p.w]
theorem Sps.rds {rs:List Addr} (h:Sps H rs ps):RdsAll K H (rs.map V.ref) (jfT (ps.map pl4)):=by
 induction h with
 | nil=>exact .nil
 | cons h _ ih=>exact .cons (.tup (SqT.of h.1) (RdsAll.ints (pl4 _))) ih
def jlL (ps:List Pt):PyData:=.tuple (jfT (ps.map pl4))
theorem jip {b:Addr} {rs:List Addr} (hb:H b=some (.tup (rs.map V.ref))) (h:Sps H rs ps):Rds K H (.ref b) (jlL ps):=.tup (SqT.of hb) h.rds
theorem jiq (ps:List Pt):PyData.canLay0 (jlL ps)=true/\PyData.depth (jlL ps)<=2/\PyData.eqv (jlL ps) (jlL ps)=true:=by
 obtain⟨h1,h2⟩:=jgs (ps.map pl4);refine⟨h1,?_,?_⟩
 ·show PyData.depth (.tuple (jfT (ps.map pl4)))<=2;simp only[PyData.depth];omega
 ·show PyData.eqvAll (jfT (ps.map pl4)) (jfT (ps.map pl4))=true;rw[jgt,decide_eq_true rfl]
theorem jir {m h k:Int} (hm:0<m) (hk:0<k) (e:d*m=h*k):d<0↔h<0:=by
 constructor
 ·intro hd;apply xai;intro n;have a:=xaN hd hm;have b:=xaG (show 0<=h by omega) (show 0<=k by omega);omega
 ·intro hh;apply xai;intro n;have a:=xaN hh hk;have b:=xaG (show 0<=d by omega) (show 0<=m by omega);omega
theorem jis {b k:Int} {m:Int} (hk:0<k) (hm:0<m) (e:a*k=m*b):sgn a=sgn b:=by
 have e':a*k=b*m:=by rw[e];exact xa3 ..
 have n:=jir hk hm e';have p:=jir (d:=-a) (h:=-b) hk hm (by rw[xbN,xbN,e']);unfold sgn;by_cases c:0<a
 ·rw[if_pos c,if_pos (show b>0 by omega)]
 ·rw[if_neg c,if_neg (show ¬b>0 by omega)];by_cases d:a<0
  ·rw[if_pos d,if_pos (by omega)]
  ·rw[if_neg d,if_neg (by omega)]
theorem jd9:∀(ns:List Int) (d k m:Int),k ∣ m*d->(∀n∈ns,k ∣ m*n)->k ∣ m*G d ns
  | [],_,_,_,h,_=>h
  | n :: r, d, k, m, h, hn => by
    rw[jfB];refine jd9 r _ k m ?_ fun n' h'=>hn n' (xan _ h');have h1:=xbw h (hn n xaX);rw[Int.gcd_mul_left,Int.natCast_mul] at h1;exact xbq h1 (Int.mul_dvd_mul (Int.natAbs_dvd.mpr (xca m)) (xca _))
theorem jkG (p o u:Pt):jay 0 p o u=jby p.y p.z p.w o.y o.z o.w u.y u.z u.w:=rfl
theorem jkH (p o u:Pt):jay 1 p o u=jby p.x p.z p.w o.x o.z o.w u.x u.z u.w:=rfl
theorem jkI (p o u:Pt):jay 2 p o u=jby p.x p.y p.w o.x o.y o.w u.x u.y u.w:=rfl
theorem jnw (p o u:Pt):jay 3 p o u=jby p.x p.y p.z o.x o.y o.z u.x u.y u.z:=rfl
def dt (a b c:Tri):Int:=jby a.x a.y a.z b.x b.y b.z c.x c.y c.z
theorem jdc {g1 g2 g3 b z u v w:Int}:jby (g1*a) (g1*b) (g1*c) (g2*x) (g2*y) (g2*z) (g3*u) (g3*v) (g3*w)=jby a b c x y z u v w*(g1*g2*g3):=by
 unfold jby;grind
theorem ja3 (Z:Sht) (v:Tri):rG Z v*(spt Z v).x=rX Z v/\rG Z v*(spt Z v).y=rY Z v/\rG Z v*(spt Z v).z=rZ Z v/\rG Z v*(spt Z v).w=rW Z v :=
 ⟨xa5 (jaQ (by simp)),xa5 (jaQ (by simp)),xa5 (jaQ (by simp)),xa5 (jaQ (by simp))⟩
def w3 (Z:Sht):Int:=Z.w*Z.w*Z.w
def ud (Z:Sht):Int:=Z.u.x*Z.s.x+Z.u.y*Z.s.y+Z.u.z*Z.s.z
theorem jit (Z:Sht) (a b c:Tri):jay 0 (spt Z a) (spt Z b) (spt Z c)*(rG Z a*rG Z b*rG Z c)=w3 Z*Z.u.x*dt a b c:=by
 obtain⟨a1,a2,a3,a4⟩:=ja3 Z a;obtain⟨b1,b2,b3,b4⟩:=ja3 Z b;obtain⟨c1,c2,c3,c4⟩:=ja3 Z c;rw[jkG,<- jdc,a2,a3,a4,b2,b3,b4,c2,c3,c4];unfold w3 dt jby rY rZ rW Sht.u;grind
theorem jiu (Z:Sht) (a b c:Tri):-jay 1 (spt Z a) (spt Z b) (spt Z c)*(rG Z a*rG Z b*rG Z c)=w3 Z*Z.u.y*dt a b c:=by
 obtain⟨a1,a2,a3,a4⟩:=ja3 Z a;obtain⟨b1,b2,b3,b4⟩:=ja3 Z b;obtain⟨c1,c2,c3,c4⟩:=ja3 Z c;rw[xbN,jkH,<- jdc,a1,a3,a4,b1,b3,b4,c1,c3,c4];unfold w3 dt jby rX rZ rW Sht.u;grind
theorem jiv (Z:Sht) (a b c:Tri):jay 2 (spt Z a) (spt Z b) (spt Z c)*(rG Z a*rG Z b*rG Z c)=w3 Z*Z.u.z*dt a b c:=by
 obtain⟨a1,a2,a3,a4⟩:=ja3 Z a;obtain⟨b1,b2,b3,b4⟩:=ja3 Z b;obtain⟨c1,c2,c3,c4⟩:=ja3 Z c;rw[jkI,<- jdc,a1,a2,a4,b1,b2,b4,c1,c2,c4];unfold w3 dt jby rX rY rW Sht.u;grind
theorem jnx (Z:Sht) (a b c:Tri):jay 3 (spt Z a) (spt Z b) (spt Z c)*(rG Z a*rG Z b*rG Z c)=Z.w*Z.w*ud Z*dt a b c:=by
 obtain⟨a1,a2,a3,a4⟩:=ja3 Z a;obtain⟨b1,b2,b3,b4⟩:=ja3 Z b;obtain⟨c1,c2,c3,c4⟩:=ja3 Z c;rw[jnw,<- jdc,a1,a2,a3,b1,b2,b3,c1,c2,c3];unfold ud dt jby rX rY rZ Sht.u;grind
variable {Z:Sht}
variable {v:Tri}
theorem jcx (hw:1<=Z.w) (hv:v.pl):0<rG Z v:=by
 have W1:0<rW Z v:=xak (by omega) (show 0<v.z by have:1<=v.z:=hv;omega);exact jdw (n:=rW Z v) (by simp) (by omega)
theorem jjT (Z:Sht) (v:Tri):Z.w*Z.u.x*rX Z v+Z.w*Z.u.y*rY Z v+Z.w*Z.u.z*rZ Z v-ud Z*rW Z v=0:=by
 unfold ud rX rY rZ rW Sht.u;grind
theorem jjU {a b c:Tri} (hw:1<=Z.w) (ha:a.pl) (hb:b.pl) (hc:c.pl) (hv:v.pl):hgt (jay 0 (spt Z a) (spt Z b) (spt Z c)) (-jay 1 (spt Z a) (spt Z b) (spt Z c)) (jay 2 (spt Z a) (spt Z b) (spt Z c)) (jay 3 (spt Z a) (spt Z b) (spt Z c)) (spt Z v)=0:=by
 have p1:=jcx hw ha;have p2:=jcx hw hb;have p3:=jcx hw hc;have p4:=jcx hw hv;have gp:rG Z a*rG Z b*rG Z c*rG Z v≠0:=Int.ne_of_gt (xak (xak (xak p1 p2) p3) p4);refine (xaE.mp ?_).resolve_right gp;obtain⟨v1,v2,v3,v4⟩:=ja3 Z v;have e:hgt (jay 0 (spt Z a) (spt Z b) (spt Z c)) (-jay 1 (spt Z a) (spt Z b) (spt Z c)) (jay 2 (spt Z a) (spt Z b) (spt Z c)) (jay 3 (spt Z a) (spt Z b) (spt Z c)) (spt Z v)*(rG Z a*rG Z b*rG Z c*rG Z v) =
   (jay 0 (spt Z a) (spt Z b) (spt Z c)*(rG Z a*rG Z b*rG Z c))*(rG Z v*(spt Z v).x)+(-jay 1 (spt Z a) (spt Z b) (spt Z c)*(rG Z a*rG Z b*rG Z c))*(rG Z v*(spt Z v).y)+(jay 2 (spt Z a) (spt Z b) (spt Z c)*(rG Z a*rG Z b*rG Z c))*(rG Z v*(spt Z v).z)-(jay 3 (spt Z a) (spt Z b) (spt Z c)*(rG Z a*rG Z b*rG Z c))*(rG Z v*(spt Z v).w):=by
  unfold hgt;grind
 rw[e,jit,jiu,jiv,jnx,v1,v2,v3,v4];have f:=jjT Z v;have e2:w3 Z*Z.u.x*dt a b c*rX Z v+w3 Z*Z.u.y*dt a b c*rY Z v+w3 Z*Z.u.z*dt a b c*rZ Z v-Z.w*Z.w*ud Z*dt a b c*rW Z v=Z.w*Z.w*dt a b c*(Z.w*Z.u.x*rX Z v+Z.w*Z.u.y*rY Z v+Z.w*Z.u.z*rZ Z v-ud Z*rW Z v):=by
  unfold w3;grind
 rw[e2,f,xa6]
theorem jkJ (hw:1<=Z.w):0<w3 Z:=xak (xak (by omega) (by omega)) (by omega)
theorem jdd {a b c:Tri} (hw:1<=Z.w) (nz:Z.u.nz) (hd:dt a b c≠0):¬jbE (spt Z a) (spt Z b) (spt Z c):=fun ⟨h0,h1,h2⟩=>by
 have e0:=jit Z a b c;have e1:=jiu Z a b c;have e2:=jiv Z a b c;rw[h0,xaP] at e0;rw[h1,Int.neg_zero,xaP] at e1;rw[h2,xaP] at e2;have w0:=jkJ hw;have c:∀{i:Int},0=w3 Z*i*dt a b c->i=0:=fun {i} e=>by
  rcases xaE.mp e.symm with q | q
  ·rcases xaE.mp q with r | r
   ·omega
   ·exact r
  ·exact absurd q hd
 exact nz ⟨c e0,c e1,c e2⟩
def uk (Z:Sht) (k:Int):Int:=if k=0 then Z.u.x else if k=1 then -Z.u.y else Z.u.z
theorem jiw {a b c:Tri} {k:Int} (hw:1<=Z.w) (ha:a.pl) (hb:b.pl) (hc:c.pl) (hd:0<dt a b c) (k0:0<=k) (k2:k<=2):sgn (jay k (spt Z a) (spt Z b) (spt Z c))=sgn (uk Z k):=by
 have gp:=xak (xak (jcx hw ha) (jcx hw hb)) (jcx hw hc);have wd:=xak (jkJ hw) hd;have e:k=0\/k=1\/k=2:=by omega
 rcases e with rfl | rfl | rfl
 ·refine jis gp wd ?_;rw[jit];show _=w3 Z*dt a b c*Z.u.x;grind
 ·refine jis gp wd ?_;have z:=jiu Z a b c;show _=w3 Z*dt a b c*-Z.u.y;grind
 ·refine jis gp wd ?_;rw[jiv];show _=w3 Z*dt a b c*Z.u.z;grind
theorem ix_lt {ix:List Nat} (h:Ix ix) {a:Nat} (ha:a<ix.length):ix.getD a 0<8:=by
 rw[xab,xac ha];exact h.2.2.2 _ (xbn ha)
theorem jkK {k:Int} (hk:0<k) (ns:List Int):gl (ns.map (k*·))=k*gl ns:=by
 refine Int.dvd_antisymm (jbc _) (xaG (by omega) (jbc _)) ?_ ?_
 ·exact jd9 ns 0 _ k (by rw[xa6];exact Int.dvd_zero _) fun n hn=>jaQ (xaz.mpr ⟨n,hn,rfl⟩)
 ·refine jes fun n hn=>?_;obtain⟨m,hm,rfl⟩:=xaz.mp hn;exact Int.mul_dvd_mul (xca k) (jaQ hm)
theorem jeZ {k:Int} (hk:0<k) (ns:List Int):low (ns.map (k*·))=low ns:=by
 unfold low;rw[jkK hk,xa4];refine xbO fun n _=>?_;exact Int.mul_ediv_mul_of_pos _ _ hk
theorem jkL (hf:f<l.length) (hi:i<l.length):pt (rot f l) i=pt l ((f+i) % l.length):=by
 unfold pt rot;rw[xab,xab];by_cases c:f+i<l.length
 ·rw[xae c,xaF (by rw[xat];omega),xcb]
 ·have e:(f+i) % l.length=f+i-l.length:=by
   rw[Nat.mod_eq_sub_mod (by omega)];exact xae (by omega)
  rw[e,xau (by rw[xat];omega),xat,xcc,if_pos (by omega)]
  congr 2
  omega
theorem ja4 (h:i<l.length):pt l i∈l:=by
 unfold pt;rw[xab,xac h];exact xbn h
theorem jgK (h:p∈l):∃i,i<l.length/\pt l i=p:=by
 obtain⟨i,hi,e⟩:=xbG.mp h;refine⟨i,hi,?_⟩;unfold pt;rw[xab,xac hi];exact e
theorem jho (hg:0<g) (e:g*x=y):(0<=y->0<=x)/\(0<y->0<x):=by
 constructor
 ·intro h;apply xai;intro n;have:=xar hg (show x<0 by omega);omega
 ·intro h;apply xai;intro n;have:=Int.mul_nonpos_of_nonneg_of_nonpos (show 0<=g by omega) (show x<=0 by omega);omega
theorem SameB.fresh {H3:Hp} (s0:Same H H3) (h:H L=none) (s:SameB L H3 H'):Same H H':=fun b o hb=>s b o (jaA hb h) (s0 b o hb)
theorem jfI (hw:1<=Z.w) (hv:v.pl):1<=(spt Z v).w:=by
 have W1:0<rW Z v:=xak (by omega) (show 0<v.z by have:1<=v.z:=hv;omega);exact (jho (jcx hw hv) (ja3 Z v).2.2.2).2 W1
theorem Box.keep (h:Box H L) (s:Same H H'):Box H' L:=by
 obtain⟨m,h⟩:=h;exact⟨m,s _ _ h⟩
theorem jlM (h:x.natAbs<=y.natAbs) (hy:Bd n y):Bd n x:=xbd h hy
theorem jez {rs:List Addr} (h:i<rs.length):(rs.map V.ref)[i]?=some (.ref (ad rs i)):=by
 unfold ad;rw[xal,xab,xac h];rfl
theorem jix:∀{ys:List V},(∀(i:Nat) (y:V),ys[i]?=some y->∃e:Addr,y=.ref e)->∃es:List Addr,ys=es.map V.ref
  | [],_=>⟨[],rfl⟩
  | y :: ys, h => by
    obtain⟨e,rfl⟩:=h 0 y rfl;obtain⟨es,rfl⟩:=jix (ys:=ys) fun i y hy=>h (i+1) y hy;exact⟨e::es,rfl⟩
def jiy:Sp:=fun vs H Q _=>∃(b:Addr) (rs:List Addr),vs=[.ref b]/\H b=some (.tup (rs.map V.ref))/\3<=rs.length/\rs.length<=17 /\
 ∀(L:Addr) (H':Hp) (es:List Addr),Same H H'->H' L=some (.lst (es.map V.ref))->es.length=rs.length->(∀i,i<rs.length->H' (ad es i)=some (.tup [.ref (ad rs ((i+(rs.length-1)) % rs.length)),.ref (ad rs i)]))->Q (.ref L) H'
theorem jjV (T:Tx K mg t1 t2) (F:At K mg "edges_of" jbV ["board"] []):jan P w K mg base CX0 1 "edges_of" ["board"] [] jiy:=by
 refine F.ok jd4 (fun vs H Q E h=>?_) (fun f cdv A outer s H vs Q E hr h=>?_)
 ·obtain⟨b,rs,rfl,_⟩:=h;rfl
 obtain⟨b,rs,rfl,hb,n3,n8,q⟩:=h;have S:=jd4;refine⟨_,(jai (jas (ja1 rfl (N':=["k","board"]) (ix:=[0]) ⟨rfl,rfl,by decide +kernel,by decide +kernel,by decide +kernel,(show ∀y:Str × NameKind,y∈_->y.2=NameKind.free->(jae jbV).names.lookup y.1=some .cell\/(jae jbV).names.lookup y.1=some .free from by decide +kernel),(.cons rfl (.inl rfl) rfl .nil)⟩ (jaN rfl T.m_range (jaa (jaw jaH rfl T.m_len PySem.boot_len (jaa (pv 0) jac jaf)) jac jaI)) (fun _ _ _ _=>jao (i:=0) (show (["k","board"]:List Str).Nodup from by decide +kernel) rfl (Or.inl rfl)) (fun _ _ _ _=>ja0) (fun _ _ _ _=>(jaG (jaa (jaj (jaR (K:=K) rfl) (pv 1) (jap jaZ (pv 0) jab)) (jaa (jaj (jaR (K:=K) rfl) (pv 1) (pv 0)) jac jaq) jaq)))))),?_⟩;have lm:(rs.map V.ref).length=rs.length:=xaa _;have kb:SqT K H b (rs.map V.ref):=SqT.of hb;walk_at "rf";refine⟨_,.inr kb,by omega,by omega,fun acc hacc=>?_⟩;have e0:(((rs.map V.ref).length:Int)).toNat=rs.length:=by omega
 rw[e0];refine jna (n:=rs.length) (fun i y H'=>∃e:Addr,y=.ref e/\H' e=some (.tup [.ref (ad rs ((i+(rs.length-1)) % rs.length)),.ref (ad rs i)])) (fun i y J J' ⟨e,h1,h2⟩ st=>⟨e,h1,st _ _ h2⟩) (by omega) hacc ?_ ?_
 ·intro i H3 R hi s4 hR;have kb3:=s4.tup kb;have g1:(rs.map V.ref)[i]?=some (.ref (ad rs i)):=jez hi;have g2:atI (rs.map V.ref) (0+(i:Int)-1)=some (.ref (ad rs ((i+(rs.length-1)) % rs.length))):=by
   by_cases i0:i=0
   ·subst i0;have e1:(0+(rs.length-1)) % rs.length=rs.length-1:=by rw[xbi];exact xae (by omega)
    rw[e1];exact jb9 (n:=rs.length-1) (by omega) (jez (by omega))
   ·have e1:(i+(rs.length-1)) % rs.length=i-1:=by
     have z:i+(rs.length-1)=i-1+rs.length:=by omega
     rw[z,xaS];exact xae (by omega)
    have e2:(0+(i:Int)-1)=((i-1:Nat):Int):=by omega
    rw[e1,e2];exact jaJ (jez (by omega))
  walk_at "rf";refine ixT kb3 g2 ?_;refine ixT kb3 (by rw[xb2];exact jaJ g1) ?_;exact⟨by decide,fun e he=>hR _ _ (Same.new he _) ⟨e,rfl,jag⟩⟩
 intro ys H3 s4 e4 l4 p4;obtain⟨es,rfl⟩:∃es:List Addr,ys=es.map V.ref:=jix fun i y hy=>let ⟨e,h1,_⟩:=p4 i y hy;⟨e,h1⟩;rw[xaa] at l4;refine q acc H3 es s4 e4 l4 fun i hi=>?_;obtain⟨e,h1,h2⟩:=p4 i _ (jez (by omega));cases h1;exact h2
def ab (n:Int):Int:=if n<0 then -n else n
theorem jiz (p:Pt):sfp p p=false:=by
 unfold sfp sf;rw[if_neg (fun n=>n rfl),if_neg (fun n=>n rfl),if_neg (fun n=>n rfl)]
theorem ix1:∀n,n<18->∀a,a<n->∀f,f<n->∀i,i<n->(a+(f+i) % n) % n=((a+f) % n+i) % n/\(a+(n-(f+i) % n)) % n=((a+(n-f)) % n+(n-i)) % n:=by decide +kernel
theorem ix2:∀n,n<18->∀a,a<n->∀i,i<n->(a+(n-i) % n) % n=(a+(n-i)) % n/\(a+(n-(n-i) % n)) % n=(a+i) % n:=by decide +kernel
theorem ix3:∀n,n<18->∀a,a<n->∀i,i<n->(a+(n-1-i)) % n=((a+(n-1)) % n+(n-i)) % n/\(a+(n-(n-1-i))) % n=((a+1) % n+i) % n:=by decide +kernel
theorem ix4:∀n,n<18->∀a,a<n->∀i,i<n->(a+(i+(n-a)) % n) % n=i/\(a+(n-(a+(n-i)) % n)) % n=i:=by decide +kernel
theorem ix7:∀n,n<18->3<=n->∀a,a<n->(a+1) % n≠(a+(n-1)) % n/\(a+0) % n=a/\(a+(n-0)) % n=a:=by decide +kernel
def Dih (ps qs:List Pt):Prop:=qs.length=ps.length/\∃a,a<ps.length/\((∀i,i<ps.length->pt qs i=pt ps ((a+i) % ps.length))\/(∀i,i<ps.length->pt qs i=pt ps ((a+(ps.length-i)) % ps.length)))
theorem Dih.refl (h:3<=ps.length):Dih ps ps:=⟨rfl,0,by omega,.inl fun i hi=>by rw[xbi,xae hi]⟩
theorem Dih.rot (d:Dih ps qs) (n8:ps.length<=17) (hf:f<ps.length):Dih ps (rot f qs):=by
 obtain⟨hl,a,ha,d⟩:=d;have rp:∀i,i<ps.length->pt (My.rot f qs) i=pt qs ((f+i) % ps.length):=fun i hi=>by rw[jkL (by omega) (by omega),hl]
 have m:∀i,(f+i) % ps.length<ps.length:=fun i=>xaC _ (by omega);refine⟨by rw[jeY (by omega),hl],?_⟩;rcases d with d | d
 ·refine⟨(a+f) % ps.length,xaC _ (by omega),.inl fun i hi=>?_⟩;rw[rp i hi,d _ (m i),(ix1 _ (by omega) a ha f hf i hi).1]
 ·refine⟨(a+(ps.length-f)) % ps.length,xaC _ (by omega),.inr fun i hi=>?_⟩;rw[rp i hi,d _ (m i),(ix1 _ (by omega) a ha f hf i hi).2]
theorem je0 (hi:i<l.length):pt (turn true l) i=pt l ((l.length-i) % l.length):=by
  match l,hi with
  | x :: r, hi =>
    have e:turn true (x::r)=x::r.reverse:=rfl;rw[e];cases i with
    | zero=>rw[Nat.sub_zero,xa7];rfl
    | succ j =>
      have hj:j<r.length:=by simpa using hi
      have e2:((x::r).length-(j+1)) % (x::r).length=r.length-1-j+1:=by
        rw[xaq,xae (by omega)];omega
      rw[e2];unfold pt;rw[xab,xab,List.getElem?_cons_succ,List.getElem?_cons_succ,xbD hj]
theorem jjW (b:Bool):(turn b l).length=l.length:=by
 unfold turn;cases b
 ·rfl
 ·rw[if_pos rfl,xad,xaM,xay,xat];omega
theorem Dih.turn (d:Dih ps qs) (n8:ps.length<=17) (b:Bool):Dih ps (turn b qs):=by
  cases b with
  | false=>exact d
  | true =>
    obtain⟨hl,a,ha,d⟩:=d;refine⟨by rw[jjW,hl],a,ha,?_⟩;have tp:∀i,i<ps.length->pt (My.turn true qs) i=pt qs ((ps.length-i) % ps.length):=fun i hi=>by rw[je0 (by omega),hl]
    have m:∀i,(ps.length-i) % ps.length<ps.length:=fun i=>xaC _ (by omega);rcases d with d | d
    . exact .inr fun i hi=>by rw[tp i hi,d _ (m i),(ix2 _ (by omega) a ha i hi).1]
    . exact .inl fun i hi=>by rw[tp i hi,d _ (m i),(ix2 _ (by omega) a ha i hi).2]
theorem jny (hi:i<l.length):pt l.reverse i=pt l (l.length-1-i):=by
 unfold pt;rw[xab,xab,xbD hi]
theorem Dih.rev (d:Dih ps qs) (n8:ps.length<=17):Dih ps qs.reverse:=by
 obtain⟨hl,a,ha,d⟩:=d;refine⟨by rw[xaM,hl],?_⟩;have tp:∀i,i<ps.length->pt qs.reverse i=pt qs (ps.length-1-i):=fun i hi=>by rw[jny (by omega),hl]
 rcases d with d | d
 ·exact⟨(a+(ps.length-1)) % ps.length,xaC _ (by omega),.inr fun i hi=>by rw[tp i hi,d _ (by omega),(ix3 _ (by omega) a ha i hi).1]⟩
 ·exact⟨(a+1) % ps.length,xaC _ (by omega),.inl fun i hi=>by rw[tp i hi,d _ (by omega),(ix3 _ (by omega) a ha i hi).2]⟩
theorem jnz (h:3<=ps.length):fF ps<ps.length:=by have:=jd1 ps (ps.length-1);unfold fF;omega
theorem Dih.frm (d:Dih ps qs) (n3:3<=ps.length) (n8:ps.length<=17):Dih ps (frm qs qs) :=
 (d.rot n8 (by have:=jnz (ps:=qs) (by rw[d.1];exact n3);rw[d.1] at this;exact this)).turn n8 _
structure Tot (ps:List Pt):Prop where
 tr:∀p q r,p∈ps->q∈ps->r∈ps->sfp p q=true->sfp q r=true->sfp p r=true
 ne:∀i j,i<ps.length->j<ps.length->i≠j->sfp (pt ps i) (pt ps j)=true\/sfp (pt ps j) (pt ps i)=true
theorem Dih.mem (d:Dih ps qs) (n8:ps.length<=17) :p∈qs↔p∈ps:=by
 obtain⟨hl,a,ha,d⟩:=d;constructor
 ·intro h;obtain⟨i,hi,rfl⟩:=jgK h;rcases d with d | d
  ·rw[d i (by omega)];exact ja4 (xaC _ (by omega))
  ·rw[d i (by omega)];exact ja4 (xaC _ (by omega))
 ·intro h;obtain⟨i,hi,rfl⟩:=jgK h;rcases d with d | d
  ·have z:=d ((i+(ps.length-a)) % ps.length) (xaC _ (by omega));rw[(ix4 _ (by omega) a ha i hi).1] at z;rw[<- z];exact ja4 (by rw[hl];exact xaC _ (by omega))
  ·have z:=d ((a+(ps.length-i)) % ps.length) (xaC _ (by omega));rw[(ix4 _ (by omega) a ha i hi).2] at z;rw[<- z];exact ja4 (by rw[hl];exact xaC _ (by omega))
theorem jgL {ps qs:List Pt} (T:Tot ps) (hq:∀p,p∈qs->p∈ps):∀n,n<qs.length->∀i,i<=n->sfp (pt qs i) (pt qs (jgG qs n))=false
  | 0, hn, i, hi => by
    have e:i=0:=by omega
    subst e;exact jiz _
  | n + 1, hn, i, hi => by
    have ih:=jgL T hq n (by omega);have al:=jd1 qs n;unfold jgG;cases c:sfp (pt qs (n+1)) (pt qs (jgG qs n)) with
    | true =>
      rw[if_pos rfl];by_cases e:i=n+1
      . rw[e]
        exact jiz _
      . cases z:sfp (pt qs i) (pt qs (n+1)) with
        | false=>rfl
        | true =>
          have t:=T.tr _ _ _ (hq _ (ja4 (by omega))) (hq _ (ja4 (by omega))) (hq _ (ja4 (by omega))) z c;rw[ih i (by omega)] at t;cases t
    | false =>
      rw[if_neg (by decide)];by_cases e:i=n+1
      . rw[e]
        exact c
      . exact ih i (by omega)
theorem jkM {m:List Pt} (hl:l.length=n) (hm:m.length=n) (h:∀i,i<n->pt l i=pt m i):l=m:=by
 refine List.ext_getElem (by rw[hl,hm]) fun i h1 h2=>?_;have z:=h i (by omega);unfold pt at z;rw[xab,xab,xac h1,xac h2] at z;exact z
theorem jkN (T:Tot ps) (d:Dih ps qs) (n3:3<=ps.length) (n8:ps.length<=17):(∀p,p∈ps->sfp p (pt (frm qs qs) 0)=false)/\sfp (pt (frm qs qs) (ps.length-1)) (pt (frm qs qs) 1)=false:=by
  have hl:=d.1;have fl:=jnz (ps:=qs) (by omega);have rl:(rot (fF qs) qs).length=ps.length:=by rw[jeY (by omega),hl]
  have dr:=d.rot n8 (f:=fF qs) (by omega);have h0:pt (rot (fF qs) qs) 0=pt qs (fF qs):=by rw[jkL fl (by omega),Nat.add_zero,xae fl]
  have mn:∀p,p∈ps->sfp p (pt (rot (fF qs) qs) 0)=false:=fun p hp=>by
    rw[h0];obtain⟨i,hi,rfl⟩:=jgK ((d.mem n8).mpr hp);exact jgL T (fun p h=>(d.mem n8).mp h) (qs.length-1) (by omega) i (by omega)
  have eb:fB qs=sfp (pt (rot (fF qs) qs) (ps.length-1)) (pt (rot (fF qs) qs) 1):=by unfold fB;rw[hl]
  unfold frm;cases c:fB qs with
  | false=>exact⟨mn,eb.symm.trans c⟩
  | true =>
    have t0:pt (turn true (rot (fF qs) qs)) 0=pt (rot (fF qs) qs) 0:=by rw[je0 (by omega),Nat.sub_zero,xa7]
    have t1':pt (turn true (rot (fF qs) qs)) 1=pt (rot (fF qs) qs) (ps.length-1):=by rw[je0 (by omega),rl,xae (by omega)]
    have t2':pt (turn true (rot (fF qs) qs)) (ps.length-1)=pt (rot (fF qs) qs) 1:=by
      rw[je0 (by omega),rl,xae (by omega)]
      congr 1
      omega
    rw[t0,t1',t2'];refine⟨mn,?_⟩;rw[eb] at c;cases z:sfp (pt (rot (fF qs) qs) 1) (pt (rot (fF qs) qs) (ps.length-1)) with
    | false=>rfl
    | true =>
      have m:∀i,i<ps.length->pt (rot (fF qs) qs) i∈ps:=fun i hi=>(dr.mem n8).mp (ja4 (by omega));have t:=T.tr _ _ _ (m _ (by omega)) (m _ (by omega)) (m _ (by omega)) z c;rw[jiz] at t;cases t
theorem jjX {us:List Pt} (T:Tot ps) (n3:3<=ps.length) (n8:ps.length<=17) (d1:Dih ps qs) (d2:Dih ps us) (m1:∀p,p∈ps->sfp p (pt qs 0)=false) (m2:∀p,p∈ps->sfp p (pt us 0)=false) (l1:sfp (pt qs (ps.length-1)) (pt qs 1)=false) (l2:sfp (pt us (ps.length-1)) (pt us 1)=false):qs=us:=by
 obtain⟨hl,a,ha,d1⟩:=d1;obtain⟨hl',b,hb,d2⟩:=d2;have h0:pt qs 0=pt ps a:=by
  rcases d1 with d | d
  ·rw[d 0 (by omega),(ix7 _ (by omega) n3 a ha).2.1]
  ·rw[d 0 (by omega),(ix7 _ (by omega) n3 a ha).2.2]
 have h0':pt us 0=pt ps b:=by
  rcases d2 with d | d
  ·rw[d 0 (by omega),(ix7 _ (by omega) n3 b hb).2.1]
  ·rw[d 0 (by omega),(ix7 _ (by omega) n3 b hb).2.2]
 have ab:a=b:=by
  apply xai;intro n;rw[h0] at m1;rw[h0'] at m2;rcases T.ne a b ha hb n with z | z
  ·rw[m2 _ (ja4 ha)] at z;cases z
  ·rw[m1 _ (ja4 hb)] at z;cases z
 subst ab;have e7:=(ix7 _ (by omega) n3 a ha).1;have m:∀i,(a+i) % ps.length<ps.length:=fun i=>xaC _ (by omega);have sub:ps.length-(ps.length-1)=1:=by omega
 rcases d1 with d | d<;>rcases d2 with d' | d'
 ·exact jkM hl hl' fun i hi=>by rw[d i hi,d' i hi]
 ·rw[d _ (by omega),d _ (by omega)] at l1;rw[d' _ (by omega),d' _ (by omega),sub] at l2;rcases T.ne _ _ (m 1) (m (ps.length-1)) e7 with z | z
  ·rw[l2] at z;cases z
  ·rw[l1] at z;cases z
 ·rw[d _ (by omega),d _ (by omega),sub] at l1;rw[d' _ (by omega),d' _ (by omega)] at l2;rcases T.ne _ _ (m 1) (m (ps.length-1)) e7 with z | z
  ·rw[l1] at z;cases z
  ·rw[l2] at z;cases z
 ·exact jkM hl hl' fun i hi=>by rw[d i hi,d' i hi]
theorem jlN (T:Tot ps) (n3:3<=ps.length) (n8:ps.length<=17) (d:Dih ps qs):frm qs qs=frm ps ps:=by
 obtain⟨a1,a2⟩:=jkN T d n3 n8;obtain⟨b1,b2⟩:=jkN T (Dih.refl n3) n3 n8;exact jjX T n3 n8 (d.frm n3 n8) ((Dih.refl n3).frm n3 n8) a1 b1 a2 b2
theorem jjY {b u v w:Int} (hu:0<u) (hv:0<v) (hw:0<w) (h1:a*v<=b*u) (h2:b*w<=c*v):a*w<=c*u:=by
 have e1:=xbc h1 (show 0<=w by omega);have e2:=xbc h2 (show 0<=u by omega);refine Int.le_of_mul_le_mul_right (a:=v) ?_ hv;have z1:a*w*v=a*v*w:=by grind
 have z2:c*u*v=c*v*u:=by grind
 have z3:b*u*w=b*w*u:=by grind
 rw[z1,z2];omega
theorem lt_tr {b u v w:Int} (hu:0<u) (hv:0<v) (hw:0<w) (h1:a*v<=b*u) (h2:b*w<=c*v) (h:a*v<b*u\/b*w<c*v):a*w<c*u:=by
 refine Int.lt_iff_le_and_ne.mpr ⟨jjY hu hv hw h1 h2,fun e=>?_⟩;rcases h with h | h
 ·have z:=jjY (a:=c) (b:=a) (c:=b) hv hu hv;have e1:=Int.mul_lt_mul_of_pos_right h hw;have e2:=xbc h2 (show 0<=u by omega);have z1:a*v*w=a*w*v:=by grind
  have z3:b*u*w=b*w*u:=by grind
  have z2:c*v*u=c*u*v:=by grind
  rw[z1,z3] at e1;rw[z2,<- e] at e2;omega
 ·have e1:=xbc h1 (show 0<=w by omega);have e2:=Int.mul_lt_mul_of_pos_right h hu;have z1:a*v*w=a*w*v:=by grind
  have z3:b*u*w=b*w*u:=by grind
  have z2:c*v*u=c*u*v:=by grind
  rw[z1,z3] at e1;rw[z2,<- e] at e2;omega
theorem jiA (p o:Pt):sfp p o=true↔p.x*o.w<o.x*p.w\/(p.x*o.w=o.x*p.w/\(p.y*o.w<o.y*p.w\/(p.y*o.w=o.y*p.w/\p.z*o.w<o.z*p.w))):=by
 unfold sfp sf;generalize p.x*o.w=a;generalize o.x*p.w=a';generalize p.y*o.w=b;generalize o.y*p.w=b';generalize p.z*o.w=c;generalize o.z*p.w=c';by_cases h1:a=a'
 ·rw[if_neg (fun n=>n h1)];by_cases h2:b=b'
  ·rw[if_neg (fun n=>n h2)];by_cases h3:c=c'
   ·rw[if_neg (fun n=>n h3)];constructor
    ·intro h;cases h
    ·intro h;omega
   ·rw[if_pos h3,decide_eq_true_iff];omega
  ·rw[if_pos h2,decide_eq_true_iff];omega
 ·rw[if_pos h1,decide_eq_true_iff];omega
theorem sf_tr {r:Pt} (hp:1<=p.w) (hq:1<=q.w) (hr:1<=r.w) (h1:sfp p q=true) (h2:sfp q r=true):sfp p r=true:=by
 rw[jiA] at h1 h2 |-
 have L:∀{a b c:Int},a*q.w<=b*p.w->b*r.w<=c*q.w->(a*q.w<b*p.w\/b*r.w<c*q.w)->a*r.w<c*p.w:=fun x y z=>lt_tr (by omega) (by omega) (by omega) x y z;have E:∀{a b c:Int},a*q.w=b*p.w->b*r.w=c*q.w->a*r.w=c*p.w:=fun {a b c} x y=>Int.le_antisymm (jjY (by omega) (by omega) (by omega) (Int.le_of_eq x) (Int.le_of_eq y)) (jjY (u:=r.w) (v:=q.w) (w:=p.w) (by omega) (by omega) (by omega) (Int.le_of_eq y.symm) (Int.le_of_eq x.symm));rcases h1 with h1 | ⟨e1,h1⟩
 ·rcases h2 with h2 | ⟨e2,h2⟩
  ·exact .inl (L (by omega) (by omega) (.inl h1))
  ·exact .inl (L (by omega) (by omega) (.inl h1))
 ·rcases h2 with h2 | ⟨e2,h2⟩
  ·exact .inl (L (by omega) (by omega) (.inr h2))
  ·refine .inr ⟨E e1 e2,?_⟩;rcases h1 with h1 | ⟨f1,h1⟩
   ·rcases h2 with h2 | ⟨f2,h2⟩
    ·exact .inl (L (by omega) (by omega) (.inl h1))
    ·exact .inl (L (by omega) (by omega) (.inl h1))
   ·rcases h2 with h2 | ⟨f2,h2⟩
    ·exact .inl (L (by omega) (by omega) (.inr h2))
    ·exact .inr ⟨E f1 f2,L (by omega) (by omega) (.inl h1)⟩
theorem par2 {b u v:Int} (hv:1<=v) (h1:a*v=b*u) (h2:c*v=d*u):a*d=c*b:=by
 refine Int.eq_of_mul_eq_mul_right (a:=v) (by omega) ?_;have e1:a*d*v=a*v*d:=by grind
 have e2:c*b*v=c*v*b:=by grind
 rw[e1,e2,h1,h2];grind
theorem jiB {o:Pt} (u:Pt) (ho:1<=o.w) (h1:p.x*o.w=o.x*p.w) (h2:p.y*o.w=o.y*p.w) (h3:p.z*o.w=o.z*p.w):jbE p o u:=by
 have a1:=par2 ho h2 h3;have a2:=par2 ho h1 h3;have a3:=par2 ho h1 h2;refine⟨?_,?_,?_⟩
 ·rw[jkG];unfold jby;grind
 ·rw[jkH];unfold jby;grind
 ·rw[jkI];unfold jby;grind
theorem ja9 (h:3<=n):∃k,k<n/\j≠k/\i≠k:=by
 by_cases h0:i=0\/j=0
 ·by_cases h1:i=1\/j=1
  ·exact⟨2,by omega,by omega,by omega⟩
  ·exact⟨1,by omega,by omega,by omega⟩
 ·exact⟨0,by omega,by omega,by omega⟩
def sm (h:Nat->Int):Nat->Int
 | 0=>0
 | n+1=>sm h n+h n
def c2 (v v':Tri):Int:=v.x*v'.y-v.y*v'.x
def mi (p q:Pt):Int:=q.w / (Int.gcd p.w q.w:Nat)
def jde (r:Pt):Pt:=if r.w<0 then ⟨-r.x / gl [-r.x,-r.y,-r.z,-r.w],-r.y / gl [-r.x,-r.y,-r.z,-r.w],-r.z / gl [-r.x,-r.y,-r.z,-r.w],-r.w / gl [-r.x,-r.y,-r.z,-r.w]⟩ else ⟨r.x / gl [r.x,r.y,r.z,r.w],r.y / gl [r.x,r.y,r.z,r.w],r.z / gl [r.x,r.y,r.z,r.w],r.w / gl [r.x,r.y,r.z,r.w]⟩
def jjZ:Sp:=fun vs H Q _=>∃r:Pt,vs=[.int r.x,.int r.y,.int r.z,.int r.w]/\r.sm/\r.w≠0/\∀(g:Addr) (H':Hp),Same H H'->Is4 H' g (jde r)->Q (.ref g) H'
theorem Sm2.neg {i:Int} (h:Sm2 i):Sm2 (-i):=by unfold Sm2 at *;rw[xcf];exact h
theorem Sm2.small {i:Int} (h:Sm2 i):Small i:=h.bd
theorem jnA (T:Tx K mg t1 t2) (F:At K mg "made_spot" jbj ["x","y","z","w"] []) (dq:jan P w K mg base CX0 2 "in_lowest_terms" ["numbers"] [] jjI):jan P w K mg base CX0 3 "made_spot" ["x","y","z","w"] [] jjZ:=by
 refine F.ok jdx (fun vs H Q E h=>?_) (fun f cdv A outer s H vs Q E hr h=>?_)
 ·obtain⟨r,rfl,_⟩:=h;rfl
 obtain⟨⟨x,y,z,w⟩,rfl,⟨sx,sy,sz,sw⟩,w0,q⟩:=h;have S:=jdx;refine⟨_,(jad (jaW (jau jdO (pv 3) jab (jax _))
  jbB
  jaz)
  (jad (jaW (jau jfk (pv 3) jab (jax _))
  (jai (jas (jah dq hr.m rfl jav (jaa (jaG (jaa (jdE jcb (pv 0)) (jaa (jdE jcb (pv 1)) (jaa (jdE jcb (pv 2)) (jaa (jdE jcb (pv 3)) jac jhe) jhe) jhe) jhe)) jac jaE))))
  jaz)
  (jai (jas (jah dq hr.m rfl jav (jaa (jaG (jaa (pv 0) (jaa (pv 1) (jaa (pv 2) (jaa (pv 3) jac jaf) jaf) jaf) jaf)) jac jaE)))))),?_⟩
 walk_at "rf";have w0':¬w=0:=w0;rw[if_neg w0'];by_cases c:w<0
 ·rw[if_pos c];refine⟨by decide,fun p hp=>?_⟩;refine⟨p,[-x,-y,-z,-w],rfl,jag,by simp,mem4 sx.neg.small sy.neg.small sz.neg.small sw.neg.small,?_,fun r H' h1 h2=>q r H' ((Same.new hp _).trans h1) ?_⟩
  ·have:=jdw (ns:=[-x,-y,-z,-w]) (n:=-w) (by simp) (by omega);omega
  ·have e:jde ⟨x,y,z,w⟩=_:=if_pos c;rw[e];exact⟨h2,sx.neg.div,sy.neg.div,sz.neg.div,sw.neg.div⟩
 ·rw[if_neg c];refine⟨by decide,fun p hp=>?_⟩;refine⟨p,[x,y,z,w],rfl,jag,by simp,mem4 sx.small sy.small sz.small sw.small,?_,fun r H' h1 h2=>q r H' ((Same.new hp _).trans h1) ?_⟩
  ·have:=jdw (ns:=[x,y,z,w]) (n:=w) (by simp) (by omega);omega
  ·have e:jde ⟨x,y,z,w⟩=_:=if_neg c;rw[e];exact⟨h2,sx.div,sy.div,sz.div,sw.div⟩
def Pt.bd (n:Nat) (p:Pt):Prop:=Bd n p.x/\Bd n p.y/\Bd n p.z/\Bd n p.w
theorem jgM {m:Nat} {z v:Int} (hx:Bd n x) (hy:Bd n y) (hz:Bd n z) (hv:Bd n v) (hp:p.bd m):Bd (n+m+2) (hgt x y z v p):=by
 unfold hgt;have a:=Bd.mul hx hp.1;have b:=Bd.mul hy hp.2.1;have c:=Bd.mul hz hp.2.2.1;have d:=Bd.mul hv hp.2.2.2;rw[Int.add_sub_assoc];exact Bd.add (Bd.add a b) (Bd.sub c d)
def jcH (x y z v:Int) (p o:Pt):Pt:=⟨hgt x y z v o*p.x-hgt x y z v p*o.x,hgt x y z v o*p.y-hgt x y z v p*o.y,hgt x y z v o*p.z-hgt x y z v p*o.z,hgt x y z v o*p.w-hgt x y z v p*o.w⟩
theorem jlO {m:Nat} {z v:Int} {o:Pt} (hx:Bd n x) (hy:Bd n y) (hz:Bd n z) (hv:Bd n v) (hp:p.bd m) (ho:o.bd m):(jcH x y z v p o).bd (n+m+2+m+1):=by
 have h1:=jgM hx hy hz hv hp;have h2:=jgM hx hy hz hv ho;exact⟨Bd.sub (Bd.mul h2 hp.1) (Bd.mul h1 ho.1),Bd.sub (Bd.mul h2 hp.2.1) (Bd.mul h1 ho.2.1),Bd.sub (Bd.mul h2 hp.2.2.1) (Bd.mul h1 ho.2.2.1),Bd.sub (Bd.mul h2 hp.2.2.2) (Bd.mul h1 ho.2.2.2)⟩
def jnB:Sp:=fun vs H Q _=>∃(n m:Nat) (g r e:Addr) (x y z v:Int) (p o:Pt),vs=[.ref g,.ref r,.ref e]/\n+2*m+3<=650/\H g=some (.tup [.int x,.int y,.int z,.int v])/\Bd n x/\Bd n y/\Bd n z/\Bd n v/\Is4 H r p/\Is4 H e o/\p.bd m/\o.bd m/\(jcH x y z v p o).w≠0/\∀(t:Addr) (H':Hp),Same H H'->Is4 H' t (jde (jcH x y z v p o))->Q (.ref t) H'
theorem jnC (T:Tx K mg t1 t2) (F:At K mg "met_at" jeT ["plane","one","other"] []) (du:jan P w K mg base CX0 1 "height_over" ["plane","spot"] [] spHt) (dm:jan P w K mg base CX0 3 "made_spot" ["x","y","z","w"] [] jjZ):jan P w K mg base CX0 4 "met_at" ["plane","one","other"] [] jnB:=by
 refine F.ok jfE (fun vs H Q E h=>?_) (fun f cdv A outer s H vs Q E hr h=>?_)
 ·obtain⟨n,m,g,r,e,x,y,z,v,p,o,rfl,_⟩:=h;rfl
 obtain⟨n,m,g,r,e,x,y,z,v,p,o,rfl,nm,hg,bx,by',bz,bv,hr',he,hp,ho,w0,q⟩:=h;have S:=jfE;refine⟨_,(jad (jat (i:=3) S.nd rfl (Or.inl rfl) (jah du hr.m rfl jav (jaa (pv 0) (jaa (pv 2) jac jaf) jaf)))
  (jad (jat (i:=4) S.nd rfl (Or.inl rfl) (jah du hr.m rfl jav (jaa (pv 0) (jaa (pv 1) jac jaf) jaf)))
  (jai (jas (jah dm hr.m rfl jav (jaa (jap jaZ (jap jar (pv 3) (jaj jal (pv 1) jab)) (jap jar (pv 4) (jaj jal (pv 2) jab))) (jaa (jap jaZ (jap jar (pv 3) (jaj jal (pv 1) jab)) (jap jar (pv 4) (jaj jal (pv 2) jab))) (jaa (jap jaZ (jap jar (pv 3) (jaj jal (pv 1) jab)) (jap jar (pv 4) (jaj jal (pv 2) jab))) (jaa (jap jaZ (jap jar (pv 3) (jaj jal (pv 1) jab)) (jap jar (pv 4) (jaj jal (pv 2) jab))) jac jbb) jbb) jbb) jbb)))))),?_⟩
 have kr:=hr'.sq (K:=K);have ke:=he.sq (K:=K);have sm:∀{i:Int},Bd n i->Small i:=fun h=>Bd.mono h (by omega);walk_at "rf";refine⟨g,e,x,y,z,v,o,rfl,hg,sm bx,sm by',sm bz,sm bv,he,?_⟩;refine⟨g,r,x,y,z,v,p,rfl,hg,sm bx,sm by',sm bz,sm bv,hr',?_⟩;have b1:=(jgM bx by' bz bv hp).fit (by omega);have b2:=(jgM bx by' bz bv ho).fit (by omega);have f1:=hp.1.fit (by omega);have f2:=hp.2.1.fit (by omega);have f3:=hp.2.2.1.fit (by omega);have f4:=hp.2.2.2.fit (by omega);have f5:=ho.1.fit (by omega);have f6:=ho.2.1.fit (by omega);have f7:=ho.2.2.1.fit (by omega);have f8:=ho.2.2.2.fit (by omega);try walk_at "rf"
 walk_at "gf";have rb:=jlO bx by' bz bv hp ho
 have s2:∀{i:Int},Bd (n+m+2+m+1) i->Sm2 i:=fun h=>Bd.mono h (by omega);exact⟨jcH x y z v p o,rfl,⟨s2 rb.1,s2 rb.2.1,s2 rb.2.2.1,s2 rb.2.2.2⟩,w0,q⟩
def jht (x y z v:Int) (p o:Pt):List (Pt × Int):=(if sgn (hgt x y z v p)*sgn (hgt x y z v o)<0 then [(jde (jcH x y z v p o),0)] else [])++[(o,sgn (hgt x y z v o))]
def sdd (x y z v:Int) (ps:List Pt) (n:Nat):List (Pt × Int):=(List.range n).flatMap fun i=>jht x y z v (pt ps ((i+(ps.length-1)) % ps.length)) (pt ps i)
def Prs (H:Hp) (es:List Addr) (ds:List (Pt × Int)):Prop:=es.length=ds.length/\∀i,i<ds.length->∃r:Addr,H (ad es i)=some (.tup [.ref r,.int (ds.getD i (⟨0,0,0,0⟩,0)).2])/\Is4 H r (ds.getD i (⟨0,0,0,0⟩,0)).1
theorem jgN {z v:Int} {o:Pt} (hp:1<=p.w) (ho:1<=o.w) (h:sgn (hgt x y z v p)*sgn (hgt x y z v o)<0):(jcH x y z v p o).w≠0:=by
 show hgt x y z v o*p.w-hgt x y z v p*o.w≠0;generalize hgt x y z v o=a at *
 generalize hgt x y z v p=b at *
 unfold sgn at h;by_cases c1:b>0
 ·rw[if_pos c1] at h;by_cases c2:a>0
  ·rw[if_pos c2] at h;omega
  ·rw[if_neg c2] at h;by_cases c3:a<0
   ·have h1:=xak c1 (show 0<o.w by omega);have h2:=xak (show 0 < -a by omega) (show 0<p.w by omega);rw[xbN] at h2;omega
   ·rw[if_neg c3] at h;omega
 ·rw[if_neg c1] at h;by_cases c3:b<0
  ·rw[if_pos c3] at h;by_cases c2:a>0
   ·have h1:=xak (show 0 < -b by omega) (show 0<o.w by omega);have h2:=xak c2 (show 0<p.w by omega);rw[xbN] at h1;omega
   ·rw[if_neg c2] at h;by_cases c4:a<0
    ·rw[if_pos c4] at h;omega
    ·rw[if_neg c4] at h;omega
  ·rw[if_neg c3] at h;omega
def jiC:Sp:=fun vs H Q _=>∃(n m:Nat) (b g:Addr) (rs:List Addr) (ps:List Pt) (x y z v:Int),vs=[.ref b,.ref g]/\n+2*m+3<=650/\H b=some (.tup (rs.map V.ref))/\Sps H rs ps/\3<=ps.length/\ps.length<=17/\(∀i,i<ps.length->(pt ps i).bd m/\1<=(pt ps i).w)/\H g=some (.tup [.int x,.int y,.int z,.int v])/\Bd n x/\Bd n y/\Bd n z/\Bd n v /\
 ∀(L:Addr) (H':Hp) (es:List Addr),Same H H'->H' L=some (.lst (es.map V.ref))->Prs H' es (sdd x y z v ps ps.length)->Q (.ref L) H'
theorem SameB.is4 (s:SameB sd H J) (h:H sd=some (.lst xs)) (k:Is4 H r p):Is4 J r p:=⟨s _ _ (fun e=>by rw[<- e,k.1] at h;cases h) k.1,k.2⟩
theorem SameB.tup (s:SameB sd H J) (h:H sd=some (.lst xs)) (k:H r=some (.tup ys)):J r=some (.tup ys):=s _ _ (fun e=>by rw[<- e,k] at h;cases h) k
theorem jiD (n:Int):Fit (sgn n):=by
 refine Bd.fit (n:=10) ?_;unfold sgn;split
 ·unfold Bd;decide
 ·split
  ·unfold Bd;decide
  ·unfold Bd;decide
variable {ds:List (Pt × Int)}
theorem Prs.keep {es:List Addr} (h:Prs H es ds) (s:Same H H'):Prs H' es ds:=⟨h.1,fun i hi=>by
 obtain⟨r,h1,h2⟩:=h.2 i hi;exact⟨r,s _ _ h1,h2.keep s⟩⟩
theorem Prs.snoc {p:Addr} {os:List Addr} {s:Int} (h:Prs J os ds) (hsd:J sd=some (.lst xs)) (hp:J p=some (.tup [.ref r,.int s])) (hr:Is4 J r q):Prs (upd J sd (.lst ys)) (os++[p]) (ds++[(q,s)]):=by
 have ne:∀{a:Addr} {zs:List V},J a=some (.tup zs)->a≠sd:=fun h e=>by rw[e,hsd] at h;cases h
 refine⟨by rw[xad,xad,h.1];rfl,fun i hi=>?_⟩;rw[xad,xb0] at hi;by_cases c:i<ds.length
 ·obtain⟨r',h1,h2⟩:=h.2 i c;have e1:ad (os++[p]) i=ad os i:=by
   unfold ad;rw[xab,xab,xaF (by rw[h.1];exact c)]
  have e2:(ds++[(q,s)]).getD i (⟨0,0,0,0⟩,0)=ds.getD i (⟨0,0,0,0⟩,0):=by
   rw[xab,xab,xaF c]
  rw[e1,e2];exact⟨r',by rw[jaK (ne h1)];exact h1,by rw[jaK (ne h2.1)];exact h2.1,h2.2⟩
 ·have ei:i=ds.length:=by omega
  subst ei;have e1:ad (os++[p]) ds.length=p:=by
   unfold ad;rw[xab,xau (by rw[h.1];exact xag _),h.1,Nat.sub_self];rfl
  have e2:(ds++[(q,s)]).getD ds.length (⟨0,0,0,0⟩,0)=(q,s):=by
   rw[xab,xau (xag _),Nat.sub_self];rfl
  rw[e1,e2];exact⟨r,by rw[jaK (ne hp)];exact hp,by rw[jaK (ne hr.1)];exact hr.1,hr.2⟩
theorem jdJ (x y z v:Int) (ps:List Pt) (i:Nat):sdd x y z v ps (i+1)=sdd x y z v ps i++jht x y z v (pt ps ((i+(ps.length-1)) % ps.length)) (pt ps i):=by
 unfold sdd;rw[xaK,xbP];simp
theorem je1 (x y z v:Int) (ps:List Pt):∀n,(sdd x y z v ps n).length<=2*n
  | 0=>xag _
  | n + 1 => by
    have ih:=je1 x y z v ps n;rw[jdJ,xad];have:(jht x y z v (pt ps ((n+(ps.length-1)) % ps.length)) (pt ps n)).length<=2:=by
      unfold jht;split<;>simp
    omega
theorem jj0 (T:Tx K mg t1 t2) (F:At K mg "sided_round" jb7 ["board","plane"] []) (Dj:jan P w K mg base CX0 1 "edges_of" ["board"] [] jiy) (di:jan P w K mg base CX0 2 "side_of" ["plane","spot"] [] jgE) (Dn:jan P w K mg base CX0 4 "met_at" ["plane","one","other"] [] jnB):jan P w K mg base CX0 5 "sided_round" ["board","plane"] [] jiC:=by
 refine F.ok jcL (fun vs H Q E h=>?_) (fun f cdv A outer s H vs Q E hr h=>?_)
 ·obtain⟨n,m,b,g,rs,ps,x,y,z,v,rfl,_⟩:=h;rfl
 obtain⟨n,m,b,g,rs,ps,x,y,z,v,rfl,nm,hb,hs,n3,n9,lo,hg,bx,by',bz,bv,q⟩:=h;have S:=jcL;refine⟨_,(jad (jat (i:=2) S.nd rfl (Or.inl rfl) (jbk jac))
  (jad (jbx PassesOwn.never rfl (jbN (jah Dj hr.m rfl jav (jaa (pv 0) jac jaf))) (jao (i:=3) S.nd rfl (Or.inl rfl))
  (jad (jat (i:=4) S.nd rfl (Or.inl rfl) (jah di hr.m rfl jav (jaa (pv 1) (jaa (jaj jal (pv 3) jab) jac jaq) jaf)))
  (jad (jat (i:=5) S.nd rfl (Or.inl rfl) (jah di hr.m rfl jav (jaa (pv 1) (jaa (jaj jal (pv 3) jab) jac jaq) jaf)))
  (jad (jaW (jau jfk (jap jar (pv 4) (pv 5)) jab (jax _))
  (jai (jbY (jeL PySem.F.plainAttrs_list PySem.F.slot_list_append PySem.F.type_list_append jba (pv 2) (jaa (jaG (jaa (jah Dn hr.m rfl jav (jaa (pv 1) (jaa (jaj jal (pv 3) jab) (jaa (jaj jal (pv 3) jab) jac jaq) jaq) jaf)) (jaa jab jac jam) jaI)) jac jaE))))
  jaz)
  (jai (jbY (jeL PySem.F.plainAttrs_list PySem.F.slot_list_append PySem.F.type_list_append jba (pv 2) (jaa (jaG (jaa (jaj jal (pv 3) jab) (jaa (pv 5) jac jaf) jaq)) jac jaE))))))))
  (jai (jas (pv 2))))),?_⟩
 have ln:=hs.len;have sm:∀{i:Int},Bd n i->Small i:=fun h=>Bd.mono h (by omega);walk_at "rf";refine⟨by decide,fun sd hsd=>?_⟩;refine jeh hsd fun H1 s1 e1=>?_;refine⟨b,rs,rfl,s1 _ _ hb,by omega,by omega,fun L H2 es s2 e2 l2 p2=>?_⟩;try walk_at "rf"
 have e1':=s2 _ _ e1;have Lsd:L≠sd:=fun z=>by
  rw[z,e1'] at e2;injection e2 with e2
  injection e2 with e2
  have:=congrArg List.length e2;rw[xaa,l2,ln] at this;simp at this;omega
 have hs2:=(hs.keep s1.t).keep s2.t;refine⟨⟨_,SqL.of e2⟩,jb0 (K:=K) (a:=L) (xs:=es.map V.ref) (fun i σ J=>SameB sd H2 J/\i<=ps.length/\∃(os:List Addr) (o3 o4 o5:Option V),σ=[some (.ref b),some (.ref g),some (.ref sd),o3,o4,o5]/\J sd=some (.lst (os.map V.ref))/\Prs J os (sdd x y z v ps i)) ⟨SameB.refl sd H2,xaQ _,[],none,none,none,rfl,e1',rfl,fun i hi=>absurd hi (xbT _)⟩ (fun i σ J hi hP=>SqL.of (hP.1 _ _ Lsd e2)) ?_ ?_⟩
 ·rintro i ev σ J hi ⟨sJ,li,os,o3,o4,o5,rfl,eJ,hP⟩;have il:i<es.length:=by have:=(xaf.mp hi).1;rw[xaa] at this;exact this
  rw[jez il] at hi;cases hi;have pi:=p2 i (by omega);rw[ln] at pi;have hm:(i+(ps.length-1)) % ps.length<ps.length:=xaC _ (by omega);have q0:=SameB.is4 sJ e1' (hs2.get hm).2;have q1:=SameB.is4 sJ e1' (hs2.get (i:=i) (by omega)).2;have kE:=SqT.of (K:=K) (SameB.tup sJ e1' pi);have kg:=SameB.tup sJ e1' (s2 _ _ (s1 _ _ hg));obtain⟨l0,w0⟩:=lo _ hm;obtain⟨l1,w1⟩:=lo i (by omega);try walk_at "rf"
  refine ixT kE (i:=0) rfl ⟨g,_,x,y,z,v,_,rfl,kg,sm bx,sm by',sm bz,sm bv,q0,?_⟩;refine ixT kE (i:=1) rfl ⟨g,_,x,y,z,v,_,rfl,kg,sm bx,sm by',sm bz,sm bv,q1,?_⟩;try walk_at "rf"
  refine⟨jiD _,jiD _,?_⟩;have dl:=je1 x y z v ps i;have ol:os.length<=34:=by rw[hP.1];omega
  by_cases c:sgn (hgt x y z v (pt ps ((i+(ps.length-1)) % ps.length)))*sgn (hgt x y z v (pt ps i))<0
  ·rw[if_pos c];refine⟨.inl ⟨_,SqL.of eJ⟩,ixT kE (i:=0) rfl (ixT kE (i:=1) rfl ⟨n,m,g,_,_,x,y,z,v,_,_,rfl,nm,kg,bx,by',bz,bv,q0,q1,l0,l1,jgN w0 w1 c,fun t J1 s3 e3=>⟨by decide,fun p hp=>?_⟩⟩)⟩;refine jeh hp fun J2 s4 e4=>?_;have S4:=s3.trans s4;have eJ2:=S4 _ _ eJ;refine⟨sd,_,_,rfl,rfl,eJ2,jaF (by rw[xaa];omega),?_⟩;have P5:=(hP.keep S4).snoc (ys:=os.map V.ref++[V.ref p]) eJ2 e4 (e3.keep s4);have e5:upd J2 sd (.lst (os.map V.ref++[V.ref p])) sd=some (.lst ((os++[p]).map V.ref)):=by rw[xah];exact jag
   have s5:SameB sd J2 (upd J2 sd (.lst (os.map V.ref++[V.ref p]))):=fun b' o' nb hb'=>by rw[jaK nb];exact hb'
   generalize upd J2 sd (.lst (os.map V.ref++[V.ref p]))=J3 at P5 e5 s5 |-
   have S5:SameB sd J J3:=SameB.trans S4.b s5;have kE5:=SqT.of (K:=K) (SameB.tup S5 eJ (SameB.tup sJ e1' pi));have q15:=SameB.is4 S5 eJ q1;refine⟨.inl ⟨_,SqL.of e5⟩,ixT kE5 (i:=1) rfl ⟨by decide,fun p' hp'=>?_⟩⟩;refine jeh hp' fun J4 s6 e6=>?_;have eJ4:=s6 _ _ e5;refine⟨sd,_,_,rfl,rfl,eJ4,jaF (by rw[xaa,xad,xb0];omega),?_⟩;have P7:=(P5.keep s6).snoc (ys:=(os++[p]).map V.ref++[V.ref p']) eJ4 e6 (q15.keep s6);refine⟨SameB.trans sJ (SameB.trans S5 (SameB.trans s6.b fun b' o' nb hb'=>by rw[jaK nb];exact hb')),by omega,os++[p]++[p'],by rw[jag];simp,?_⟩;have eS:sdd x y z v ps (i+1)=sdd x y z v ps i++[(jde (jcH x y z v (pt ps ((i+(ps.length-1)) % ps.length)) (pt ps i)),0)]++[(pt ps i,sgn (hgt x y z v (pt ps i)))]:=by
    rw[jdJ];unfold jht;rw[if_pos c,xbx]
   rw[eS];exact P7
  ·rw[if_neg c];refine⟨.inl ⟨_,SqL.of eJ⟩,ixT kE (i:=1) rfl ⟨by decide,fun p' hp'=>?_⟩⟩;refine jeh hp' fun J4 s6 e6=>?_;have eJ4:=s6 _ _ eJ;refine⟨sd,_,_,rfl,rfl,eJ4,jaF (by rw[xaa];omega),?_⟩;have P7:=(hP.keep s6).snoc (ys:=os.map V.ref++[V.ref p']) eJ4 e6 (q1.keep s6);refine⟨SameB.trans sJ (SameB.trans s6.b fun b' o' nb hb'=>by rw[jaK nb];exact hb'),by omega,os++[p'],by rw[xah];exact jag,?_⟩;have eS:sdd x y z v ps (i+1)=sdd x y z v ps i++[(pt ps i,sgn (hgt x y z v (pt ps i)))]:=by
    rw[jdJ];unfold jht;rw[if_neg c,List.nil_append]
   rw[eS];exact P7
 ·rintro σ J ⟨sJ,li,os,o3,o4,o5,rfl,eJ,hP⟩;have el:(es.map V.ref).length=ps.length:=by rw[xaa,l2,ln]
  rw[el] at hP;exact⟨_,rfl,q sd J os (SameB.fresh s1 hsd (s2.b.trans sJ)) eJ hP⟩
variable {te:TE}
theorem jj1 {a:Addr} {zs:List V} {ρ:L2.St} {g:TG} {tt:TT} {acc:Addr} {Z:Hp->Prop} (f:Nat->V) (c:Nat->Bool) (hn:zs.length<1000) (hacc:H1 acc=none) (hz:SqL K H1 a zs)
  (hs:∀(i:Nat) (z:V) (v0:L2.St) (H3:Hp) (Rt:V->Hp->Prop) (Rn:Hp->Prop),zs[i]?=some z->v0.length=n->Same H1 H3->(c i=true->∀H4,Same H3 H4->Rt (f i) H4)->(c i=false->∀H4,Same H3 H4->Rn H4)->g z (v0++ρ) H3 fun σ2 H2=>(∃v:L2.St,v.length=n/\σ2=v++ρ)/\tt σ2 H2 fun b H3=>if b=true then te σ2 H3 Rt else Rn H3)
  (hd:∀H',Same H1 H'->H' acc=some (.lst (((List.range zs.length).filter c).map f))->Z H'):jdk (Itl K a) n ρ g tt te acc Z H1:=by
 refine⟨fun i m xs H=>(Same H1 H/\H acc=some (.lst xs)/\xs=((List.range i).filter c).map f)/\i<=zs.length/\m=zs.length-i,⟨zs.length,⟨Same.new hacc _,jag,rfl⟩,xaQ _,rfl⟩,?_⟩;rintro i m xs H ⟨⟨g1,g2,rfl⟩,hi,rfl⟩;have sq:=g1.seq hz;have hl:(((List.range i).filter c).map f).length<sizeLine:=jaF (by
  rw[xaa];have:=xbp c (List.range i);rw[xbj] at this;omega)
 by_cases hlt:i<zs.length
 ·have ez:zs[i]?=some zs[i]:=xac hlt;refine .inr ⟨⟨zs,zs[i],sq,ez⟩,(fun y H4=>y=f i/\c i=true/\Same H1 H4/\H4 acc=some (.lst (((List.range i).filter c).map f))),fun H3=>c i=false/\Same H1 H3/\H3 acc=some (.lst (((List.range i).filter c).map f)),?_,?_,?_⟩
  ·rintro y H4 ⟨rfl,ci,s4,a4⟩;refine⟨a4,hl,zs.length-(i+1),by omega,⟨Same.keepN s4 hacc _,jag,?_⟩,hlt,rfl⟩;rw[xaK,xap,xah,xaR,if_pos ci];rfl
  ·rintro H3 ⟨ci,s3,a3⟩;refine⟨zs.length-(i+1),by omega,⟨s3,a3,?_⟩,hlt,rfl⟩;rw[xaK,xap,xah,xaR,if_neg (by rw[ci];decide)];simp
  ·rintro v0 x H' l0 ⟨rfl,hx⟩;have ex:x=zs[i]:=by
    have z:=hx zs sq;rw[ez] at z;exact (Option.some.inj z).symm
   subst ex;exact hs i _ v0 H' _ _ ez l0 g1 (fun ci H4 s4=>⟨rfl,ci,g1.trans s4,s4 _ _ g2⟩) (fun ci H4 s4=>⟨ci,g1.trans s4,s4 _ _ g2⟩)
 ·have e:i=zs.length:=by omega
  subst e;exact .inl ⟨⟨zs,sq,xag _⟩,hd _ g1 g2⟩
def kLo (ds:List (Pt × Int)):List Pt:=(ds.filter fun d=>decide (d.2<=0)).map (·.1)
def kHi (ds:List (Pt × Int)):List Pt:=(ds.filter fun d=>decide (0<=d.2)).map (·.1)
def jfJ:Sp:=fun vs H Q _=>∃(n m:Nat) (b g:Addr) (rs:List Addr) (ps:List Pt) (x y z v:Int),vs=[.ref b,.ref g]/\n+2*m+3<=650/\H b=some (.tup (rs.map V.ref))/\Sps H rs ps/\3<=ps.length/\ps.length<=17/\(∀i,i<ps.length->(pt ps i).bd m/\1<=(pt ps i).w)/\H g=some (.tup [.int x,.int y,.int z,.int v])/\Bd n x/\Bd n y/\Bd n z/\Bd n v /\
  ((∀ i, i<ps.length->hgt x y z v (pt ps i) = 0)/\(∀ (t : Addr) (H' : Hp), Same H H'->H' t = some (.tup [.non, .non])->Q (.ref t) H') \/
   (∀i,i<ps.length->0<=hgt x y z v (pt ps i))/\(∃i,i<ps.length/\0<hgt x y z v (pt ps i))/\(∀(t:Addr) (H':Hp),Same H H'->H' t=some (.tup [.non,.ref b])->Q (.ref t) H') \/
   (∀i,i<ps.length->hgt x y z v (pt ps i)<=0)/\(∃i,i<ps.length/\hgt x y z v (pt ps i)<0)/\(∀(t:Addr) (H':Hp),Same H H'->H' t=some (.tup [.ref b,.non])->Q (.ref t) H') \/
   (∃i,i<ps.length/\0<hgt x y z v (pt ps i))/\(∃i,i<ps.length/\hgt x y z v (pt ps i)<0)/\3<=(kLo (sdd x y z v ps ps.length)).length/\(kLo (sdd x y z v ps ps.length)).length<=17/\3<=(kHi (sdd x y z v ps ps.length)).length/\(kHi (sdd x y z v ps ps.length)).length<=17 /\
     (∀(t:Addr) (H':Hp) (l1 l2:Addr) (r1 r2:List Addr),Same H H'->H' t=some (.tup [.ref l1,.ref l2])->H' l1=some (.tup (r1.map V.ref))->Sps H' r1 (frm (kLo (sdd x y z v ps ps.length)) (kLo (sdd x y z v ps ps.length)))->H' l2=some (.tup (r2.map V.ref))->Sps H' r2 (frm (kHi (sdd x y z v ps ps.length)) (kHi (sdd x y z v ps ps.length)))->Q (.ref t) H'))
theorem jgO {H:Hp} {ds:List (Pt × Int)} {r:Nat->Addr} (c:Int->Bool):∀n,n<=ds.length->(∀i,i<ds.length->Is4 H (r i) (ds.getD i (⟨0,0,0,0⟩,0)).1)->Sps H (((List.range n).filter fun i=>c (ds.getD i (⟨0,0,0,0⟩,0)).2).map r) (((ds.take n).filter fun d=>c d.2).map (·.1))
  | 0, _, _ => by
    rw[List.take_zero];exact .nil
  | n + 1, hn, h => by
    have ih:=jgO c n (by omega) h;have eg:ds[n]?=some (ds.getD n (⟨0,0,0,0⟩,0)):=by
      rw[xab,xac (by omega)];rfl
    rw[xaV,eg,xaK,xap,xah,xap,xah];refine ih.app ?_;show Sps H ((List.filter _ [n]).map r) ((List.filter _ [ds.getD n (⟨0,0,0,0⟩,0)]).map (·.1));cases cc:c (ds.getD n (⟨0,0,0,0⟩,0)).2 with
    | true =>
      rw[xaR,if_pos cc,xaR,if_pos cc];exact .cons (h n (by omega)) .nil
    | false =>
      rw[xaR,if_neg (by rw[cc];decide),xaR,if_neg (by rw[cc];decide)];exact .nil
theorem kept {acc:Addr} {es:List Addr} {tt:TT} {Z:Hp->Prop} (c:Int->Bool) (e2:H1 L=some (.lst (es.map V.ref))) (hP:Prs H1 es ds) (hl:ds.length<=100) (hacc:H1 acc=none)
    (ht:∀(r:Addr) (s:Int) (H:Hp) (R:Bool->Hp->Prop),R (c s) H->tt [some (.ref r),some (.int s)] H R)
    (hd:∀(H':Hp) (rs:List Addr),Same H1 H'->H' acc=some (.lst (rs.map V.ref))->Sps H' rs ((ds.filter fun d=>c d.2).map (·.1))->Z H'):jdk (Itl K L) 2 [] (jlj K 2 (jfX (jbM 0) (jfX (jbM 1) jmH))) tt (jli 0) acc Z H1:=by
  obtain⟨r,hr⟩:∃r:Nat->Addr,∀i,i<ds.length->H1 (ad es i)=some (.tup [.ref (r i),.int (ds.getD i (⟨0,0,0,0⟩,0)).2])/\Is4 H1 (r i) (ds.getD i (⟨0,0,0,0⟩,0)).1:=⟨fun i=>if h:i<ds.length then (hP.2 i h).choose else 0,fun i hi=>by simp only[dif_pos hi];exact (hP.2 i hi).choose_spec⟩;refine jj1 (fun i=>V.ref (r i)) (fun i=>c (ds.getD i (⟨0,0,0,0⟩,0)).2) (by rw[xaa,hP.1];omega) hacc (SqL.of e2) (fun i z v0 H3 Rt Rn hz l0 s3 ht' hn'=>?_) (fun H' s' e'=>?_)
  . have il:i < es.length:=by have:=(xaf.mp hz).1; rw[xaa] at this; exact this
    rw[jez il] at hz;cases hz;obtain⟨h1,h2⟩:=hr i (by rw[<- hP.1];exact il)
    match v0,l0 with
    | [u, v], _ =>
      refine⟨_,_,rfl,SqT.of (s3 _ _ h1),rfl,_,_,rfl,_,_,rfl,rfl,?_⟩;refine⟨⟨[some (V.ref (r i)),some (V.int (ds.getD i (⟨0,0,0,0⟩,0)).2)],rfl,rfl⟩,ht (r i) _ H3 _ ?_⟩;cases cc:c (ds.getD i (⟨0,0,0,0⟩,0)).2 with
      | true =>
        rw[if_pos rfl];exact⟨_,rfl,ht' cc H3 (Same.refl _)⟩
      | false =>
        rw[if_neg (by decide)];exact hn' cc H3 (Same.refl _)
  . rw[xaa,hP.1] at e'
    have sp:=jgO (H:=H') (r:=r) c ds.length (xag _) fun i hi=>(hr i hi).2.keep s';rw[xa0] at sp;exact hd H' _ s' (by rw[xa4];exact e') sp
theorem jlP (T:Tx K mg t1 t2) (F:At K mg "cut_by" jbA ["board","plane"] []) (di:jan P w K mg base CX0 2 "side_of" ["plane","spot"] [] jgE) (dY:jan P w K mg base CX0 5 "sided_round" ["board","plane"] [] jiC) (dA:jan P w K mg base CX0 2 "formed" ["corners"] [] jeX):jan P w K mg base CX0 6 "cut_by" ["board","plane"] [] jfJ:=by
 refine F.ok jfG (fun vs H Q E h=>?_) (fun f cdv A outer s H vs Q E hr h=>?_)
 ·obtain⟨n,m,b,g,rs,ps,x,y,z,v,rfl,_⟩:=h;rfl
 obtain⟨n,m,b,g,rs,ps,x,y,z,v,rfl,nm,hb,hc,n3,n8,lo,hg,bx,by',bz,bv,h⟩:=h;have sx:Small x:=Bd.mono bx (by omega);have sy:Small y:=Bd.mono by' (by omega)
 have sz:Small z:=Bd.mono bz (by omega);have sv:Small v:=Bd.mono bv (by omega);have S:=jfG;refine⟨_,(jad (jbr (i:=2) rfl S.nd rfl rfl (N':=["corner","plane"]) (ix:=[1]) ⟨rfl,rfl,by decide +kernel,by decide +kernel,by decide +kernel,(show ∀y:Str × NameKind,y∈_->y.2=NameKind.free->(jae jbA).names.lookup y.1=some .cell\/(jae jbA).names.lookup y.1=some .free from by decide +kernel),(.cons rfl (.inl rfl) rfl .nil)⟩ (jc1 (pv 0)) (fun _ _ _ _=>jao (i:=0) (show (["corner","plane"]:List Str).Nodup from by decide +kernel) rfl (Or.inl rfl)) (fun _ _ _ _=>ja0) (fun _ _ _ _=>(jah di hr.m rfl jav (jaa (pv 1) (jaa (pv 0) jac jaf) jaf))))
  (jad (jaW (PW.pt (jfi (jau jdO (jaw (jfw rfl) rfl T.m_min boot_min (jaa (pv 2) jac jaf)) jab (jax _)) (jeF (jau jdO (jaw (jfv rfl) rfl T.m_max boot_max (jaa (pv 2) jac jaf)) jab (jax _)))))
  (jai (jas (jaG (jaa ja6 (jaa ja6 jac jam) jam))))
  jaz)
  (jad (jaW (jau jjp (jaw (jfw rfl) rfl T.m_min boot_min (jaa (pv 2) jac jaf)) jab (jax _))
  (jai (jas (jaG (jaa ja6 (jaa (pv 0) jac jaf) jam))))
  jaz)
  (jad (jaW (jau jm2 (jaw (jfv rfl) rfl T.m_max boot_max (jaa (pv 2) jac jaf)) jab (jax _))
  (jai (jas (jaG (jaa (pv 0) (jaa ja6 jac jam) jaf))))
  jaz)
  (jad (jat (i:=3) S.nd rfl (Or.inl rfl) (jah dY hr.m rfl jav (jaa (pv 0) (jaa (pv 1) jac jaf) jaf)))
  (jad (jat (i:=4) S.nd rfl (Or.inl rfl) (jah dA hr.m rfl jav (jaa (jfA rfl (N':=["spot","side"]) (ix:=[]) (xs0:=["spot","side"]) ⟨rfl,rfl,by decide +kernel,by decide +kernel,by decide +kernel,(show ∀y:Str × NameKind,y∈_->y.2=NameKind.free->(jae jbA).names.lookup y.1=some .cell\/(jae jbA).names.lookup y.1=some .free from by decide +kernel),.nil⟩ (jbN (pv 3)) (fun _ _ _ _=>jh9 (K:=K) (n:=2) rfl rfl (jaC (jao (i:=0) (show (["spot","side"]:List Str).Nodup from by decide +kernel) rfl (Or.inl rfl)) (jaC (jao (i:=1) (show (["spot","side"]:List Str).Nodup from by decide +kernel) rfl (Or.inl rfl)) jbZ))) (fun _ _ _ _=>(jeM (jau jm2 (pv 1) jab (jax _)))) (fun _ _ _ _=>(pv 0))) jac jcd)))
  (jad (jat (i:=5) S.nd rfl (Or.inl rfl) (jah dA hr.m rfl jav (jaa (jfA rfl (N':=["spot","side"]) (ix:=[]) (xs0:=["spot","side"]) ⟨rfl,rfl,by decide +kernel,by decide +kernel,by decide +kernel,(show ∀y:Str × NameKind,y∈_->y.2=NameKind.free->(jae jbA).names.lookup y.1=some .cell\/(jae jbA).names.lookup y.1=some .free from by decide +kernel),.nil⟩ (jbN (pv 3)) (fun _ _ _ _=>jh9 (K:=K) (n:=2) rfl rfl (jaC (jao (i:=0) (show (["spot","side"]:List Str).Nodup from by decide +kernel) rfl (Or.inl rfl)) (jaC (jao (i:=1) (show (["spot","side"]:List Str).Nodup from by decide +kernel) rfl (Or.inl rfl)) jbZ))) (fun _ _ _ _=>(jeM (jau jjp (pv 1) jab (jax _)))) (fun _ _ _ _=>(pv 0))) jac jcd)))
  (jai (jas (jaG (jaa (pv 4) (jaa (pv 5) jac jaf) jaf))))))))))),?_⟩
 have ln:=hc.len;have lm:(rs.map V.ref).length=ps.length:=by rw[xaa,ln]
 have kb:SqT K H b (rs.map V.ref):=SqT.of hb;walk_at "rf";refine⟨⟨_,kb⟩,fun acc hacc=>?_⟩;refine jkv (zs:=rs.map V.ref) (fun i y' _=>y'=.int (sgn (hgt x y z v (pt ps i)))) (fun _ _ _ _ h _=>h) (by omega) hacc kb ?_ ?_
 ·intro i r H3 R hi s3 hR;have hlt:i<ps.length:=by have:=(xaf.mp hi).1;omega
  obtain⟨b1,b2⟩:=(hc.keep s3.t).get hlt;rw[b1] at hi;cases hi;walk_at "rf";exact⟨g,_,x,y,z,v,_,rfl,s3 _ _ hg,sx,sy,sz,sv,b2,hR _ _ (Same.refl _) rfl⟩
 intro ys H1 s1 e1 l1 p1;obtain⟨ms,rfl⟩:=jij fun i y' hy=>⟨_,p1 i y' hy⟩;rw[xaa,lm] at l1;have gm:∀{i:Nat},i<ps.length->ms[i]?=some (sgn (hgt x y z v (pt ps i))):=fun {i} hi=>by
  have e:ms[i]?=some ms[i]:=xac (by omega);have q:=p1 i (.int ms[i]) (by rw[xal,e];rfl);injection q with q
  rw[e,q]
 have mem:∀{m:Int},m∈ms->∃i,i<ps.length/\m=sgn (hgt x y z v (pt ps i)):=fun {m} hm=>by
  obtain⟨i,hi,rfl⟩:=xbG.mp hm;have z:=gm (i:=i) (by omega);rw[xac hi] at z;exact⟨i,by omega,Option.some.inj z⟩
 have mem2:∀{i:Nat},i<ps.length->sgn (hgt x y z v (pt ps i))∈ms:=fun hi=>xaD (gm hi);have ne:ms≠[]:=fun e=>by rw[e] at l1;simp at l1;omega
 have k1:SqL K H1 acc (ms.map V.int):=SqL.of e1;try walk_at "rf"
 refine⟨_,k1,ne,fun mi hmi lmi=>?_⟩;obtain⟨i1,hi1,ei1⟩:=mem hmi;rcases h with ⟨h0,q⟩ | ⟨h0,⟨j,hj,jp⟩,q⟩ | ⟨h0,⟨j,hj,jp⟩,q⟩ | ⟨⟨k,hk,kp⟩,⟨j,hj,jp⟩,a3,a9,b3,b9,q⟩
 ·have z1:mi=0:=by rw[ei1,jnv (h0 i1 hi1)]
  rw[if_pos z1];refine⟨_,k1,ne,fun ma hma lma=>?_⟩;obtain⟨i2,hi2,ei2⟩:=mem hma;have z2:ma=0:=by rw[ei2,jnv (h0 i2 hi2)]
  rw[if_pos z2];exact⟨by decide,fun t ht=>q t _ (s1.trans (Same.new ht _)) jag⟩
 ·have z1:0<=mi:=by rw[ei1];exact jkF (h0 i1 hi1)
  have fin:2<=sizeLine/\∀p:Addr,H1 p=none->Q (.ref p) (upd H1 p (.tup [.non,.ref b])):=⟨by decide,fun t ht=>q t _ (s1.trans (Same.new ht _)) jag⟩;have nn:∀{m:Int},m∈ms->0<=m:=fun hm=>by
   obtain⟨i,hi,e⟩:=mem hm;rw[e];exact jkF (h0 i hi)
  by_cases z:mi=0
  ·rw[if_pos z];refine⟨_,k1,ne,fun ma hma lma=>?_⟩;have m1:=lma _ (mem2 hj);rw[jlK jp] at m1;rw[if_neg (by omega)];refine⟨_,k1,ne,fun m2 hm2 lm2=>?_⟩;rw[if_pos (nn hm2)];exact fin
  ·rw[if_neg z];refine⟨_,k1,ne,fun m2 hm2 lm2=>?_⟩;rw[if_pos (nn hm2)];exact fin
 ·have m1:=lmi _ (mem2 hj);rw[jjS jp] at m1;rw[if_neg (by omega)];refine⟨_,k1,ne,fun m2 hm2 lm2=>?_⟩;have m3:=lm2 _ (mem2 hj);rw[jjS jp] at m3;rw[if_neg (by omega)];refine⟨_,k1,ne,fun ma hma lma=>?_⟩;obtain⟨i2,hi2,ei2⟩:=mem hma;have z2:ma<=0:=by rw[ei2];exact jnu (h0 i2 hi2)
  rw[if_pos z2];exact⟨by decide,fun t ht=>q t _ (s1.trans (Same.new ht _)) jag⟩
 ·have m1:=lmi _ (mem2 hj);rw[jjS jp] at m1;rw[if_neg (by omega)];refine⟨_,k1,ne,fun m2 hm2 lm2=>?_⟩;have m3:=lm2 _ (mem2 hj);rw[jjS jp] at m3;rw[if_neg (by omega)];refine⟨_,k1,ne,fun ma hma lma=>?_⟩;have m4:=lma _ (mem2 hk);rw[jlK kp] at m4;rw[if_neg (by omega)];refine⟨n,m,b,g,rs,ps,x,y,z,v,rfl,nm,s1 _ _ hb,hc.keep s1.t,n3,n8,lo,s1 _ _ hg,bx,by',bz,bv,fun L H2 es s2 e2 hP=>?_⟩;have dl:=je1 x y z v ps ps.length;refine⟨L,rfl,⟨_,SqL.of e2⟩,fun acc hacc=>kept (fun s=>decide (s<=0)) e2 hP (by omega) hacc (fun r s H R h=>?_) fun H3 r1 s3 e3 p3=>?_⟩
  ·walk_at "rf";exact h
  refine⟨acc,r1,kLo (sdd x y z v ps ps.length),rfl,⟨e3,p3⟩,a3,a9,fun t1 H4 s4 e4=>?_⟩;have S4:=s3.trans s4;refine⟨L,rfl,⟨_,SqL.of (S4 _ _ e2)⟩,fun acc2 hacc2=>kept (fun s=>decide (0<=s)) (S4 _ _ e2) (hP.keep S4) (by omega) hacc2 (fun r s H R h=>?_) fun H5 r2 s5 e5 p5=>?_⟩
  ·walk_at "rf";exact h
  refine⟨acc2,r2,kHi (sdd x y z v ps ps.length),rfl,⟨e5,p5⟩,b3,b9,fun t2 H6 s6 e6=>⟨by decide,fun t ht=>?_⟩⟩;have s7:=Same.new ht (.tup [V.ref t1,V.ref t2]);have S6:=s4.trans (s5.trans (s6.trans s7));exact q t _ t1 t2 _ _ (s1.trans (s2.trans (S4.trans (s5.trans (s6.trans s7))))) jag ((s5.trans (s6.trans s7)) _ _ e4) (((p3.rot _).turn _).keep S6.t) (s7 _ _ e6) (((p5.rot _).turn _).keep (s6.trans s7).t)
inductive RR {α:Type}:List α->List α->Prop
 | refl (l:List α):RR l l
 | rot {l m:List α} (k:Nat) (h:RR l m):RR l (m.drop k++m.take k)
 | rev {l m:List α} (h:RR l m):RR l m.reverse
theorem RR.trans {α:Type} {l m n:List α} (h:RR l m) (k:RR m n):RR l n:=by
 induction k with
 | refl=>exact h
 | rot k _ ih=>exact .rot k ih
 | rev _ ih=>exact .rev ih
theorem RR.len {α:Type} {l m:List α} (h:RR l m):m.length=l.length:=by
 induction h with
 | refl=>rfl
 | rot k _ ih=>rw[xad,xat,xay,<- ih];omega
 | rev _ ih=>rw[xaM,ih]
theorem RR.mem {α:Type} {l m:List α} (h:RR l m) {x:α}:x∈m↔x∈l:=by
  induction h with
  | refl=>exact Iff.rfl
  | @rot m k _ ih =>
    rw[<- ih,xaO,Or.comm,<- xaO,xba]
  | rev _ ih=>rw[List.mem_reverse,ih]
theorem je2 {α:Type} (m:List α) (h:m.length<=k):m.drop k++m.take k=m:=by
 rw[xbV h,xaZ h,List.nil_append]
theorem jj2 {α:Type} (m:List α) (h:k<=m.length):(m.drop k++m.take k).drop (m.length-k)++(m.drop k++m.take k).take (m.length-k)=m:=by
 have ld:(m.drop k).length=m.length-k:=xat;have e1:(m.drop k++m.take k).drop (m.length-k)=m.take k:=by rw[<- ld,xbI]
 have e2:(m.drop k++m.take k).take (m.length-k)=m.drop k:=by rw[<- ld,xbJ]
 rw[e1,e2,xba]
theorem RR.symm {α:Type} {l m:List α} (h:RR l m):RR m l:=by
  induction h with
  | refl=>exact .refl _
  | @rot m k _ ih =>
    by_cases c:k<=m.length
    . have z:=RR.rot (l:=m.drop k++m.take k) (m.length-k) (.refl _)
      rw[jj2 m c] at z;exact z.trans ih
    . rw[je2 m (by omega)]
      exact ih
  | @rev m _ ih =>
    have z:=RR.rev (l:=m.reverse) (.refl _);rw[List.reverse_reverse] at z;exact z.trans ih
theorem RR.fm {α β:Type} (f:α->Option β) {l m:List α} (h:RR l m):RR (l.filterMap f) (m.filterMap f):=by
  induction h with
  | refl=>exact .refl _
  | @rot m k _ ih =>
    have z:=RR.rot ((m.take k).filterMap f).length ih;have e:m.filterMap f=(m.take k).filterMap f++(m.drop k).filterMap f:=by rw[<- List.filterMap_append,xba]
    rw[e,xbI,xbJ,<- List.filterMap_append] at z;exact z
  | @rev m _ ih =>
    rw[List.filterMap_reverse];exact .rev ih
theorem RR.map {α β:Type} (f:α->β) {l m:List α} (h:RR l m):RR (l.map f) (m.map f):=by
 induction h with
 | refl=>exact .refl _
 | rot k _ ih=>rw[xah,xcj,xck];exact .rot k ih
 | rev _ ih=>rw[List.map_reverse];exact .rev ih
def nxt {α:Type}:List α->α->List (α × α)
 | [],_=>[]
 | [x],a=>[(x,a)]
 | x::y::r,a=>(x,y)::nxt (y::r) a
def prs {α:Type}:List α->List (α × α)
 | []=>[]
 | x::r=>nxt (x::r) x
theorem je3 {α:Type} (a:α):∀(l:List α) (y:α) (r:List α),nxt (l++y::r) a=nxt l y++nxt (y::r) a
  | [],y,r=>rfl
  | [x],y,r=>rfl
  | x :: x' :: l, y, r => by
    show (x,x')::nxt (x'::l++y::r) a=_;rw[je3 a (x'::l) y r];rfl
theorem jdq {α:Type} (m:List α) (k:Nat):prs (m.drop k++m.take k)=(prs m).drop k++(prs m).take k:=by
  by_cases c:k<m.length
  . match k with
    | 0=>simp
    | k + 1 =>
      match m,c with
      | x :: r, c =>
        have c:k<r.length:=by simpa using c
        have e:x::r=(x::r.take k)++r.drop k:=by rw[List.cons_append,xba]
        cases e2:r.drop k with
        | nil=>have:=congrArg List.length e2;rw[xat] at this;simp at this;omega
        | cons y s =>
          rw[e2] at e;have l1:(x::r.take k).length=k+1:=by rw[xaq,xay];omega
          have ln:∀(l:List α) (a:α),(nxt l a).length=l.length:=fun l a=>by
            induction l with
            | nil=>rfl
            | cons z t ih => cases t with
              | nil=>rfl
              | cons z' t'=>show (nxt (z'::t') a).length+1=_;rw[ih];rfl
          have d1:(x::r).drop (k+1)=y::s:=by show r.drop k=_;exact e2
          have t1:(x::r).take (k+1)=x::r.take k:=rfl;rw[d1,t1];show nxt (y::s++x::r.take k) y=_;rw[je3];have p:prs (x::r)=nxt (x::r.take k) y++nxt (y::s) x:=by
            show nxt (x::r) x=_;rw[e,je3]
          have l2:(nxt (x::r.take k) y).length=k+1:=by rw[ln,l1]
          rw[p,<- l2,xbI,xbJ]
  . have lp:(prs m).length=m.length:=by
      have ln:∀(l:List α) (a:α),(nxt l a).length=l.length:=fun l a=>by
        induction l with
        | nil=>rfl
        | cons z t ih => cases t with
          | nil=>rfl
          | cons z' t'=>show (nxt (z'::t') a).length+1=_;rw[ih];rfl
      cases m with
      | nil=>rfl
      | cons x r=>exact ln _ _
    rw[je2 m (by omega),je2 (prs m) (by omega)]
def TT {α:Type} (l:List (α × α)):List (α ⊕ α × α):=l.flatMap fun e=>[.inl e.1,.inr e]
def TB {α:Type} (l:List (α × α)):List (α ⊕ α × α):=l.flatMap fun e=>[.inr e,.inl e.2]
def swE {α:Type} (e:α × α):α × α:=(e.2,e.1)
def swS {α:Type}:α ⊕ α × α->α ⊕ α × α
 | .inl x=>.inl x
 | .inr e=>.inr (swE e)
theorem jkO {α:Type} (l:List (α × α)) (k:Nat):TT (l.drop k++l.take k)=(TT l).drop (2*k)++(TT l).take (2*k):=by
  have h:∀(l:List (α × α)) (k:Nat),TT (l.drop k)=(TT l).drop (2*k)/\TT (l.take k)=(TT l).take (2*k):=fun l=>by
    induction l with
    | nil=>intro k;cases k<;>exact⟨rfl,rfl⟩
    | cons e r ih =>
      intro k;cases k with
      | zero=>exact⟨rfl,rfl⟩
      | succ k =>
        obtain⟨i1,i2⟩:=ih k;refine⟨i1,?_⟩;show .inl e.1::.inr e::TT (r.take k)=_;rw[i2];rfl
  show List.flatMap _ _=_;rw[xbP];exact congr (congrArg _ (h l k).1) (h l k).2
theorem jiE {α:Type} (a:α):∀(x:α) (r:List α),TT (nxt (x::r) a)++[.inl a]=.inl x::TB (nxt (x::r) a)
  | x,[]=>rfl
  | x, y :: r => by
    show .inl x::.inr (x,y)::(TT (nxt (y::r) a)++[.inl a])=_;rw[jiE a y r];rfl
theorem jkP {α:Type} (m:List α):RR (TT (prs m)) (TB (prs m)):=by
  cases m with
  | nil=>exact .refl _
  | cons x r =>
    have h:=jiE x x r;have z:=RR.rot (l:=TT (prs (x::r))) 1 (.refl _);cases e:TT (prs (x::r)) with
    | nil =>
      have e':TT (nxt (x::r) x)=[]:=e;rw[e'] at h;have:=List.tail_eq_of_cons_eq h;show RR [] (TB (nxt (x::r) x));rw[<- this];exact .refl _
    | cons s t =>
      have e':TT (nxt (x::r) x)=s::t:=e;rw[e'] at h;have h1:=List.head_eq_of_cons_eq h;have h2:t++[.inl x]=TB (nxt (x::r) x):=List.tail_eq_of_cons_eq h;rw[e] at z;show RR (s::t) (TB (nxt (x::r) x));rw[<- h2];have e3:(s::t).drop 1++(s::t).take 1=t++[s]:=rfl;subst h1;rw[e3] at z;exact z
theorem jnD {α:Type} (R:List (α × α)):TT ((R.map swE).reverse)=((TB R).map swS).reverse:=by
  induction R with
  | nil=>rfl
  | cons e r ih =>
    show TT ((swE e::r.map swE).reverse)=_;rw[xaH];show List.flatMap _ _=_;rw[xbP];show TT ((r.map swE).reverse)++[.inl e.2,.inr (swE e)]=_;rw[ih];show _=(.inr (swE e)::.inl e.2::(TB r).map swS).reverse;rw[xaH,xaH,xbx];rfl
def op {α:Type}:List α->List (α × α)
 | []=>[]
 | [_]=>[]
 | x::y::r=>(x,y)::op (y::r)
theorem jgP {α:Type} (a:α):∀l:List α,nxt l a=op (l++[a])
  | []=>rfl
  | [x]=>rfl
  | x :: y :: r => by
    show (x,y)::nxt (y::r) a=(x,y)::op (y::r++[a]);rw[jgP a (y::r)]
theorem jf6 {α:Type} (z a:α):∀l:List α,op (l++[z]++[a])=op (l++[z])++[(z,a)]
  | []=>rfl
  | [x]=>rfl
  | x :: y :: r => by
    show (x,y)::op (y::r++[z]++[a])=(x,y)::op (y::r++[z])++[(z,a)];rw[jf6 z a (y::r)];rfl
theorem jkQ {α:Type}:∀l:List α,op l.reverse=((op l).map swE).reverse
  | []=>rfl
  | [x]=>rfl
  | x :: y :: r => by
    rw[xaH,xaH,jf6,<- xaH,jkQ (y::r)];show _=((swE (x,y))::(op (y::r)).map swE).reverse;rw[xaH];rfl
theorem jlQ {α:Type} (l:List α):∃k,prs l.reverse=((((prs l).drop k++(prs l).take k)).map swE).reverse:=by
  rcases List.eq_nil_or_concat l with rfl | ⟨l',z,rfl⟩
  . exact⟨0,rfl⟩
  . have e1:(l'++[z]).reverse=z::l'.reverse:=by simp
    cases l' with
    | nil=>exact⟨0,rfl⟩
    | cons x r =>
      refine⟨(op (x::r++[z])).length,?_⟩;have p:prs (x::r++[z])=op (x::r++[z])++[(z,x)]:=by
        show nxt (x::r++[z]) x=_;rw[jgP,jf6]
      have p2:prs (z::(x::r).reverse)=op ((z::(x::r++[z])).reverse):=by
        show nxt (z::(x::r).reverse) z=_;rw[jgP]
        congr 1
        simp
      have e0:List.concat (x::r) z=x::r++[z]:=by simp
      rw[e0,e1,p2,p,jkQ,xbI,xbJ];rfl
theorem jlR {α:Type} {β:Type} (f:α ⊕ α × α->Option β) (hf:∀s,f (swS s)=f s) {l m:List α} (h:RR l m):RR ((TT (prs l)).filterMap f) ((TT (prs m)).filterMap f):=by
  induction h with
  | refl=>exact .refl _
  | @rot m k _ ih =>
    rw[jdq,jkO];exact ih.trans ((RR.rot (2*k) (.refl _)).fm f)
  | @rev m _ ih =>
    obtain⟨k,e⟩:=jlQ m;rw[e,<- jdq,jnD];have e2:(((TB (prs (m.drop k++m.take k))).map swS).reverse).filterMap f=((TB (prs (m.drop k++m.take k))).filterMap f).reverse:=by
      rw[List.filterMap_reverse,List.filterMap_map]
      congr 2
      funext s
      exact hf s
    rw[e2];refine ih.trans (.rev ?_);refine RR.trans ?_ ((jkP (m.drop k++m.take k)).fm f);rw[jdq,jkO];exact (RR.rot (2*k) (.refl _)).fm f
def Tp (c:Nat->Tri) (n:Nat):Prop:=∀i j k,i<j->j<k->k<n->0<dt (c i) (c j) (c k)
theorem jcy (a b c:Tri):dt a b c=dt b c a:=by
 unfold dt jby;grind
theorem jcz (a b:Tri):dt a a b=0/\dt a b b=0/\dt a b a=0:=by
 unfold dt jby;refine⟨?_,?_,?_⟩<;>grind
def je4 (a:Int) (p:Tri) (b:Int) (q:Tri):Tri:=⟨a*p.x+b*q.x,a*p.y+b*q.y,a*p.z+b*q.z⟩
theorem jfK (x y p q:Tri) (a b:Int):dt x y (je4 a p b q)=a*dt x y p+b*dt x y q:=by
 unfold je4 dt jby;grind
theorem jiF (x y p q:Tri) (a b:Int):dt (je4 a p b q) x y=a*dt p x y+b*dt q x y:=by
 unfold je4 dt jby;grind
theorem jf7 (x y p q:Tri) (a b:Int):dt x (je4 a p b q) y=a*dt x p y+b*dt x q y:=by
 unfold je4 dt jby;grind
theorem dt8 (p1 q1 p2 q2 p3 q3:Tri) (a1 b1 a2 b2 a3 b3:Int):dt (je4 a1 p1 b1 q1) (je4 a2 p2 b2 q2) (je4 a3 p3 b3 q3) =
  a1*(a2*(a3*dt p1 p2 p3)+a2*(b3*dt p1 p2 q3)+(b2*(a3*dt p1 q2 p3)+b2*(b3*dt p1 q2 q3)))+b1*(a2*(a3*dt q1 p2 p3)+a2*(b3*dt q1 p2 q3)+(b2*(a3*dt q1 q2 p3)+b2*(b3*dt q1 q2 q3))):=by
 rw[jiF,jf7,jf7,jfK,jfK,jfK,jfK];grind
def cw (c:Nat->Tri) (n k:Nat):Tri:=c (k % n)
theorem cw_lt {c:Nat->Tri} (h:k<n):cw c n k=c k:=by unfold cw;rw[xae h]
theorem cw_n {c:Nat->Tri} :cw c n n=c 0:=by unfold cw;rw[xa7]
theorem D_p {c:Nat->Tri} (h:Tp c n) (ij:i<j) (jk:j<k) (kn:k<=n) (w:¬(i=0/\k=n)):0<dt (cw c n i) (cw c n j) (cw c n k):=by
 rw[cw_lt (show i<n by omega),cw_lt (show j<n by omega)];by_cases e:k=n
 ·subst e;rw[cw_n,<- jcy];exact h 0 i j (by omega) ij (by omega)
 ·rw[cw_lt (show k<n by omega)];exact h i j k ij jk (by omega)
theorem D_n {c:Nat->Tri} (h:Tp c n) (ij:i<=j) (jk:j<=k) (kn:k<=n):0<=dt (cw c n i) (cw c n j) (cw c n k):=by
 by_cases e1:i=j
 ·subst e1;rw[(jcz _ _).1];exact xbm _
 ·by_cases e2:j=k
  ·subst e2;rw[(jcz _ _).2.1];exact xbm _
  ·by_cases w:i=0/\k=n
   ·obtain⟨rfl,rfl⟩:=w;have z:cw c k k=cw c k 0:=by unfold cw;rw[xa7,Nat.zero_mod]
    rw[z,(jcz _ _).2.2];exact xbm _
   ·exact xbE (D_p h (by omega) (by omega) kn w)
theorem jcA {b:Int} (ha:0<=a) (hb:0<=b) (hc:0<=c) (h:a=0\/b=0\/c=0\/0<=d):0<=a*(b*(c*d)):=by
 rcases h with rfl | rfl | rfl | h
 ·rw[xaP];exact xbm _
 ·rw[xaP,xa6];exact xbm _
 ·rw[xaP,xa6,xa6];exact xbm _
 ·exact xaG ha (xaG hb (xaG hc h))
theorem jfL {b:Int} (ha:0<a) (hb:0<b) (hc:0<c) (h:0<d):0<a*(b*(c*d)):=xak ha (xak hb (xak hc h))
structure On (c:Nat->Tri) (n:Nat) (i:Nat) (e:Bool) (v:Tri):Prop where
 lt:i<n
 is:∃a b:Int,v=je4 a (cw c n i) b (cw c n (i+1))/\0<a/\(e=false->b=0)/\(e=true->0<b)
theorem On.tri {c:Nat->Tri} {e f g:Bool} {u w:Tri} (n3:3<=n) (h:Tp c n) (hu:On c n i e u) (hv:On c n j f v) (hw:On c n k g w)
  (ij:i<j\/(i=j/\e=false/\f=true)) (jk:j<k\/(j=k/\f=false/\g=true)) (b1:¬(i=j/\k=j+1/\e=false/\f=true/\g=false)) (b2:¬(i=0/\j=n-1/\k=n-1/\e=false/\f=false/\g=true)):0<dt u v w:=by
 obtain⟨hi,x1,y1,rfl,p1,z1,s1⟩:=hu;obtain⟨hj,x2,y2,rfl,p2,z2,s2⟩:=hv;obtain⟨hk,x3,y3,rfl,p3,z3,s3⟩:=hw;have q1:0<=y1:=by cases e with | false=>rw[z1 rfl];exact xbm _ | true=>have:=s1 rfl;omega
 have q2:0<=y2:=by cases f with | false=>rw[z2 rfl];exact xbm _ | true=>have:=s2 rfl;omega
 have q3:0<=y3:=by cases g with | false=>rw[z3 rfl];exact xbm _ | true=>have:=s3 rfl;omega
 have N:∀{a b d:Nat},a<=b->b<=d->d<=n->0<=dt (cw c n a) (cw c n b) (cw c n d):=fun h1 h2 h3=>D_n h h1 h2 h3;have ij':i<j\/y1=0:=by
  rcases ij with r | ⟨r1,r2,r3⟩
  ·exact .inl r
  ·exact .inr (z1 r2)
 have ij0:i<=j:=ij.elim xa2 fun r=>Nat.le_of_eq r.1;have jk':j<k\/y2=0:=by
  rcases jk with r | ⟨r1,r2,r3⟩
  ·exact .inl r
  ·exact .inr (z2 r2)
 have jk0:j<=k:=jk.elim xa2 fun r=>Nat.le_of_eq r.1;rw[dt8];have t1:0<=x1*(x2*(x3*dt (cw c n i) (cw c n j) (cw c n k))):=jcA (by omega) (by omega) (by omega) (.inr (.inr (.inr (N ij0 jk0 (by omega)))));have t2:0<=x1*(x2*(y3*dt (cw c n i) (cw c n j) (cw c n (k+1)))):=jcA (by omega) (by omega) q3 (.inr (.inr (.inr (N ij0 (by omega) (by omega)))));have t3:0<=x1*(y2*(x3*dt (cw c n i) (cw c n (j+1)) (cw c n k))):=jcA (by omega) q2 (by omega) (by
  rcases jk' with r | r
  ·exact .inr (.inr (.inr (N (by omega) (by omega) (by omega))))
  ·exact .inr (.inl r))
 have t4:0<=x1*(y2*(y3*dt (cw c n i) (cw c n (j+1)) (cw c n (k+1)))):=jcA (by omega) q2 q3 (.inr (.inr (.inr (N (by omega) (by omega) (by omega)))));have t5:0<=y1*(x2*(x3*dt (cw c n (i+1)) (cw c n j) (cw c n k))):=jcA q1 (by omega) (by omega) (by
  rcases ij' with r | r
  ·exact .inr (.inr (.inr (N (by omega) (by omega) (by omega))))
  ·exact .inl r)
 have t6:0<=y1*(x2*(y3*dt (cw c n (i+1)) (cw c n j) (cw c n (k+1)))):=jcA q1 (by omega) q3 (by
  rcases ij' with r | r
  ·exact .inr (.inr (.inr (N (by omega) (by omega) (by omega))))
  ·exact .inl r)
 have t7:0<=y1*(y2*(x3*dt (cw c n (i+1)) (cw c n (j+1)) (cw c n k))):=jcA q1 q2 (by omega) (by
  rcases jk' with r | r
  ·exact .inr (.inr (.inr (N (by omega) (by omega) (by omega))))
  ·exact .inr (.inl r))
 have t8:0<=y1*(y2*(y3*dt (cw c n (i+1)) (cw c n (j+1)) (cw c n (k+1)))):=jcA q1 q2 q3 (.inr (.inr (.inr (N (by omega) (by omega) (by omega)))));have P:∀{a b d:Nat},a<b->b<d->d<=n->¬(a=0/\d=n)->0<dt (cw c n a) (cw c n b) (cw c n d):=fun h1 h2 h3 h4=>D_p h h1 h2 h3 h4;have S:0<x1*(x2*(x3*dt (cw c n i) (cw c n j) (cw c n k)))\/0<x1*(x2*(y3*dt (cw c n i) (cw c n j) (cw c n (k+1))))\/0<x1*(y2*(x3*dt (cw c n i) (cw c n (j+1)) (cw c n k)))\/0<x1*(y2*(y3*dt (cw c n i) (cw c n (j+1)) (cw c n (k+1))))\/0<y1*(x2*(y3*dt (cw c n (i+1)) (cw c n j) (cw c n (k+1)))):=by
  by_cases c1:i<j
  ·by_cases c2:j<k
   ·exact .inl (jfL p1 p2 p3 (P c1 c2 (by omega) (by omega)))
   ·obtain⟨r1,r2,r3⟩:=jk.resolve_left c2;by_cases c3:i=0/\k+1=n
    ·cases e with
     | false=>exact absurd ⟨c3.1,by omega,by omega,rfl,r2,r3⟩ b2
     | true=>exact .inr (.inr (.inr (.inr (jfL (s1 rfl) p2 (s3 r3) (P (by omega) (by omega) (by omega) (by omega))))))
    ·exact .inr (.inl (jfL p1 p2 (s3 r3) (P c1 (by omega) (by omega) c3)))
  ·obtain⟨r1,r2,r3⟩:=ij.resolve_left c1;have c2:j<k:=by
    rcases jk with r | ⟨_,r,_⟩
    ·exact r
    ·rw[r3] at r;cases r
   by_cases c4:j+1<k
   ·exact .inr (.inr (.inl (jfL p1 (s2 r3) p3 (P (by omega) c4 (by omega) (by omega)))))
   ·cases g with
    | false=>exact absurd ⟨r1,by omega,r2,r3,rfl⟩ b1
    | true=>exact .inr (.inr (.inr (.inl (jfL p1 (s2 r3) (s3 rfl) (P (by omega) (by omega) (by omega) (by omega))))))
 rw[xb7,xb7,xb7,xb7,xb7,xb7];omega
def kp (H:Nat->Int) (n p:Nat):Bool:=if p % 2=0 then decide (0<=H (p / 2)) else decide (H (p / 2)*H ((p / 2+1) % n)<0)
def xpt (c:Nat->Tri) (H:Nat->Int) (n i:Nat):Tri:=je4 (ab (H ((i+1) % n))) (c i) (ab (H i)) (c ((i+1) % n))
def el (c:Nat->Tri) (H:Nat->Int) (n p:Nat):Tri:=if p % 2=0 then c (p / 2) else xpt c H n (p / 2)
def clp (H:Nat->Int) (n:Nat):List Nat:=(List.range (2*n)).filter (kp H n)
def clip (c:Nat->Tri) (H:Nat->Int) (n i:Nat):Tri:=el c H n ((clp H n).getD i 0)
theorem jj3 (p q:Tri):p=je4 1 p 0 q:=by
 unfold je4;simp
theorem jcO {b:Int} (h:a*b<0):a≠0/\b≠0/\¬(0<=a/\0<=b)/\¬(a<=0/\b<=0):=by
 refine⟨fun e=>?_,fun e=>?_,fun e=>?_,fun e=>?_⟩
 ·rw[e,xaP] at h;omega
 ·rw[e,xa6] at h;omega
 ·have:=xaG e.1 e.2;omega
 ·have:=Int.mul_nonneg_of_nonpos_of_nonpos e.1 e.2;omega
theorem jbw {n:Int} (h:n≠0):0<ab n:=by
 unfold ab;split<;>omega
theorem jlS {c:Nat->Tri} {H:Nat->Int} {p:Nat} (hp:p<2*n) (h:p % 2=0\/H (p / 2)*H ((p / 2+1) % n)<0):On c n (p / 2) (decide (p % 2=1)) (el c H n p):=by
 have hl:p / 2<n:=by omega
 refine⟨hl,?_⟩;unfold el;by_cases e:p % 2=0
 ·rw[if_pos e,decide_eq_false (by omega),cw_lt hl];exact⟨1,0,jj3 _ _,by decide,(fun _=>rfl),(fun h=>by cases h)⟩
 ·rw[if_neg e,decide_eq_true (by omega),cw_lt hl];obtain⟨h1,h2,_,_⟩:=jcO (h.resolve_left e);exact⟨_,_,rfl,jbw h2,(fun h=>by cases h),fun _=>jbw h1⟩
theorem clp_mem {H:Nat->Int} {p:Nat}:p∈clp H n↔p<2*n/\kp H n p=true:=by
 unfold clp;rw[xbl,xaU]
theorem jeA (H:Nat->Int) (n:Nat):(clp H n).Pairwise (· < ·):=List.pairwise_lt_range.sublist List.filter_sublist
theorem je5 {l:List Nat} (h:i<l.length):l.getD i 0∈l:=by
 rw[xab,xac h];exact xbn h
theorem jiG {l:List Nat} (hs:l.Pairwise (· < ·)) (ij:i<j) (hj:j<l.length):l.getD i 0<l.getD j 0:=by
 have z:=List.pairwise_iff_getElem.mp hs i j (by omega) hj ij;rw[xab,xab,xac (by omega),xac hj];exact z
theorem jlT {H:Nat->Int} {p:Nat} (h:kp H n p=true):(p % 2=0/\0<=H (p / 2))\/(p % 2=1/\H (p / 2)*H ((p / 2+1) % n)<0):=by
 unfold kp at h;by_cases e:p % 2=0
 ·rw[if_pos e] at h;exact .inl ⟨e,of_decide_eq_true h⟩
 ·rw[if_neg e] at h;exact .inr ⟨by omega,of_decide_eq_true h⟩
theorem jlU {c:Nat->Tri} {H:Nat->Int} (n3:3<=n) (h:Tp c n):Tp (clip c H n) (clp H n).length:=by
 intro i j k ij jk kn;have m1:=clp_mem.mp (je5 (l:=clp H n) (i:=i) (by omega));have m2:=clp_mem.mp (je5 (l:=clp H n) (i:=j) (by omega));have m3:=clp_mem.mp (je5 (l:=clp H n) (i:=k) kn);have o1:=jiG (jeA H n) ij (by omega);have o2:=jiG (jeA H n) jk kn;unfold clip;generalize (clp H n).getD i 0=p at *
 generalize (clp H n).getD j 0=q at *
 generalize (clp H n).getD k 0=r at *
 have kp1:=jlT m1.2;have kp2:=jlT m2.2;have kp3:=jlT m3.2;have on1:=jlS (c:=c) (H:=H) m1.1 (by rcases kp1 with r | r;exact .inl r.1;exact .inr r.2);have on2:=jlS (c:=c) (H:=H) m2.1 (by rcases kp2 with r | r;exact .inl r.1;exact .inr r.2);have on3:=jlS (c:=c) (H:=H) m3.1 (by rcases kp3 with r | r;exact .inl r.1;exact .inr r.2);refine On.tri n3 h on1 on2 on3 ?_ ?_ ?_ ?_
 ·by_cases e:p / 2<q / 2
  ·exact .inl e
  ·exact .inr ⟨by omega,decide_eq_false (by omega),decide_eq_true (by omega)⟩
 ·by_cases e:q / 2<r / 2
  ·exact .inl e
  ·exact .inr ⟨by omega,decide_eq_false (by omega),decide_eq_true (by omega)⟩
 ·rintro⟨e1,e2,e3,e4,e5⟩;have f3:=of_decide_eq_false e3;have f4:=of_decide_eq_true e4;have f5:=of_decide_eq_false e5;rcases kp1 with a1 | a1
  ·rcases kp2 with a2 | a2
   ·omega
   ·rcases kp3 with a3 | a3
    ·have z:=(jcO a2.2).2.2.1;have em:(q / 2+1) % n=r / 2:=by rw[<- e2];exact xae (by omega)
     rw[em,<- e1] at z;exact z ⟨a1.2,a3.2⟩
    ·omega
  ·omega
 ·rintro⟨e1,e2,e3,e4,e5,e6⟩;have f4:=of_decide_eq_false e4;have f5:=of_decide_eq_false e5;have f6:=of_decide_eq_true e6;rcases kp1 with a1 | a1
  ·rcases kp2 with a2 | a2
   ·rcases kp3 with a3 | a3
    ·omega
    ·have z:=(jcO a3.2).2.2.1;have em:(r / 2+1) % n=0:=by rw[e3,show n-1+1=n by omega,xa7]
     rw[em,e3] at z;rw[e1] at a1;rw[e2] at a2;exact z ⟨a2.2,a1.2⟩
   ·omega
  ·omega
theorem jiH:∀{l:List Nat} {a b c:Nat},a∈l->b∈l->c∈l->a≠b->b≠c->a≠c->3<=l.length
  | [],_,_,_,h,_,_,_,_,_=>nomatch h
  | [x], a, b, c, h1, h2, h3, n1, n2, n3 => by
    simp at h1 h2;omega
  | [x, y], a, b, c, h1, h2, h3, n1, n2, n3 => by
    simp at h1 h2 h3;rcases h1 with rfl | rfl<;>rcases h2 with rfl | rfl<;>rcases h3 with rfl | rfl<;>first | exact absurd rfl n1 | exact absurd rfl n2 | exact absurd rfl n3
  | x :: y :: z :: l, _, _, _, _, _, _, _, _, _ => by
    simp
theorem jj4 {H:Nat->Int} (n3:3<=n) (hi:i<n) (hp:0<H i):3<=(clp H n).length:=by
 have md:∀a,a % n<n:=fun a=>xaC _ (by omega);have ev:∀{k},k<n->0<=H k->2*k∈clp H n:=fun {k} hk h=>clp_mem.mpr ⟨by omega,by
  unfold kp;rw[if_pos (by omega),show 2*k / 2=k by omega];exact decide_eq_true h⟩
 have od:∀{k},k<n->H k*H ((k+1) % n)<0->2*k+1∈clp H n:=fun {k} hk h=>clp_mem.mpr ⟨by omega,by
  unfold kp;rw[if_neg (by omega),show (2*k+1) / 2=k by omega];exact decide_eq_true h⟩
 have A:=ev hi (by omega);have e1:(i+1) % n=if i+1=n then 0 else i+1:=by
  split
  ·rename_i e
   rw[e,xa7]
  ·exact xae (by omega)
 have e2:(i+(n-1)) % n=if i=0 then n-1 else i-1:=by
  split
  ·rename_i e
   rw[e,xbi];exact xae (by omega)
  ·rw[show i+(n-1)=i-1+n by omega,xaS];exact xae (by omega)
 have e3:((i+(n-1)) % n+1) % n=i:=by
  rw[e2];split
  ·rename_i e
   rw[show n-1+1=n by omega,xa7,e]
  ·rw[show i-1+1=i by omega];exact xae hi
 have B:∃p,p∈clp H n/\(p=2*((i+1) % n)\/p=2*i+1):=by
  by_cases c:0<=H ((i+1) % n)
  ·exact⟨_,ev (md _) c,.inl rfl⟩
  ·exact⟨_,od hi (xar hp (by omega)),.inr rfl⟩
 have C:∃p,p∈clp H n/\(p=2*((i+(n-1)) % n)\/p=2*((i+(n-1)) % n)+1):=by
  by_cases c:0<=H ((i+(n-1)) % n)
  ·exact⟨_,ev (md _) c,.inl rfl⟩
  ·exact⟨_,od (md _) (by rw[e3];exact xaN (by omega) hp),.inr rfl⟩
 obtain⟨p,hp1,hp2⟩:=B;obtain⟨q,hq1,hq2⟩:=C;rw[e1] at hp2;rw[e2] at hq2;refine jiH A hp1 hq1 ?_ ?_ ?_<;>(split at hp2<;>split at hq2<;>omega)
def jaD (A B C:Int) (v:Tri):Int:=A*v.x+B*v.y+C*v.z
theorem jlV (A B C:Int) (a b c d:Tri):dt b c d*jaD A B C a+dt d a b*jaD A B C c=dt c d a*jaD A B C b+dt a b c*jaD A B C d:=by
 unfold dt jby jaD;grind
theorem jnE {c:Nat->Tri} {l:Nat} {C:Int} (h:Tp c n) (ij:i<j) (jk:j<k) (kl:k<l) (ln:l<n) :
  ¬(0<jaD A B C (c i)/\jaD A B C (c j)<0/\0<jaD A B C (c k)/\jaD A B C (c l)<0)/\¬(jaD A B C (c i)<0/\0<jaD A B C (c j)/\jaD A B C (c k)<0/\0<jaD A B C (c l)):=by
 have e:=jlV A B C (c i) (c j) (c k) (c l);have p1:=h j k l jk kl ln;have p2:0<dt (c l) (c i) (c j):=by rw[jcy];exact h i j l ij (by omega) ln
 have p3:0<dt (c k) (c l) (c i):=by rw[<- jcy];exact h i k l (by omega) kl ln
 have p4:=h i j k ij jk (by omega);constructor
 ·rintro⟨h1,h2,h3,h4⟩;have q1:=xak p1 h1;have q2:=xak p2 h3;have q3:=xar p3 h2;have q4:=xar p4 h4;omega
 ·rintro⟨h1,h2,h3,h4⟩;have q1:=xar p1 h1;have q2:=xar p2 h3;have q3:=xak p3 h2;have q4:=xak p4 h4;omega
theorem opp_iff {b:Int}:a*b<0↔(0<a/\b<0)\/(a<0/\0<b):=by
 constructor
 ·intro h;obtain⟨h1,h2,h3,h4⟩:=jcO h;omega
 ·rintro (⟨h1,h2⟩ | ⟨h1,h2⟩)
  ·exact xar h1 h2
  ·exact xaN h1 h2
theorem jiI {c:Nat->Tri} {C:Int} (h:Tp c n) (ij:i<j) (jk:j<k) (kn:k<n)
  (h1:jaD A B C (c i)*jaD A B C (c ((i+1) % n))<0) (h2:jaD A B C (c j)*jaD A B C (c ((j+1) % n))<0) (h3:jaD A B C (c k)*jaD A B C (c ((k+1) % n))<0):False:=by
 have e1:(i+1) % n=i+1:=xae (by omega);have e2:(j+1) % n=j+1:=xae (by omega);rw[e1] at h1;rw[e2] at h2;have N:∀{a b d e:Nat},a<b->b<d->d<e->e<n->¬(0<jaD A B C (c a)/\jaD A B C (c b)<0/\0<jaD A B C (c d)/\jaD A B C (c e)<0)/\¬(jaD A B C (c a)<0/\0<jaD A B C (c b)/\jaD A B C (c d)<0/\0<jaD A B C (c e)):=fun q1 q2 q3 q4=>jnE h q1 q2 q3 q4;have d1:i+1=j\/i+1<j:=by omega
 have d2:j+1=k\/j+1<k:=by omega
 by_cases w:k+1<n
 ·rw[xae w] at h3;rcases opp_iff.mp h1 with a1 | a1<;>rcases opp_iff.mp h2 with a2 | a2<;>rcases opp_iff.mp h3 with a3 | a3
  all_goals first
   | (have z:=N (a:=i) (b:=i+1) (d:=j) (e:=j+1) (by omega) (by rcases d1 with r | r;(subst r;omega);exact r) (by omega) (by omega);(first | exact z.1 ⟨a1.1,a1.2,a2.1,a2.2⟩ | exact z.2 ⟨a1.1,a1.2,a2.1,a2.2⟩))
   | (have z:=N (a:=j) (b:=j+1) (d:=k) (e:=k+1) (by omega) (by rcases d2 with r | r;(subst r;omega);exact r) (by omega) (by omega);(first | exact z.1 ⟨a2.1,a2.2,a3.1,a3.2⟩ | exact z.2 ⟨a2.1,a2.2,a3.1,a3.2⟩))
   | (have z:=N (a:=i) (b:=i+1) (d:=k) (e:=k+1) (by omega) (by omega) (by omega) (by omega);(first | exact z.1 ⟨a1.1,a1.2,a3.1,a3.2⟩ | exact z.2 ⟨a1.1,a1.2,a3.1,a3.2⟩))
 ·have ek:k=n-1:=by omega
  have e3:(k+1) % n=0:=by rw[show k+1=n by omega,xa7]
  rw[e3] at h3;rcases opp_iff.mp h1 with a1 | a1<;>rcases opp_iff.mp h2 with a2 | a2<;>rcases opp_iff.mp h3 with a3 | a3
  all_goals first
   | (have z:=N (a:=i) (b:=i+1) (d:=j) (e:=j+1) (by omega) (by rcases d1 with r | r;(subst r;omega);exact r) (by omega) (by omega);(first | exact z.1 ⟨a1.1,a1.2,a2.1,a2.2⟩ | exact z.2 ⟨a1.1,a1.2,a2.1,a2.2⟩))
   | (have z:=N (a:=0) (b:=j) (d:=j+1) (e:=k) (by omega) (by omega) (by rcases d2 with r | r;(subst r;omega);exact r) (by omega);(first | exact z.1 ⟨a3.2,a2.1,a2.2,a3.1⟩ | exact z.2 ⟨a3.2,a2.1,a2.2,a3.1⟩))
   | (have z:=N (a:=0) (b:=i) (d:=i+1) (e:=k) (by rcases Nat.eq_zero_or_pos i with r | r;(subst r;omega);exact r) (by omega) (by omega) (by omega);(first | exact z.1 ⟨a3.2,a1.1,a1.2,a3.1⟩ | exact z.2 ⟨a3.2,a1.1,a1.2,a3.1⟩))
theorem jeB (P:Nat->Bool):∀m,((List.range (2*m)).filter P).length=((List.range m).filter fun i=>P (2*i)).length+((List.range m).filter fun i=>P (2*i+1)).length
  | 0=>rfl
  | m + 1 => by
    have ih:=jeB P m;rw[show 2*(m+1)=2*m+1+1 by omega,xaK,xaK,xaK (n:=m),xap,xap,xap,xap,xad,xad,xad,xad,ih];have s:∀(Q:Nat->Bool) (x:Nat),([x].filter Q).length=if Q x=true then 1 else 0:=fun Q x=>by
      cases h:Q x with
      | true=>rw[xaL h,if_pos rfl];rfl
      | false=>rw[xaW (by rw[h];decide),if_neg (by decide)];rfl
    rw[s,s,s (fun i=>P (2*i)),s (fun i=>P (2*i+1))];omega
theorem jj5 {l:List Nat} (hs:l.Pairwise (· < ·)) (h:∀a b c,a∈l->b∈l->c∈l->a<b->b<c->False):l.length<=2:=by
  match l,hs,h with
  | [],_,_=>exact xaQ _
  | [_],_,_=>show 1<=2;decide
  | [_,_],_,_=>show 2<=2;decide
  | x :: y :: z :: l, hs, h =>
    have q1:=List.pairwise_cons.mp hs;have q2:=List.pairwise_cons.mp q1.2;exact (h x y z (by simp) (by simp) (by simp) (q1.1 y (by simp)) (q2.1 z (by simp))).elim
theorem jiJ {P:Nat->Bool} (hi:i<n) (h:P i=false):((List.range n).filter P).length<n:=by
 have z:((List.range n).filter P).length<(List.range n).length:=by
  refine List.length_filter_lt_length_iff_exists.mpr ⟨i,xaU.mpr hi,?_⟩;rw[h];decide
 rw[xbj] at z;exact z
theorem jiK {c:Nat->Tri} {C:Int} (h:Tp c n):(clp (fun i=>jaD A B C (c i)) n).length<=n+1:=by
 unfold clp;rw[jeB];have ev:∀i,kp (fun i=>jaD A B C (c i)) n (2*i)=decide (0<=jaD A B C (c i)):=fun i=>by
  unfold kp;rw[if_pos (by omega),show 2*i / 2=i by omega]
 have od:∀i,kp (fun i=>jaD A B C (c i)) n (2*i+1)=decide (jaD A B C (c i)*jaD A B C (c ((i+1) % n))<0):=fun i=>by
  unfold kp;rw[if_neg (by omega),show (2*i+1) / 2=i by omega]
 have l1:((List.range n).filter fun i=>kp (fun i=>jaD A B C (c i)) n (2*i)).length<=n:=by
  have z:=xbp (fun i=>kp (fun i=>jaD A B C (c i)) n (2*i)) (List.range n);rw[xbj] at z;exact z
 have l2:((List.range n).filter fun i=>kp (fun i=>jaD A B C (c i)) n (2*i+1)).length<=2:=by
  refine jj5 (List.pairwise_lt_range.sublist List.filter_sublist) fun a b d ha hb hd ab bd=>?_;have ha:=xbl.mp ha;have hb:=xbl.mp hb;have hd:=xbl.mp hd;rw[od] at ha hb hd;exact jiI h ab bd (xaU.mp hd.1) (of_decide_eq_true ha.2) (of_decide_eq_true hb.2) (of_decide_eq_true hd.2)
 by_cases e:((List.range n).filter fun i=>kp (fun i=>jaD A B C (c i)) n (2*i+1))=[]
 ·rw[e];show _+0<=n+1;omega
 ·obtain⟨x,hx⟩:=List.exists_mem_of_ne_nil _ e;have hx:=xbl.mp hx;rw[od] at hx;have hn:=xaU.mp hx.1;have z:=opp_iff.mp (of_decide_eq_true hx.2);have l3:((List.range n).filter fun i=>kp (fun i=>jaD A B C (c i)) n (2*i)).length<n:=by
   rcases z with r | r
   ·exact jiJ (xaC (x+1) (by omega)) (by rw[ev];exact decide_eq_false (by omega))
   ·exact jiJ hn (by rw[ev];exact decide_eq_false (by omega))
  omega
def rs:List Rat->Rat
 | []=>0
 | x::l=>x+rs l
theorem jkR:∀l m:List Rat,rs (l++m)=rs l+rs m
  | [],m=>by show rs m=0+rs m;grind
  | x :: l, m => by
    show x+rs (l++m)=x+rs l+rs m;rw[jkR l m];grind
theorem jiL {α:Type} (a:α):∀l:List α,(nxt l a).length=l.length
  | []=>rfl
  | [_]=>rfl
  | x :: y :: r => by
    show (nxt (y::r) a).length+1=_;rw[jiL a (y::r)];rfl
theorem jiM {α:Type} (d a:α):∀(l:List α) (i:Nat),i<l.length->(nxt l a)[i]?=some (l.getD i d,if i+1<l.length then l.getD (i+1) d else a)
  | [],i,h=>by simp at h
  | [x], i, h => by
    have e:i=0:=by simpa using h
    subst e;rfl
  | x :: y :: r, 0, h => by
    show some (x,y)=_;rw[if_pos (by simp)];rfl
  | x :: y :: r, i + 1, h => by
    have h':i<(y::r).length:=by simpa using h
    show (nxt (y::r) a)[i]?=_;rw[jiM d a (y::r) i h'];have e:((i+1+1<(x::y::r).length)↔(i+1<(y::r).length)):=by simp
    simp only[e];rfl
theorem jdr {α:Type} (l:List α):(prs l).length=l.length:=by
 cases l with
 | nil=>rfl
 | cons x r=>exact jiL x (x::r)
theorem jcB {α:Type} (d:α) {l:List α} (h:i<l.length):(prs l)[i]?=some (l.getD i d,l.getD ((i+1) % l.length) d):=by
  cases l with
  | nil=>simp at h
  | cons x r =>
    show (nxt (x::r) x)[i]?=_;rw[jiM d x (x::r) i h];by_cases c:i+1<(x::r).length
    . rw[if_pos c,xae c]
    . rw[if_neg c,show i+1=(x::r).length by omega,xa7]
      rfl
theorem jkS {α:Type} (d:α) (l:List α):prs l=(List.range l.length).map fun i=>(l.getD i d,l.getD ((i+1) % l.length) d):=by
 refine xbW fun i=>?_;by_cases c:i<l.length
 ·rw[jcB d c,xal,List.getElem?_range c];rfl
 ·rw[xaT (by rw[jdr];omega),xaT (by rw[xaa,xbj];omega)]
theorem jnF {α:Type} (d:α) (l:List α):((List.range l.length).map fun i=>(l.getD ((i+(l.length-1)) % l.length) d,l.getD i d))=(prs l).drop (l.length-1)++(prs l).take (l.length-1):=by
  rw[<- jdq,jkS d];have hl:(l.drop (l.length-1)++l.take (l.length-1)).length=l.length:=by
    rw[xad,xat,xay];omega
  rw[hl];refine xbO fun i hi=>?_;have hi:=xaU.mp hi;have G:∀j,j<l.length->(l.drop (l.length-1)++l.take (l.length-1)).getD j d=l.getD ((j+(l.length-1)) % l.length) d:=fun j hj=>by
    rw[xab,xab]
    congr 1
    cases j with
    | zero =>
      rw[xaF (by rw[xat];omega),xcb,xbi,xae (by omega)];rfl
    | succ j =>
      rw[xau (by rw[xat];omega),xat,xcc,show j+1-(l.length-(l.length-1))=j by omega,if_pos (by omega),show j+1+(l.length-1)=j+l.length by omega,xaS,xae (by omega)]
  rw[G i hi,G _ (xaC _ (by omega))]
  congr 1
  by_cases c:i+1<l.length
  . rw[xae c,show i+1+(l.length-1)=i+l.length by omega,xaS,xae hi]
  . rw[show i+1=l.length by omega,xa7,xbi,xae (by omega),show i=l.length-1 by omega]
theorem jiN {α β:Type} (f:α->β) (a:α):∀l:List α,nxt (l.map f) (f a)=(nxt l a).map fun e=>(f e.1,f e.2)
  | []=>rfl
  | [_]=>rfl
  | x :: y :: r => by
    show (f x,f y)::nxt ((y::r).map f) (f a)=_;rw[jiN f a (y::r)];rfl
theorem jlW {α β:Type} (f:α->β) (l:List α):prs (l.map f)=(prs l).map fun e=>(f e.1,f e.2):=by
 cases l with
 | nil=>rfl
 | cons x r=>exact jiN f x (x::r)
theorem qnz {i:Int} (h:i≠0):(i:Rat)≠0:=fun e=>h (by exact_mod_cast e)
def t0:Tri:=⟨0,0,0⟩
def tr (vs:List Tri) (i:Nat):Tri:=vs.getD i t0
def TpL (vs:List Tri):Prop:=Tp (tr vs) vs.length
theorem jj6 {c d:Nat->Tri} (h:Tp c n) (e:∀i,i<n->d i=c i):Tp d n:=fun i j k ij jk kn=>by
 rw[e i (by omega),e j (by omega),e k kn];exact h i j k ij jk kn
def Prp (u v:Tri):Prop:=∃k m:Int,0<k/\0<m/\k*u.x=m*v.x/\k*u.y=m*v.y/\k*u.z=m*v.z
theorem Prp.refl (u:Tri):Prp u u:=⟨1,1,by decide,by decide,rfl,rfl,rfl⟩
theorem Prp.symm {u:Tri} (h:Prp u v):Prp v u:=by
 obtain⟨k,m,h1,h2,e1,e2,e3⟩:=h;exact⟨m,k,h2,h1,e1.symm,e2.symm,e3.symm⟩
theorem Prp.z {u:Tri} (h:Prp u v) (hu:1<=u.z):1<=v.z:=by
 obtain⟨k,m,h1,h2,e1,e2,e3⟩:=h;have:=xak h1 (show 0<u.z by omega);rw[e3] at this;have:=xbe this (by omega);omega
theorem jnG {a b c a' b' c':Tri} (ha:Prp a a') (hb:Prp b b') (hc:Prp c c') (h:0<dt a b c):0<dt a' b' c':=by
 obtain⟨k1,m1,p1,q1,x1,y1,z1⟩:=ha;obtain⟨k2,m2,p2,q2,x2,y2,z2⟩:=hb;obtain⟨k3,m3,p3,q3,x3,y3,z3⟩:=hc;have e:k1*k2*k3*dt a b c=m1*m2*m3*dt a' b' c':=by
  have s:∀(g1 g2 g3:Int) (u v w:Tri),g1*g2*g3*dt u v w=dt ⟨g1*u.x,g1*u.y,g1*u.z⟩ ⟨g2*v.x,g2*v.y,g2*v.z⟩ ⟨g3*w.x,g3*w.y,g3*w.z⟩:=fun g1 g2 g3 u v w=>by
   unfold dt jby;grind
  rw[s,s,x1,y1,z1,x2,y2,z2,x3,y3,z3]
 have h1:=xak (xak (xak p1 p2) p3) h;rw[e] at h1;exact xbe h1 (xak (xak q1 q2) q3)
inductive PL:List Tri->List Tri->Prop
 | nil:PL [] []
 | cons {u v:Tri} {us vs:List Tri} (h:Prp u v) (t:PL us vs):PL (u::us) (v::vs)
theorem PL.refl:∀l:List Tri,PL l l
 | []=>.nil
 | x::l=>.cons (Prp.refl x) (PL.refl l)
variable {us vs ws:List Tri}
theorem PL.len (h:PL us vs):us.length=vs.length:=by
 induction h with
 | nil=>rfl
 | cons _ _ ih=>rw[xaq,xaq,ih]
theorem PL.app {us' vs':List Tri} (h:PL us vs) (k:PL us' vs'):PL (us++us') (vs++vs'):=by
 induction h with
 | nil=>exact k
 | cons h _ ih=>exact .cons h ih
theorem PL.get (h:PL us vs):∀{i:Nat},i<us.length->Prp (tr us i) (tr vs i):=by
  induction h with
  | nil=>intro i hi;simp at hi
  | cons h _ ih =>
    intro i hi;cases i with
    | zero=>exact h
    | succ i=>exact ih (by simpa using hi)
theorem PL.tp (h:PL us vs) (t:TpL us):TpL vs:=fun i j k ij jk kn=>by
 have l:=h.len;exact jnG (h.get (by omega)) (h.get (by omega)) (h.get (by omega)) (t i j k ij jk (by omega))
theorem PL.fm {α:Type} {f g:α->List Tri}:∀{l:List α},(∀a∈l,PL (f a) (g a))->PL (l.flatMap f) (l.flatMap g)
  | [],_=>.nil
  | a :: l, h => by
    rw[xa8,xa8];exact (h a (by simp)).app (PL.fm fun b hb=>h b (xan _ hb))
def xp (h:Tri->Int) (a b:Tri):Tri:=je4 (ab (h b)) a (ab (h a)) b
def jf8 (v:Tri):Tri:=⟨v.x / gl [v.x,v.y,v.z],v.y / gl [v.x,v.y,v.z],v.z / gl [v.x,v.y,v.z]⟩
theorem jj7 (hz:1<=v.z):Prp v (jf8 v):=by
 have g0:0<gl [v.x,v.y,v.z]:=jdw (n:=v.z) (by simp) (by omega);have d:∀n∈[v.x,v.y,v.z],gl [v.x,v.y,v.z]*(n / gl [v.x,v.y,v.z])=n:=fun n hn=>xa5 (jaQ hn);refine⟨1,gl [v.x,v.y,v.z],by decide,g0,?_,?_,?_⟩
 ·rw[xbQ];exact (d v.x (by simp)).symm
 ·rw[xbQ];exact (d v.y (by simp)).symm
 ·rw[xbQ];exact (d v.z (by simp)).symm
variable {h:Tri->Int}
theorem xp_z {a b:Tri} (ha:1<=a.z) (hb:1<=b.z) (o:h a*h b<0):1<=(xp h a b).z:=by
 obtain⟨h1,h2,_,_⟩:=jcO o;have p1:=jbw h1;have p2:=jbw h2;have q1:=xak p2 (show 0<a.z by omega);have q2:=xak p1 (show 0<b.z by omega);show 1<=ab (h b)*a.z+ab (h a)*b.z;omega
def upE (h:Tri->Int) (X:Tri->Tri->Tri) (e:Tri × Tri):List Tri:=(if 0<=h e.1 then [e.1] else [])++(if h e.1*h e.2<0 then [X e.1 e.2] else [])
def upL (h:Tri->Int) (X:Tri->Tri->Tri) (vs:List Tri):List Tri:=(prs vs).flatMap (upE h X)
theorem jgQ {α:Type} (P:Nat->Bool) (g:Nat->α):∀m,((List.range (2*m)).filter P).map g=(List.range m).flatMap fun i=>(if P (2*i)=true then [g (2*i)] else [])++(if P (2*i+1)=true then [g (2*i+1)] else [])
  | 0=>rfl
  | m + 1 => by
    have ih:=jgQ P g m;have s:∀x:Nat,([x].filter P).map g=if P x=true then [g x] else []:=fun x=>by
      cases h:P x with
      | true=>rw[xaL h,if_pos rfl];rfl
      | false=>rw[xaW (by rw[h];decide),if_neg (by decide)];rfl
    rw[show 2*(m+1)=2*m+1+1 by omega,xaK,xaK,xaK (n:=m),xap,xap,xah,xah,ih,s,s,xbP,xbx];simp
theorem jgR (h:Tri->Int) (vs:List Tri):upL h (xp h) vs=(clp (fun i=>h (tr vs i)) vs.length).map (el (tr vs) (fun i=>h (tr vs i)) vs.length):=by
 unfold upL clp;rw[jgQ,jkS t0,List.flatMap_map]
 congr 1
 funext i
 have k0:kp (fun i=>h (tr vs i)) vs.length (2*i)=decide (0<=h (tr vs i)):=by
  unfold kp;rw[if_pos (by omega),show 2*i / 2=i by omega]
 have k1:kp (fun i=>h (tr vs i)) vs.length (2*i+1)=decide (h (tr vs i)*h (tr vs ((i+1) % vs.length))<0):=by
  unfold kp;rw[if_neg (by omega),show (2*i+1) / 2=i by omega]
 have e0:el (tr vs) (fun i=>h (tr vs i)) vs.length (2*i)=tr vs i:=by
  unfold el;rw[if_pos (by omega),show 2*i / 2=i by omega]
 have e1:el (tr vs) (fun i=>h (tr vs i)) vs.length (2*i+1)=xp h (tr vs i) (tr vs ((i+1) % vs.length)):=by
  unfold el;rw[if_neg (by omega),show (2*i+1) / 2=i by omega];rfl
 rw[k0,k1,e0,e1];simp only[decide_eq_true_eq];rfl
variable {X:Tri->Tri->Tri}
theorem jlX (hX:∀a b,a∈vs->b∈vs->h a*h b<0->Prp (xp h a b) (X a b)):PL (upL h (xp h) vs) (upL h X vs):=by
 refine PL.fm fun e he=>?_;obtain⟨i,hi⟩:=xbr.mp he;have il:i<vs.length:=by have:=(xaf.mp hi).1;rw[jdr] at this;exact this
 rw[jcB t0 il] at hi;have hm:∀j,j<vs.length->vs.getD j t0∈vs:=fun j hj=>by
  rw[xab,xac hj];exact xbn hj
 have ee:=Option.some.inj hi;subst ee;refine PL.app (PL.refl _) ?_;by_cases o:h (vs.getD i t0)*h (vs.getD ((i+1) % vs.length) t0)<0
 ·simp only[if_pos o];exact .cons (hX _ _ (hm i il) (hm _ (xaC _ (by omega))) o) .nil
 ·simp only[if_neg o];exact .nil
theorem jnH (n3:3<=vs.length) (t:TpL vs):TpL (upL h (xp h) vs):=by
 have z:=jlU (c:=tr vs) (H:=fun i=>h (tr vs i)) n3 t;have l:(upL h (xp h) vs).length=(clp (fun i=>h (tr vs i)) vs.length).length:=by rw[jgR,xaa]
 unfold TpL;rw[l];refine jj6 z fun i hi=>?_;rw[jgR];show ((clp (fun i=>h (tr vs i)) vs.length).map (el (tr vs) (fun i=>h (tr vs i)) vs.length)).getD i t0=el (tr vs) (fun i=>h (tr vs i)) vs.length ((clp (fun i=>h (tr vs i)) vs.length).getD i 0);rw[xab,xal,xac hi,xab,xac hi];rfl
theorem up_tp (hX:∀a b,a∈vs->b∈vs->h a*h b<0->Prp (xp h a b) (X a b)) (n3:3<=vs.length) (t:TpL vs):TpL (upL h X vs):=(jlX hX).tp (jnH n3 t)
theorem jlY (hX:∀a b,a∈vs->b∈vs->h a*h b<0->Prp (xp h a b) (X a b)) (n3:3<=vs.length) (hi:i<vs.length) (hp:0<h (tr vs i)):3<=(upL h X vs).length:=by
 rw[<- (jlX hX).len,jgR,xaa];exact jj4 (H:=fun i=>h (tr vs i)) n3 hi hp
theorem jlZ {C:Int} (hX:∀a b,a∈vs->b∈vs->jaD A B C a*jaD A B C b<0->Prp (xp (jaD A B C) a b) (X a b)) (t:TpL vs):(upL (jaD A B C) X vs).length<=vs.length+1:=by
 rw[<- (jlX hX).len,jgR,xaa];exact jiK t
theorem jkT (hv:v∈upL h X vs):(v∈vs/\0<=h v)\/∃a b,a∈vs/\b∈vs/\h a*h b<0/\v=X a b:=by
 obtain⟨e,he,hv⟩:=xbz.mp hv;obtain⟨i,hi⟩:=xbr.mp he;have il:i<vs.length:=by have:=(xaf.mp hi).1;rw[jdr] at this;exact this
 rw[jcB t0 il] at hi;have hm:∀j,j<vs.length->vs.getD j t0∈vs:=fun j hj=>by
  rw[xab,xac hj];exact xbn hj
 have ee:=Option.some.inj hi;subst ee;rcases xaO.mp hv with h1 | h1
 ·by_cases c:0<=h (vs.getD i t0)
  ·simp only[if_pos c,xas] at h1;subst h1;exact .inl ⟨hm i il,c⟩
  ·simp only[if_neg c] at h1;cases h1
 ·by_cases c:h (vs.getD i t0)*h (vs.getD ((i+1) % vs.length) t0)<0
  ·simp only[if_pos c,xas] at h1;exact .inr ⟨_,_,hm i il,hm _ (xaC _ (by omega)),c,h1⟩
  ·simp only[if_neg c] at h1;cases h1
def Adj {α:Type} (R:α->α->Prop):List α->Prop
 | []=>True
 | [_]=>True
 | a::b::l=>R a b/\Adj R (b::l)
theorem Adj.glue {α:Type} {R:α->α->Prop} {x:α}:∀{l m:List α},Adj R (l++[x])->Adj R (x::m)->Adj R (l++x::m)
 | [],_,_,k=>k
 | [a],_,h,k=>⟨h.1,k⟩
 | a::b::l,m,h,k=>⟨h.1,Adj.glue (l:=b::l) h.2 k⟩
theorem Adj.left {α:Type} {R:α->α->Prop} {x:α}:∀{l m:List α},Adj R (l++x::m)->Adj R (l++[x])
 | [],_,_=>trivial
 | [a],_,h=>⟨h.1,trivial⟩
 | a::b::l,m,h=>⟨h.1,Adj.left (l:=b::l) h.2⟩
theorem Adj.right {α:Type} {R:α->α->Prop} {x:α}:∀{l m:List α},Adj R (l++x::m)->Adj R (x::m)
 | [],_,h=>h
 | [a],_,h=>h.2
 | a::b::l,m,h=>Adj.right (l:=b::l) h.2
theorem Adj.get {α:Type} {R:α->α->Prop}:∀{l:List α},Adj R l->∀(i:Nat) (x y:α),l[i]?=some x->l[i+1]?=some y->R x y
  | [],_,i,x,y,h,_=>by simp at h
  | [a],_,i,x,y,_,h=>by simp at h
  | a :: b :: l, h, 0, x, y, h1, h2 => by
    cases h1;cases h2;exact h.1
  | a::b::l,h,i+1,x,y,h1,h2=>Adj.get (l:=b::l) h.2 i x y h1 h2
def ax (v:Tri):Rat:=(v.x:Rat) / (v.z:Rat)
def ay (v:Tri):Rat:=(v.y:Rat) / (v.z:Rat)
def c2q (a b:Tri):Rat:=ax a*ay b-ay a*ax b
theorem jnI {a b:Tri} (h:Prp a b) (hz:1<=a.z):ax a=ax b/\ay a=ay b:=by
 have hz':=h.z hz;obtain⟨k,m,h1,h2,e1,e2,e3⟩:=h;have z1:=qnz (show a.z≠0 by omega);have z2:=qnz (show b.z≠0 by omega);have z3:=qnz (show k≠0 by omega);have z4:=qnz (show m≠0 by omega);have f1:(k:Rat)*(a.x:Rat)=(m:Rat)*(b.x:Rat):=by exact_mod_cast e1
 have f2:(k:Rat)*(a.y:Rat)=(m:Rat)*(b.y:Rat):=by exact_mod_cast e2
 have f3:(k:Rat)*(a.z:Rat)=(m:Rat)*(b.z:Rat):=by exact_mod_cast e3
 unfold ax ay;have cancel:∀x y:Rat,(k:Rat)*x=(m:Rat)*y->x / (a.z:Rat)=y / (b.z:Rat):=fun x y e=>by
  have e4:x=((m:Rat)*y) / (k:Rat):=by grind
  have e5:(a.z:Rat)=((m:Rat)*(b.z:Rat)) / (k:Rat):=by grind
  rw[e4,e5];grind
 exact⟨cancel _ _ f1,cancel _ _ f2⟩
theorem jea {l:List Tri} (h:i<l.length):tr l i∈l:=by
 unfold tr;rw[xab,xac h];exact xbn h
theorem jgS {l:List Tri} (h:v∈l):∃i,i<l.length/\tr l i=v:=by
 obtain⟨i,hi,rfl⟩:=xbG.mp h;refine⟨i,hi,?_⟩;unfold tr;rw[xab,xac hi];rfl
theorem jl0 {a b:Tri} (ha:1<=a.z) (hb:1<=b.z) (o:h a*h b<0) (hv:Prp (xp h a b) v):c2q a v+c2q v b=c2q a b:=by
 obtain⟨e1,e2⟩:=jnI hv (xp_z ha hb o);obtain⟨h1,h2,_,_⟩:=jcO o;have p1:=jbw h1;have p2:=jbw h2;unfold c2q;rw[<- e1,<- e2];have q1:=xak p2 (show 0<a.z by omega);have q2:=xak p1 (show 0<b.z by omega);have z0:=qnz (show ab (h b)*a.z+ab (h a)*b.z≠0 by omega);have z1:=qnz (show a.z≠0 by omega);have z2:=qnz (show b.z≠0 by omega);have u:ax (xp h a b)*((ab (h b):Rat)*(a.z:Rat)+(ab (h a):Rat)*(b.z:Rat))=(ab (h b):Rat)*(a.z:Rat)*ax a+(ab (h a):Rat)*(b.z:Rat)*ax b:=by
  unfold ax xp je4
  push_cast at z0 |-
  grind
 have w:ay (xp h a b)*((ab (h b):Rat)*(a.z:Rat)+(ab (h a):Rat)*(b.z:Rat))=(ab (h b):Rat)*(a.z:Rat)*ay a+(ab (h a):Rat)*(b.z:Rat)*ay b:=by
  unfold ay xp je4
  push_cast at z0 |-
  grind
 push_cast at z0
 generalize ax (xp h a b)=X at *
 generalize ay (xp h a b)=Y at *
 generalize ax a=xa at *
 generalize ay a=ya at *
 generalize ax b=xb at *
 generalize ay b=yb at *
 generalize (ab (h b):Rat)*(a.z:Rat)=p at *
 generalize (ab (h a):Rat)*(b.z:Rat)=q at *
 have f:(xa*Y-ya*X+(X*yb-Y*xb))*(p+q)=(xa*yb-ya*xb)*(p+q):=by grind
 grind
def agE (h:Tri->Int) (X:Tri->Tri->Tri) (e:Tri × Tri):List Tri:=e.1::(if h e.1*h e.2<0 then [X e.1 e.2] else [])
def agL (h:Tri->Int) (X:Tri->Tri->Tri) (vs:List Tri):List Tri:=(prs vs).flatMap (agE h X)
theorem jiO {h:Tri->Int} {X:Tri->Tri->Tri} (k:Tri->Bool) (g:Tri × Tri->List Tri):∀{l:List (Tri × Tri)},(∀e∈l,(agE h X e).filter k=g e)->(l.flatMap (agE h X)).filter k=l.flatMap g
  | [],_=>rfl
  | e :: l, H => by
    rw[xa8,xa8,xap,H e (by simp),jiO k g fun a ha=>H a (xan _ ha)]
theorem jds {e:Tri × Tri} (he:e∈prs vs):e.1∈vs/\e.2∈vs:=by
 obtain⟨i,hi⟩:=xbr.mp he;have il:i<vs.length:=by have:=(xaf.mp hi).1;rw[jdr] at this;exact this
 rw[jcB t0 il] at hi;have ee:=Option.some.inj hi;subst ee;exact⟨jea il,jea (xaC _ (by omega))⟩
theorem ag_up (hX:∀a b,a∈vs->b∈vs->h a*h b<0->h (X a b)=0):(agL h X vs).filter (fun p=>decide (0<=h p))=upL h X vs:=by
 refine jiO _ _ fun e he=>?_;obtain⟨m1,m2⟩:=jds he;unfold agE upE;have x0:=hX _ _ m1 m2;by_cases o:h e.1*h e.2<0
 ·have x1:=x0 o;by_cases c:0<=h e.1<;>simp [o,c,x1]
 ·by_cases c:0<=h e.1<;>simp [o,c]
theorem jnJ {S:Tri->Prop} (hz:∀v,S v->1<=v.z) (hX:∀a b,S a->S b->h a*h b<0->Prp (xp h a b) (X a b)/\h (X a b)=0) {a:Tri} (sa:S a):∀(r:List Tri) (x:Tri),S x->(∀v∈r,S v) ->
    ∃w,(nxt (x::r) a).flatMap (agE h X)=x::w/\Adj (fun x y=>¬(h x<0/\0<h y)/\¬(0<h x/\h y<0)) (x::w++[a])/\rs ((nxt (x::w) a).map fun e=>c2q e.1 e.2)=rs ((nxt (x::r) a).map fun e=>c2q e.1 e.2):=by
  have one:∀x y,S x->S y->Adj (fun x y=>¬(h x<0/\0<h y)/\¬(0<h x/\h y<0)) (agE h X (x,y)++[y])/\rs ((nxt (agE h X (x,y)) y).map fun e=>c2q e.1 e.2)=c2q x y:=fun x y sx sy=>by
    unfold agE;by_cases o:h x*h y<0
    . obtain⟨k1,k2⟩:=hX x y sx sy o
      simp only[if_pos o];refine⟨⟨⟨by omega,by omega⟩,⟨by omega,by omega⟩,trivial⟩,?_⟩;show c2q x (X x y)+(c2q (X x y) y+0)=_;have:=jl0 (hz x sx) (hz y sy) o k1;grind
    . simp only[if_neg o]
      refine⟨⟨⟨fun z=>o (opp_iff.mpr (.inr z)),fun z=>o (opp_iff.mpr (.inl z))⟩,trivial⟩,?_⟩;show c2q x y+0=_;grind
  intro r;induction r with
  | nil =>
    intro x sx _;obtain⟨o1,o2⟩:=one x a sx sa;refine⟨if h x*h a<0 then [X x a] else [],?_,o1,?_⟩
    . show agE h X (x,a)++[]=_
      rw[xbv];rfl
    . show _=c2q x a+0
      exact o2.trans (by grind)
  | cons y r ih =>
    intro x sx sr;obtain⟨w,e1,e2,e3⟩:=ih y (sr y (by simp)) fun v hv=>sr v (xan _ hv);obtain⟨o1,o2⟩:=one x y sx (sr y (by simp));refine⟨(if h x*h y<0 then [X x y] else [])++y::w,?_,?_,?_⟩
    . show agE h X (x,y)++(nxt (y::r) a).flatMap (agE h X)=_
      rw[e1];rfl
    . have g:=Adj.glue (l:=agE h X (x,y)) (x:=y) (m:=w++[a]) o1 e2
      have e:x::((if h x*h y<0 then [X x y] else [])++y::w)++[a]=agE h X (x,y)++y::(w++[a]):=by
        unfold agE;simp
      rw[e];exact g
    . have e:x::((if h x*h y < 0 then [X x y] else [])++y::w)=agE h X (x,y)++y::w:=rfl
      rw[e,je3,xah,jkR,o2,e3];rfl
theorem jiP {C k m:Int} {u:Tri} (e1:k*u.x=m*v.x) (e2:k*u.y=m*v.y) (e3:k*u.z=m*v.z):k*jaD A B C u=m*jaD A B C v:=by
 unfold jaD;grind
theorem je6 {C:Int} {u:Tri} (h:Prp u v) (z:jaD A B C u=0):jaD A B C v=0:=by
 obtain⟨k,m,k0,m0,e1,e2,e3⟩:=h;have e:=jiP (A:=A) (B:=B) (C:=C) e1 e2 e3;rw[z,xa6] at e;rcases xaE.mp e.symm with r | r
 ·omega
 ·exact r
theorem jdK {α β:Type} {f g:α->List β}:∀{l:List α},(∀a∈l,f a=g a)->l.flatMap f=l.flatMap g
 | [],_=>rfl
 | a::l,h=>by rw[xa8,xa8,h a (by simp),jdK fun b hb=>h b (xan _ hb)]
theorem jdt {α β:Type} {f g:α->Option β}:∀{l:List α},(∀a∈l,f a=g a)->l.filterMap f=l.filterMap g
 | [],_=>rfl
 | a::l,h=>by rw[xby,xby,h a (by simp),jdt fun b hb=>h b (xan _ hb)]
theorem je7 (h:pl4 p=pl4 q):p=q:=by
 unfold pl4 at h;injection h with h1 h
 injection h with h2 h
 injection h with h3 h
 injection h with h4 _
 cases p;cases q
 simp_all
def jj8 (Z:Sht) (v:Tri):List Int:=[rX Z v,rY Z v,rZ Z v,rW Z v]
theorem jf9 (Z:Sht) (v:Tri):pl4 (spt Z v)=low (jj8 Z v):=rfl
theorem jl1 {u:Tri} {k m:Int} (e1:k*u.x=m*v.x) (e2:k*u.y=m*v.y) (e3:k*u.z=m*v.z):(jj8 Z u).map (k*·)=(jj8 Z v).map (m*·):=by
 unfold jj8 rX rY rZ rW;simp only[xaw,xb9]
 congr 1
 ·grind
 ·congr 1
  ·grind
  ·congr 1
   ·grind
   ·congr 1
    grind
theorem jl2 {u:Tri} (h:Prp u v):spt Z u=spt Z v:=by
 obtain⟨k,m,k0,m0,e1,e2,e3⟩:=h;refine je7 ?_;rw[jf9,jf9,<- jeZ k0 (jj8 Z u),<- jeZ m0 (jj8 Z v),jl1 e1 e2 e3]
def lnA (Z:Sht) (x y z:Int):Int:=Z.w*(x*Z.c.x+y*Z.c.y+z*Z.c.z)
def lnB (Z:Sht) (x y z:Int):Int:=Z.w*(x*Z.d.x+y*Z.d.y+z*Z.d.z)
def lnC (Z:Sht) (x y z v:Int):Int:=x*Z.s.x+y*Z.s.y+z*Z.s.z-v*Z.w
def hL (Z:Sht) (x y z v:Int):Tri->Int:=jaD (lnA Z x y z) (lnB Z x y z) (lnC Z x y z v)
theorem je8 (Z:Sht) (x y z v:Int) (a:Tri):rG Z a*hgt x y z v (spt Z a)=hL Z x y z v a:=by
 obtain⟨e1,e2,e3,e4⟩:=ja3 Z a;have e:rG Z a*hgt x y z v (spt Z a)=x*(rG Z a*(spt Z a).x)+y*(rG Z a*(spt Z a).y)+z*(rG Z a*(spt Z a).z)-v*(rG Z a*(spt Z a).w):=by
  unfold hgt;grind
 rw[e,e1,e2,e3,e4];unfold hL jaD lnA lnB lnC rX rY rZ rW;grind
theorem jcC {z v:Int} {a:Tri} (hw:1<=Z.w) (ha:1<=a.z):(0<hgt x y z v (spt Z a)↔0<hL Z x y z v a)/\(hgt x y z v (spt Z a)<0↔hL Z x y z v a<0):=by
 have g:=jcx (Z:=Z) (v:=a) hw ha;rw[<- je8];generalize hgt x y z v (spt Z a)=n;refine⟨⟨fun h=>xak g h,fun h=>xbe h g⟩,⟨fun h=>xar g h,fun h=>?_⟩⟩;rcases xcd n 0 with q | q
 ·exact q
 ·have:=xaG (xbE g) q;omega
theorem jiQ {z v:Int} {a b:Tri} (hw:1<=Z.w) (ha:1<=a.z) (hb:1<=b.z):hgt x y z v (spt Z a)*hgt x y z v (spt Z b)<0↔hL Z x y z v a*hL Z x y z v b<0:=by
 rw[opp_iff,opp_iff,(jcC hw ha).1,(jcC hw ha).2,(jcC hw hb).1,(jcC hw hb).2]
theorem sgn_opp {b:Int}:sgn a*sgn b<0↔a*b<0:=by
 rw[opp_iff,opp_iff];unfold sgn;rcases xbX a 0 with h | h | h<;>rcases xbX b 0 with k | k | k
 all_goals (simp only[gt_iff_lt];(repeat' split)<;>omega)
theorem jga {r:Pt} (hq:0<q.w) (h:pl4 r=(pl4 q).map (-1*·)):jde r=jde q:=by
 have e:r=⟨-q.x,-q.y,-q.z,-q.w⟩:=je7 (h.trans (by unfold pl4;simp));subst e;unfold jde;rw[if_pos (show -q.w<0 by omega),if_neg (show ¬q.w<0 by omega)];simp only[xb8]
theorem jl3 (hq:0<q.w):pl4 (jde q)=low (pl4 q):=by
 unfold jde;rw[if_neg (show ¬q.w<0 by omega)];rfl
theorem jl4 {z v:Int} {a b:Tri} (hw:1<=Z.w) (ha:1<=a.z) (hb:1<=b.z) (o:hL Z x y z v a*hL Z x y z v b<0):jde (jcH x y z v (spt Z a) (spt Z b))=spt Z (xp (hL Z x y z v) a b):=by
 have o':=(jiQ hw ha hb).mpr o;have ga:=jcx (Z:=Z) (v:=a) hw ha;have gb:=jcx (Z:=Z) (v:=b) hw hb;have wa:=jfI (Z:=Z) hw ha;have wb:=jfI (Z:=Z) hw hb;have la:=je8 Z x y z v a;have lb:=je8 Z x y z v b;obtain⟨a1,a2,a3,a4⟩:=ja3 Z a;obtain⟨b1,b2,b3,b4⟩:=ja3 Z b;obtain⟨n1,n2,_,_⟩:=jcO o';have q1:=jbw n1;have q2:=jbw n2;have abm:∀{g n:Int},0<g->ab (g*n)=g*ab n:=fun {g n} hg=>by
  unfold ab;by_cases c:n<0
  ·rw[if_pos c,if_pos (xar hg c)];grind
  ·rw[if_neg c,if_neg (by have:=xaG (xbE hg) (show 0<=n by omega);omega)]
 have ea:ab (hL Z x y z v a)=rG Z a*ab (hgt x y z v (spt Z a)):=by rw[<- la,abm ga]
 have eb:ab (hL Z x y z v b)=rG Z b*ab (hgt x y z v (spt Z b)):=by rw[<- lb,abm gb]
 let q:Pt:=⟨ab (hgt x y z v (spt Z b))*(spt Z a).x+ab (hgt x y z v (spt Z a))*(spt Z b).x,ab (hgt x y z v (spt Z b))*(spt Z a).y+ab (hgt x y z v (spt Z a))*(spt Z b).y,ab (hgt x y z v (spt Z b))*(spt Z a).z+ab (hgt x y z v (spt Z a))*(spt Z b).z,ab (hgt x y z v (spt Z b))*(spt Z a).w+ab (hgt x y z v (spt Z a))*(spt Z b).w⟩
 have qw:0<q.w:=by
  have h1:=xak q2 (show 0<(spt Z a).w by omega);have h2:=xak q1 (show 0<(spt Z b).w by omega);show 0<ab (hgt x y z v (spt Z b))*(spt Z a).w+ab (hgt x y z v (spt Z a))*(spt Z b).w;omega
 have raw:jj8 Z (xp (hL Z x y z v) a b)=(pl4 q).map (rG Z a*rG Z b*·):=by
  have lin:jj8 Z (xp (hL Z x y z v) a b)=[ab (hL Z x y z v b)*rX Z a+ab (hL Z x y z v a)*rX Z b,ab (hL Z x y z v b)*rY Z a+ab (hL Z x y z v a)*rY Z b,ab (hL Z x y z v b)*rZ Z a+ab (hL Z x y z v a)*rZ Z b,ab (hL Z x y z v b)*rW Z a+ab (hL Z x y z v a)*rW Z b]:=by
   unfold xp;generalize ab (hL Z x y z v b)=p;generalize ab (hL Z x y z v a)=r;unfold jj8 rX rY rZ rW je4;simp only[List.cons.injEq,and_true];refine⟨?_,?_,?_,?_⟩<;>grind
  rw[lin,ea,eb,<- a1,<- a2,<- a3,<- a4,<- b1,<- b2,<- b3,<- b4];show _=[rG Z a*rG Z b*q.x,rG Z a*rG Z b*q.y,rG Z a*rG Z b*q.z,rG Z a*rG Z b*q.w];simp only[q,List.cons.injEq,and_true];refine⟨?_,?_,?_,?_⟩<;>grind
 have fin:jde (jcH x y z v (spt Z a) (spt Z b))=jde q:=by
  rcases opp_iff.mp o' with ⟨p1,p2⟩ | ⟨p1,p2⟩
  ·refine jga qw ?_;have e1:ab (hgt x y z v (spt Z a))=hgt x y z v (spt Z a):=if_neg (by omega);have e2:ab (hgt x y z v (spt Z b))=-hgt x y z v (spt Z b):=if_pos p2;show _=[-1*q.x,-1*q.y,-1*q.z,-1*q.w];simp only[q];rw[e1,e2];unfold pl4 jcH;simp only[List.cons.injEq,and_true];refine⟨?_,?_,?_,?_⟩<;>grind
  ·congr 1
   have e1:ab (hgt x y z v (spt Z a))=-hgt x y z v (spt Z a):=if_pos p1;have e2:ab (hgt x y z v (spt Z b))=hgt x y z v (spt Z b):=if_neg (by omega);refine je7 ?_;show _=[q.x,q.y,q.z,q.w];simp only[q];rw[e1,e2];unfold pl4 jcH;simp only[List.cons.injEq,and_true];refine⟨?_,?_,?_,?_⟩<;>grind
 rw[fin];refine je7 ?_;rw[jl3 qw,jf9,raw,jeZ (xak ga gb)]
def fK (x y z v:Int):Pt ⊕ Pt × Pt->Option Pt
 | .inl p=>if 0<=hgt x y z v p then some p else none
 | .inr e=>if hgt x y z v e.1*hgt x y z v e.2<0 then some (jde (jcH x y z v e.1 e.2)) else none
theorem jnK {z v:Int} {o:Pt} (hp:1<=p.w) (ho:1<=o.w) (h:hgt x y z v p*hgt x y z v o<0):jde (jcH x y z v o p)=jde (jcH x y z v p o):=by
 have m:∀{p o:Pt},pl4 (jcH x y z v o p)=(pl4 (jcH x y z v p o)).map (-1*·):=fun {p o}=>by
  unfold pl4 jcH;simp only[xaw,xb9,List.cons.injEq,and_true];refine⟨?_,?_,?_,?_⟩<;>grind
 rcases opp_iff.mp h with ⟨p1,p2⟩ | ⟨p1,p2⟩
 ·have h1:=xaN p2 (show 0<p.w by omega);have h2:=xak p1 (show 0<o.w by omega);exact (jga (show 0<hgt x y z v p*o.w-hgt x y z v o*p.w by omega) m).symm
 ·have h1:=xak p2 (show 0<p.w by omega);have h2:=xaN p1 (show 0<o.w by omega);exact jga (show 0<hgt x y z v o*p.w-hgt x y z v p*o.w by omega) m
theorem jiR (d e:List (Pt × Int)):kHi (d++e)=kHi d++kHi e:=by
 unfold kHi;rw[xap,xah]
theorem jkU {α:Type} (g:α->List (Pt × Int)):∀l:List α,kHi (l.flatMap g)=l.flatMap fun a=>kHi (g a)
 | []=>rfl
 | a::l=>by rw[xa8,xa8,jiR,jkU g l]
theorem sgn_nn_iff {n:Int}:0<=sgn n↔0<=n:=by
 unfold sgn
 (repeat' split)<;>omega
theorem jnL (x y z v:Int) (p o:Pt):kHi (jht x y z v p o)=[Sum.inr (p,o),Sum.inl o].filterMap (fK x y z v):=by
 unfold jht;rw[jiR];have e1:kHi (if sgn (hgt x y z v p)*sgn (hgt x y z v o)<0 then [(jde (jcH x y z v p o),0)] else [])=if hgt x y z v p*hgt x y z v o<0 then [jde (jcH x y z v p o)] else []:=by
  by_cases c:hgt x y z v p*hgt x y z v o<0
  ·rw[if_pos (sgn_opp.mpr c),if_pos c];rfl
  ·rw[if_neg (fun h=>c (sgn_opp.mp h)),if_neg c];rfl
 have e2:kHi [(o,sgn (hgt x y z v o))]=if 0<=hgt x y z v o then [o] else []:=by
  unfold kHi;by_cases c:0<=hgt x y z v o
  ·rw[if_pos c,xaL (by exact decide_eq_true (sgn_nn_iff.mpr c))];rfl
  ·rw[if_neg c,xaW (by simp only[decide_eq_true_eq];exact fun h=>c (sgn_nn_iff.mp h))];rfl
 rw[e1,e2];by_cases c:hgt x y z v p*hgt x y z v o<0<;>by_cases d:0<=hgt x y z v o<;>simp [fK,c,d]
theorem jnM (x y z v:Int) (ps:List Pt):kHi (sdd x y z v ps ps.length)=(TB (prs (ps.drop (ps.length-1)++ps.take (ps.length-1)))).filterMap (fK x y z v):=by
 unfold sdd;rw[jkU,jdq,<- jnF p0];unfold TB;rw[List.filterMap_flatMap,List.flatMap_map]
 congr 1
 funext i
 exact jnL ..
theorem tt_up {z v:Int} (hw:1<=Z.w) (hz:∀u∈vs,1<=u.z) (hX:∀a b,a∈vs->b∈vs->hL Z x y z v a*hL Z x y z v b<0->Prp (xp (hL Z x y z v) a b) (X a b)) :
  (TT (prs (vs.map (spt Z)))).filterMap (fK x y z v)=(upL (hL Z x y z v) X vs).map (spt Z):=by
 unfold TT upL;rw[jlW,List.filterMap_flatMap,List.flatMap_map,List.map_flatMap];refine jdK fun e he=>?_;obtain⟨m1,m2⟩:=jds he;have z1:=hz _ m1;have z2:=hz _ m2;have i1:(0<=hgt x y z v (spt Z e.1))↔0<=hL Z x y z v e.1:=by
  have:=(jcC (x:=x) (y:=y) (z:=z) (v:=v) hw z1).2;omega
 have i2:=jiQ (x:=x) (y:=y) (z:=z) (v:=v) hw z1 z2;have i3:hL Z x y z v e.1*hL Z x y z v e.2<0->jde (jcH x y z v (spt Z e.1) (spt Z e.2))=spt Z (X e.1 e.2):=fun o=>(jl4 hw z1 z2 o).trans (jl2 (hX _ _ m1 m2 o));unfold upE;by_cases c:0<=hL Z x y z v e.1<;>by_cases d:hL Z x y z v e.1*hL Z x y z v e.2<0
 ·have:=i3 d;simp [fK,i1,i2,c,d,this]
 ·simp [fK,i1,i2,c,d]
 ·have:=i3 d;simp [fK,i1,i2,c,d,this]
 ·simp [fK,i1,i2,c,d]
theorem jeb {z v:Int} (hw:1<=Z.w) (hz:∀u∈vs,1<=u.z) (hX:∀a b,a∈vs->b∈vs->hL Z x y z v a*hL Z x y z v b<0->Prp (xp (hL Z x y z v) a b) (X a b)) (r:RR (vs.map (spt Z)) ps) :
    RR ((upL (hL Z x y z v) X vs).map (spt Z)) (kHi (sdd x y z v ps ps.length)):=by
  have wp:∀p∈ps,1<=p.w:=fun p hp=>by
    obtain⟨u,hu,rfl⟩:=xaz.mp (r.mem.mp hp);exact jfI hw (hz u hu)
  let f':Pt ⊕ Pt × Pt->Option Pt:=fun s=>match s with
    | .inl p=>fK x y z v (.inl p)
    | .inr e=>if 1<=e.1.w/\1<=e.2.w then fK x y z v (.inr e) else none
  have sym:∀s,f' (swS s)=f' s:=fun s=>by
    cases s with
    | inl p=>rfl
    | inr e =>
      show (if 1<=e.2.w/\1<=e.1.w then fK x y z v (.inr (e.2,e.1)) else none)=if 1<=e.1.w/\1<=e.2.w then fK x y z v (.inr e) else none;by_cases c:1<=e.1.w/\1<=e.2.w
      . rw[if_pos c,if_pos ⟨c.2,c.1⟩]
        unfold fK;have cm:hgt x y z v e.2*hgt x y z v e.1=hgt x y z v e.1*hgt x y z v e.2:=xa3 _ _;by_cases o:hgt x y z v e.1*hgt x y z v e.2<0
        . simp only[cm,if_pos o]
          rw[jnK c.1 c.2 o]
        . simp only[cm,if_neg o]
      . rw[if_neg c,if_neg fun q=>c ⟨q.2,q.1⟩]
  have pm:∀{l:List Pt} {e:Pt × Pt},e∈prs l->e.1∈l/\e.2∈l:=fun {l e} he=>by
    obtain⟨i,hi⟩:=xbr.mp he;have il:i<l.length:=by have:=(xaf.mp hi).1;rw[jdr] at this;exact this
    rw[jcB p0 il] at hi;have ee:=Option.some.inj hi;subst ee;exact⟨ja4 il,ja4 (xaC _ (by omega))⟩
  have same:∀{l:List Pt},(∀p∈l,1<=p.w)->∀s:Pt ⊕ Pt × Pt,(s∈TT (prs l)\/s∈TB (prs l))->f' s=fK x y z v s:=fun {l} hl s hs=>by
    cases s with
    | inl p=>rfl
    | inr e =>
      have he:e∈prs l:=by
        rcases hs with h | h
        . obtain⟨e',he',h⟩:=xbz.mp h
          simp at h;rw[h];exact he'
        . obtain⟨e',he',h⟩:=xbz.mp h
          simp at h;rw[h];exact he'
      obtain⟨m1,m2⟩:=pm he;exact if_pos ⟨hl _ m1,hl _ m2⟩
  have w0:∀p∈vs.map (spt Z),1<=p.w:=fun p hp=>wp p (r.mem.mpr hp);have r2:RR (vs.map (spt Z)) (ps.drop (ps.length-1)++ps.take (ps.length-1)):=.rot _ r;have t1:=jlR f' sym r2;have t2:=(jkP (ps.drop (ps.length-1)++ps.take (ps.length-1))).fm f';have w2:∀p∈ps.drop (ps.length-1)++ps.take (ps.length-1),1<=p.w:=fun p hp=>wp p (by
    rcases xaO.mp hp with h | h
    . exact List.mem_of_mem_drop h
    . exact xbu h)
  have t3:=t1.trans t2;rw[jdt fun s hs=>same w0 s (.inl hs),jdt (g:=fK x y z v) (l:=TB _) fun s hs=>same w2 s (.inr hs)] at t3;rw[jnM,<- tt_up hw hz hX];exact t3
theorem RR.dih {m:List Pt} (h:RR l m) (n3:3<=l.length) (n9:l.length<=17):Dih l m:=by
  induction h with
  | refl=>exact Dih.refl n3
  | @rot m k h ih =>
    by_cases c:k<l.length
    . exact ih.rot n9 c
    . rw[je2 m (by have:=h.len; omega)]
      exact ih
  | rev _ ih=>exact ih.rev n9
theorem jeC (l:List Pt) (qs:List Pt):RR l (frm qs l):=by
  have t:∀(b:Bool) (m:List Pt),RR m (turn b m):=fun b m=>by
    unfold turn;by_cases c:b=true
    . rw[if_pos c]
      cases m with
      | nil=>exact .refl _
      | cons x r =>
        have z:=RR.rot (l:=x::r) r.reverse.length (.rev (.refl _));rw[xaH,xbI,xbJ] at z;exact z
    . rw[if_neg c]
      exact .refl _
  unfold frm;exact (RR.rot (fF qs) (.refl l)).trans (t _ _)
theorem jkV (hq:q.w≠0):jde ⟨-q.x,-q.y,-q.z,-q.w⟩=jde q:=by
 unfold jde;by_cases c:q.w<0
 ·rw[if_pos c,if_neg (show ¬-q.w<0 by omega)]
 ·rw[if_neg c,if_pos (show -q.w<0 by omega)];simp only[xb8]
theorem jiS (x y z v:Int) (p:Pt):hgt (-x) (-y) (-z) (-v) p=-hgt x y z v p:=by
 unfold hgt;grind
theorem jkW (n:Int):sgn (-n)=-sgn n:=by
 unfold sgn
 (repeat' split)<;>omega
theorem jnN {z v:Int} {o:Pt} (hp:1<=p.w) (ho:1<=o.w):jht (-x) (-y) (-z) (-v) p o=(jht x y z v p o).map fun d=>(d.1,-d.2):=by
 unfold jht;rw[jiS,jiS,jkW,jkW];have e:-sgn (hgt x y z v p)*-sgn (hgt x y z v o)=sgn (hgt x y z v p)*sgn (hgt x y z v o):=by grind
 rw[e];by_cases c:sgn (hgt x y z v p)*sgn (hgt x y z v o)<0
 ·have w:=jgN hp ho c;have e2:jcH (-x) (-y) (-z) (-v) p o=⟨-(jcH x y z v p o).x,-(jcH x y z v p o).y,-(jcH x y z v p o).z,-(jcH x y z v p o).w⟩:=by
   unfold jcH;simp only[jiS]
   congr 1<;>grind
  rw[if_pos c,if_pos c,e2,jkV w];rfl
 ·rw[if_neg c,if_neg c];rfl
theorem jnO (l:List (Pt × Int)):kLo l=kHi (l.map fun d=>(d.1,-d.2)):=by
  unfold kLo kHi;induction l with
  | nil=>rfl
  | cons d l ih =>
    rw[xaw];by_cases c:d.2<=0
    . rw[xaL (by exact decide_eq_true c),xaL (by simp only[decide_eq_true_eq];omega),xaw,xaw,ih]
    . rw[xaW (by simp only[decide_eq_true_eq];omega),xaW (by simp only[decide_eq_true_eq];omega),ih]
theorem jl5 {z v:Int} (hp:∀p∈ps,1<=p.w):kLo (sdd x y z v ps ps.length)=kHi (sdd (-x) (-y) (-z) (-v) ps ps.length):=by
 rw[jnO]
 congr 1
 unfold sdd;rw[List.map_flatMap];refine jdK fun i hi=>?_;have hi:=xaU.mp hi;exact (jnN (hp _ (ja4 (xaC _ (by omega)))) (hp _ (ja4 hi))).symm
theorem jkX (Z:Sht) (x y z v:Int) (a:Tri):hL Z (-x) (-y) (-z) (-v) a=-hL Z x y z v a:=by
 unfold hL jaD lnA lnB lnC;grind
theorem jl6 {c:Nat->Tri} (h:Tp c n) (hi:i<n) (hj:j<n) (hk:k<n) (ij:i≠j) (jk:j≠k) (ik:i≠k):dt (c i) (c j) (c k)≠0:=by
 have s1:∀a b d:Tri,dt a b d=-dt b a d:=fun a b d=>by unfold dt jby;grind
 have s2:∀a b d:Tri,dt a b d=-dt a d b:=fun a b d=>by unfold dt jby;grind
 have P:∀{i j k:Nat},i<n->j<n->k<n->i<j->j<k->0<dt (c i) (c j) (c k):=fun _ _ h3 h4 h5=>h _ _ _ h4 h5 h3;rcases xce ij with a | a<;>rcases xce jk with b | b<;>rcases xce ik with d | d
 ·have:=P hi hj hk a b;omega
 ·omega
 ·have:=P hi hk hj d b;have:=s2 (c i) (c j) (c k);omega
 ·have:=P hk hi hj d a;have e1:=s2 (c i) (c j) (c k);have e2:=s1 (c i) (c k) (c j);omega
 ·have:=P hj hi hk a d;have:=s1 (c i) (c j) (c k);omega
 ·have:=P hj hk hi b d;have e1:=s1 (c i) (c j) (c k);have e2:=s2 (c j) (c i) (c k);omega
 ·omega
 ·have:=P hk hj hi b a;have e1:=s1 (c i) (c j) (c k);have e2:=s2 (c j) (c i) (c k);have e3:=s1 (c j) (c k) (c i);omega
theorem jbf (h:i<us.length):pt (us.map (spt Z)) i=spt Z (tr us i):=by
 unfold pt tr;rw[xab,xal,xac h,xab,xac h];rfl
theorem jj9 (hw:1<=Z.w) (nz:Z.u.nz) (n3:3<=us.length) (t:TpL us) (hz:∀u∈us,1<=u.z):Tot (us.map (spt Z)):=by
 have ln:(us.map (spt Z)).length=us.length:=xaa _;have W:∀p,p∈us.map (spt Z)->1<=p.w:=fun p hp=>by
  obtain⟨u,hu,rfl⟩:=xaz.mp hp;exact jfI hw (hz u hu)
 refine⟨fun p q r hp hq hr h1 h2=>sf_tr (W p hp) (W q hq) (W r hr) h1 h2,fun i j hi hj ij=>?_⟩;rw[ln] at hi hj;obtain⟨k,hk,jk,ik⟩:=ja9 (i:=i) (j:=j) n3;have na:=jdd hw nz (jl6 t hi hj hk ij jk ik);rw[jbf hi,jbf hj];apply xai;intro n;rw[not_or,jiA,jiA] at n;refine na (jiB _ (jfI hw (hz _ (jea hj))) ?_ ?_ ?_)
 all_goals
  generalize (spt Z (tr us i)).x*(spt Z (tr us j)).w=a at *
  generalize (spt Z (tr us j)).x*(spt Z (tr us i)).w=a' at *
  generalize (spt Z (tr us i)).y*(spt Z (tr us j)).w=b at *
  generalize (spt Z (tr us j)).y*(spt Z (tr us i)).w=b' at *
  generalize (spt Z (tr us i)).z*(spt Z (tr us j)).w=c at *
  generalize (spt Z (tr us j)).z*(spt Z (tr us i)).w=c' at *
  omega
theorem jnP {m:List Pt} (T:Tot l) (n3:3<=l.length) (n9:l.length<=17) (h:RR l m):frm m m=frm l l:=jlN T n3 n9 (h.dih n3 n9)
def bt (h:Tri->Int) (a b:Tri):Tri:=jf8 (xp h a b)
theorem je9 {m:Nat} (h:v.bd n) (e:n<=m:=by decide):v.bd m:=⟨Bd.mono h.1 e,Bd.mono h.2.1 e,Bd.mono h.2.2 e⟩
open Classical in
noncomputable def UP (h:Tri->Int) (vs:List Tri):List Tri:=if ∃v∈vs,0<h v then upL h (bt h) vs else []
theorem jfM {a b:Tri} (ha:1<=a.z) (hb:1<=b.z) (o:h a*h b<0):Prp (xp h a b) (bt h a b):=jj7 (xp_z ha hb o)
theorem jgT (hh:∀v∈vs,0<=h v):upL h X vs=vs:=by
  unfold upL;have e:(prs vs).flatMap (upE h X)=(prs vs).flatMap fun e=>[e.1]:=jdK fun e he=>by
    obtain⟨m1,m2⟩:=jds he;unfold upE;rw[if_pos (hh _ m1),if_neg (by have:=xaG (hh _ m1) (hh _ m2);omega)];rfl
  rw[e];have g:∀(r:List Tri) (x a:Tri),(nxt (x::r) a).flatMap (fun e=>[e.1])=x::r:=fun r=>by
    induction r with
    | nil=>intro x a;rfl
    | cons y r ih =>
      intro x a;show x::(nxt (y::r) a).flatMap (fun e=>[e.1])=_;rw[ih]
  cases vs with
  | nil=>rfl
  | cons x r=>exact g r x x
theorem jbL (hp:∃v∈vs,0<h v):UP h vs=upL h (bt h) vs:=by
 unfold UP;exact if_pos hp
theorem jfN (hn:¬∃v∈vs,0<h v):UP h vs=[]:=by
 unfold UP;exact if_neg hn
theorem jgb {C:Int} {a b:Tri} (o:jaD A B C a*jaD A B C b<0):jaD A B C (xp (jaD A B C) a b)=0:=by
 have e:jaD A B C (xp (jaD A B C) a b)=ab (jaD A B C b)*jaD A B C a+ab (jaD A B C a)*jaD A B C b:=by
  unfold xp je4;generalize ab (jaD A B C b)=p;generalize ab (jaD A B C a)=q;unfold jaD;grind
 rw[e];unfold ab;rcases opp_iff.mp o with ⟨p1,p2⟩ | ⟨p1,p2⟩
 ·rw[if_pos p2,if_neg (by omega)];grind
 ·rw[if_neg (by omega),if_pos p1];grind
def InR (vs:List Tri) (p:Tri):Prop:=∀e∈prs vs,0<=dt e.1 e.2 p
structure Rng (vs:List Tri):Prop where
 n3:3<=vs.length
 tp:TpL vs
 hz:∀v∈vs,1<=v.z
theorem jiT {e:Tri × Tri} (he:e∈prs vs):∃i,i<vs.length/\e=(tr vs i,tr vs ((i+1) % vs.length)):=by
 obtain⟨i,hi⟩:=xbr.mp he;have il:i<vs.length:=by have:=(xaf.mp hi).1;rw[jdr] at this;exact this
 rw[jcB t0 il] at hi;exact⟨i,il,(Option.some.inj hi).symm⟩
theorem jkY (hi:i<vs.length):(tr vs i,tr vs ((i+1) % vs.length))∈prs vs:=xaD (jcB t0 hi)
theorem jdL {c:Nat->Tri} (h:Tp c n) (n3:3<=n) (hi:i<n) (hk:k<n) (k1:k≠i) (k2:k≠(i+1) % n):0<dt (c i) (c ((i+1) % n)) (c k):=by
 by_cases w:i+1<n
 ·rw[xae w] at k2 |-
  by_cases q:k<i
  ·rw[<- jcy];exact h k i (i+1) q (by omega) w
  ·exact h i (i+1) k (by omega) (by omega) hk
 ·have e:i+1=n:=by omega
  rw[e,xa7] at k2 |-
  rw[jcy];exact h 0 k i (by omega) (by omega) hi
theorem jl7 {c:Nat->Tri} (h:Tp c n) (n3:3<=n) (hi:i<n) (hk:k<n):0<=dt (c i) (c ((i+1) % n)) (c k):=by
 by_cases k1:k=i
 ·rw[k1,(jcz _ _).2.2];exact xbm _
 ·by_cases k2:k=(i+1) % n
  ·rw[k2,(jcz _ _).2.1];exact xbm _
  ·exact xbE (jdL h n3 hi hk k1 k2)
theorem Rng.own (R:Rng vs) (hv:v∈vs):InR vs v:=fun e he=>by
 obtain⟨i,hi,rfl⟩:=jiT he;obtain⟨k,hk,rfl⟩:=jgS hv;exact jl7 R.tp R.n3 hi hk
theorem jkZ (a b c p:Tri):dt a b c*p.x=dt p b c*a.x+dt a p c*b.x+dt a b p*c.x/\dt a b c*p.y=dt p b c*a.y+dt a p c*b.y+dt a b p*c.y/\dt a b c*p.z=dt p b c*a.z+dt a p c*b.z+dt a b p*c.z:=by
 unfold dt jby;refine⟨?_,?_,?_⟩<;>grind
theorem jka (A B C:Int) (a b c p:Tri):dt a b c*jaD A B C p=dt p b c*jaD A B C a+dt a p c*jaD A B C b+dt a b p*jaD A B C c:=by
 obtain⟨e1,e2,e3⟩:=jkZ a b c p;have e:dt a b c*jaD A B C p=A*(dt a b c*p.x)+B*(dt a b c*p.y)+C*(dt a b c*p.z):=by unfold jaD;grind
 rw[e,e1,e2,e3];unfold jaD;grind
theorem jgU {g:Nat->Int}:∀m:Nat,0<=g 1->g (m+2)<=0->∃j,1<=j/\j<=m+1/\0<=g j/\g (j+1)<=0
  | 0,h1,h2=>⟨1,by omega,by omega,h1,h2⟩
  | m + 1, h1, h2 => by
    by_cases c:0<=g (m+2)
    . exact⟨m+2,by omega,by omega,c,h2⟩
    . obtain⟨j,a,b,c1,c2⟩:=jgU m h1 (by omega)
      exact⟨j,a,by omega,c1,c2⟩
theorem hull (R:Rng vs) {p:Tri} (hp:InR vs p) (pz:1<=p.z):∃(a b c:Tri) (α β γ D:Int),a∈vs/\b∈vs/\c∈vs/\0<D/\0<=α/\0<=β/\0<=γ/\(0<α\/0<β\/0<γ)/\(D*p.x=α*a.x+β*b.x+γ*c.x/\D*p.y=α*a.y+β*b.y+γ*c.y/\D*p.z=α*a.z+β*b.z+γ*c.z)/\∀A B C:Int,D*jaD A B C p=α*jaD A B C a+β*jaD A B C b+γ*jaD A B C c:=by
 have n3:=R.n3;have m:∀i,i % vs.length<vs.length:=fun i=>xaC _ (by omega);have E:∀i,i<vs.length->0<=dt (tr vs i) (tr vs ((i+1) % vs.length)) p:=fun i hi=>hp _ (jkY hi);have g1:0<=dt (tr vs 0) (tr vs 1) p:=by
  have:=E 0 (by omega);rw[xbi,xae (by omega)] at this;exact this
 have g2:dt (tr vs 0) (tr vs (vs.length-3+2)) p<=0:=by
  have:=E (vs.length-1) (by omega);rw[show vs.length-1+1=vs.length by omega,xa7] at this;rw[show vs.length-3+2=vs.length-1 by omega];have sw:dt (tr vs 0) (tr vs (vs.length-1)) p=-dt (tr vs (vs.length-1)) (tr vs 0) p:=by unfold dt jby;grind
  omega
 obtain⟨j,j1,j2,h1,h2⟩:=jgU (g:=fun j=>dt (tr vs 0) (tr vs j) p) (vs.length-3) g1 g2;have jl:j+1<vs.length:=by omega
 have h3:=E j (by omega);rw[xae jl] at h3;have D:=R.tp 0 j (j+1) (by omega) (by omega) jl;have s1:dt p (tr vs j) (tr vs (j+1))=dt (tr vs j) (tr vs (j+1)) p:=jcy _ _ _;have s2:dt (tr vs 0) p (tr vs (j+1))=-dt (tr vs 0) (tr vs (j+1)) p:=by unfold dt jby;grind
 have cr:=jkZ (tr vs 0) (tr vs j) (tr vs (j+1)) p;refine⟨tr vs 0,tr vs j,tr vs (j+1),dt p (tr vs j) (tr vs (j+1)),dt (tr vs 0) p (tr vs (j+1)),dt (tr vs 0) (tr vs j) p,dt (tr vs 0) (tr vs j) (tr vs (j+1)),jea (by omega),jea (by omega),jea jl,D,by omega,by omega,h1,?_,cr,fun A B C=>jka A B C _ _ _ _⟩;apply xai;intro n;have a0:dt p (tr vs j) (tr vs (j+1))=0:=by omega
 have b0:dt (tr vs 0) p (tr vs (j+1))=0:=by omega
 have c0:dt (tr vs 0) (tr vs j) p=0:=by
  have:0<=dt (tr vs 0) (tr vs j) p:=h1;omega
 have e:=cr.2.2;rw[a0,b0,c0] at e;have:=xak D (show 0<p.z by omega);omega
theorem jiU (R:Rng vs) {p:Tri} (hp:InR vs p) (pz:1<=p.z) {C:Int} (h:∀v∈vs,0<=jaD A B C v):0<=jaD A B C p:=by
 obtain⟨a,b,c,α,β,γ,D,ha,hb,hc,D0,a0,b0,c0,_,_,e⟩:=hull R hp pz;have e:=e A B C;have h1:=xaG a0 (h a ha);have h2:=xaG b0 (h b hb);have h3:=xaG c0 (h c hc);rcases xcd (jaD A B C p) 0 with q | q
 ·have:=xar D0 q;omega
 ·exact q
theorem jgV (a b p:Tri):dt a b p=jaD (a.y*b.z-a.z*b.y) (a.z*b.x-a.x*b.z) (a.x*b.y-a.y*b.x) p:=rfl
theorem jfO (hi:i<n):((i+(n-1)) % n+1) % n=i:=by
 by_cases c:i=0
 ·subst c;rw[xbi,xae (show n-1<n by omega),show n-1+1=n by omega,xa7]
 ·rw[show i+(n-1)=i-1+n by omega,xaS,xae (show i-1<n by omega),show i-1+1=i by omega,xae hi]
theorem Prp.trans {u w:Tri} (h:Prp u v) (k:Prp v w):Prp u w:=by
 obtain⟨a,b,a0,b0,e1,e2,e3⟩:=h;obtain⟨c,d,c0,d0,f1,f2,f3⟩:=k;refine⟨c*a,b*d,xak c0 a0,xak b0 d0,?_,?_,?_⟩
 ·grind
 ·grind
 ·grind
def OnE (vs:List Tri) (a b:Tri):Prop:=∃e∈prs vs,∃k m:Int,0<k/\0<m/\∀q:Tri,k*dt a b q=m*dt e.1 e.2 q
def Nb (h:Tri->Int) (vs:List Tri) (a b:Tri):Prop:=OnE vs a b\/(h a=0/\h b=0)
theorem Adj.mono {α:Type} {R S:α->α->Prop} (i:∀a b,R a b->S a b):∀{l:List α},Adj R l->Adj S l
 | [],_=>trivial
 | [_],_=>trivial
 | _::b::l,h=>⟨i _ _ h.1,Adj.mono i (l:=b::l) h.2⟩
theorem jkb {α:Type} {h:α->Int} {P:α->α->Prop} (l:List α):∀x:α,(0<=h x->Adj (fun x y=>¬(h x<0/\0<h y)/\¬(0<h x/\h y<0)) (x::l)->Adj P (x::l)->Adj (fun a b=>P a b\/(h a=0/\h b=0)) (x::l.filter fun p=>decide (0<=h p))) /\
    (∀y:α,h x=0->h y<0->Adj (fun x y=>¬(h x<0/\0<h y)/\¬(0<h x/\h y<0)) (y::l)->Adj P (y::l)->Adj (fun a b=>P a b\/(h a=0/\h b=0)) (x::l.filter fun p=>decide (0<=h p))):=by
  induction l with
  | nil=>exact fun x=>⟨fun _ _ _=>trivial,fun _ _ _ _ _=>trivial⟩
  | cons z l ih =>
    intro x;refine⟨fun hx c p=>?_,fun y hx hy c p=>?_⟩
    . by_cases hz:0 <= h z
      . rw[xaL (by exact decide_eq_true hz)]
        exact⟨.inl p.1,(ih z).1 hz c.2 p.2⟩
      . rw[xaW (by simpa using hz)]
        have:=c.1;exact (ih x).2 z (by omega) (by omega) c.2 p.2
    . by_cases hz:0 <= h z
      . rw[xaL (by exact decide_eq_true hz)]
        have:=c.1;exact⟨.inr ⟨hx,by omega⟩,(ih z).1 hz c.2 p.2⟩
      . rw[xaW (by simpa using hz)]
        exact (ih x).2 z hx (by omega) c.2 p.2
theorem jk1 {α:Type} {R:α->α->Prop}:∀{l:List α},Adj R l->∀e∈op l,R e.1 e.2
  | [],_,e,he=>by cases he
  | [_],_,e,he=>by cases he
  | a :: b :: l, h, e, he => by
    rcases xav.mp (show e∈(a,b)::op (b::l) from he) with q | q
    . rw[q];exact h.1
    . exact jk1 (l:=b::l) h.2 e q
theorem jnQ {α:Type} (x:α) (r:List α):prs (x::r)=op (x::r++[x]):=jgP x (x::r)
theorem jnR (hX:∀a b,a∈vs->b∈vs->h a*h b<0->Prp (xp h a b) (X a b)):∀(r:List Tri) (x a:Tri),x∈vs->a∈vs->(∀v∈r,v∈vs)->(∀e∈nxt (x::r) a,e∈prs vs)->∃w,(nxt (x::r) a).flatMap (agE h X)=x::w/\Adj (OnE vs) (x::w++[a]):=by
  have one:∀x y,x∈vs->y∈vs->(x,y)∈prs vs->Adj (OnE vs) (agE h X (x,y)++[y]):=fun x y hx hy he=>by
    unfold agE;by_cases o:h x*h y<0
    . obtain⟨k,m,k0,m0,e1,e2,e3⟩:=hX x y hx hy o
      obtain⟨n1,n2,_,_⟩:=jcO o;have p1:=jbw n1;have p2:=jbw n2;simp only[if_pos o];have lin:∀(a b:Tri),(∀q:Tri,m*dt a (X x y) q=k*dt a (xp h x y) q)/\∀q:Tri,m*dt (X x y) b q=k*dt (xp h x y) b q:=fun a b=>by
        generalize X x y=v at *
        generalize xp h x y=u at *
        refine⟨fun q=>?_,fun q=>?_⟩
        . have:∀(c:Int) (u:Tri),c*dt a u q=dt a ⟨c*u.x,c*u.y,c*u.z⟩ q:=fun c u=>by unfold dt jby; grind
          rw[this,this,e1,e2,e3]
        . have:∀(c:Int) (u:Tri),c*dt u b q=dt ⟨c*u.x,c*u.y,c*u.z⟩ b q:=fun c u=>by unfold dt jby; grind
          rw[this,this,e1,e2,e3]
      have f1:∀q,dt x (xp h x y) q=ab (h x)*dt x y q:=fun q=>by
        unfold xp;rw[jf7,(jcz x q).1];grind
      have f2:∀q,dt (xp h x y) y q=ab (h y)*dt x y q:=fun q=>by
        unfold xp;rw[jiF,(jcz y q).1];grind
      refine⟨⟨(x,y),he,m,k*ab (h x),m0,xak k0 p1,fun q=>by rw[(lin x y).1 q,f1 q];grind⟩,⟨(x,y),he,m,k*ab (h y),m0,xak k0 p2,fun q=>by rw[(lin x y).2 q,f2 q];grind⟩,trivial⟩
    . simp only[if_neg o]
      exact⟨⟨(x,y),he,1,1,by decide,by decide,fun _=>rfl⟩,trivial⟩
  intro r;induction r with
  | nil =>
    intro x a hx ha _ he;refine⟨if h x*h a<0 then [X x a] else [],?_,one x a hx ha (he _ (by simp [nxt]))⟩;show agE h X (x,a)++[]=_;rw[xbv];rfl
  | cons y r ih =>
    intro x a hx ha hr he;obtain⟨w,e1,e2⟩:=ih y a (hr y (by simp)) ha (fun v hv=>hr v (xan _ hv)) fun e h'=>he e (by simp [nxt,h']);refine⟨(if h x*h y<0 then [X x y] else [])++y::w,?_,?_⟩
    . show agE h X (x,y)++(nxt (y::r) a).flatMap (agE h X)=_
      rw[e1];rfl
    . have g:=Adj.glue (l:=agE h X (x,y)) (x:=y) (m:=w++[a]) (one x y hx (hr y (by simp)) (he _ (by simp [nxt]))) e2
      have e:x::((if h x*h y<0 then [X x y] else [])++y::w)++[a]=agE h X (x,y)++y::(w++[a]):=by
        unfold agE;simp
      rw[e];exact g
theorem prs_rot_mem {α:Type} {l m:List α} {e:α × α}:e∈prs (l++m)↔e∈prs (m++l):=by
 have z:=jdq (l++m) l.length;rw[xbI,xbJ] at z;rw[z,xaO,Or.comm,<- xaO,xba]
theorem jnS {C:Int} (hz:∀v∈vs,1<=v.z) (hX:∀a b,a∈vs->b∈vs->jaD A B C a*jaD A B C b<0->Prp (xp (jaD A B C) a b) (X a b)) (up:∃v∈vs,0<jaD A B C v):∀e∈prs (upL (jaD A B C) X vs),Nb (jaD A B C) vs e.1 e.2:=by
  have x0:=fun a b ha hb o=>je6 (hX a b ha hb o) (jgb (A:=A) (B:=B) (C:=C) o);obtain⟨u,hu,pu⟩:=up;rw[<- ag_up x0]
  match vs,hz,hX,x0,hu with
  | x :: r, hz, hX, x0, hu =>
    obtain⟨w,e1,e2,_⟩:=jnJ (h:=jaD A B C) (X:=X) (S:=fun v=>v∈x::r) hz (fun a b ha hb o=>⟨hX a b ha hb o,x0 a b ha hb o⟩) (a:=x) (by simp) r x (by simp) fun v hv=>xan _ hv;obtain⟨w',e1',e3⟩:=jnR (h:=jaD A B C) hX r x x (by simp) (by simp) (fun v hv=>xan _ hv) fun e he=>he;have ww:w'=w:=by
      have:=e1'.symm.trans e1;injection this
    subst ww;have eA:agL (jaD A B C) X (x::r)=x::w':=e1;have um:u∈x::w':=by
      rw[<- eA];obtain⟨i,hi,rfl⟩:=jgS hu;refine xbz.mpr ⟨_,xaD (jcB t0 hi),?_⟩;exact xaX
    obtain⟨l1,l2,el⟩:=List.append_of_mem um;rw[eA,el];have rotA:∀{R:Tri->Tri->Prop},Adj R (x::w'++[x])->Adj R (u::(l2++l1)++[u]):=fun {R} c=>by
      have c1:Adj R (l1++u::(l2++[x])):=by
        have e2:x::w'++[x]=l1++u::(l2++[x]):=by rw[el];simp
        rw[<- e2];exact c
      cases l1 with
      | nil =>
        have:x=u:=by injection el
        subst this;simpa using c1
      | cons x' l1 =>
        have:x=x':=by injection el
        subst this;have g:=Adj.glue (l:=u::l2) (x:=x) (m:=l1++[u]) c1.right c1.left;simpa using g
    have a1:=rotA e2;have a2:=rotA e3;have a1':Adj (fun x y=>¬(jaD A B C x<0/\0<jaD A B C y)/\¬(0<jaD A B C x/\jaD A B C y<0)) (u::((l2++l1)++[u])):=a1;have a2':Adj (OnE (x::r)) (u::((l2++l1)++[u])):=a2;have f:=(jkb (h:=jaD A B C) (P:=OnE (x::r)) ((l2++l1)++[u]) u).1 (by omega) a1' a2';rw[xap,xaL (by exact decide_eq_true (show 0<=jaD A B C u by omega)),List.filter_nil] at f;intro e he;have he':e∈prs (u::(l2++l1).filter fun p=>decide (0<=jaD A B C p)):=by
      rw[xap,xaL (by exact decide_eq_true (show 0<=jaD A B C u by omega))] at he;have z:=prs_rot_mem.mp he;rw[xap];exact z
    rw[jnQ] at he';exact jk1 f e he'
theorem jfP {C:Int} {a b:Tri} (ha:jaD A B C a=0) (hb:jaD A B C b=0) (q u:Tri):dt a b q*jaD A B C u=jaD A B C q*dt a b u:=by
 unfold jaD at *
 unfold dt jby;grind
theorem jhp {C:Int} (R:Rng vs) (hX:∀a b,a∈vs->b∈vs->jaD A B C a*jaD A B C b<0->Prp (xp (jaD A B C) a b) (X a b)) (up:∃v∈vs,0<jaD A B C v):Rng (upL (jaD A B C) X vs)/\∀p:Tri,1<=p.z->(InR (upL (jaD A B C) X vs) p↔InR vs p/\0<=jaD A B C p):=by
 have N:=jnS R.hz hX up;have x0:=fun a b ha hb o=>je6 (hX a b ha hb o) (jgb (A:=A) (B:=B) (C:=C) o);have R2:Rng (upL (jaD A B C) X vs):=by
  obtain⟨u,hu,pu⟩:=up;obtain⟨i,hi,rfl⟩:=jgS hu;refine⟨jlY hX R.n3 hi pu,up_tp hX R.n3 R.tp,fun v hv=>?_⟩;rcases jkT hv with ⟨h,_⟩ | ⟨a,b,ha,hb,o,rfl⟩
  ·exact R.hz v h
  ·exact (hX a b ha hb o).z (xp_z (R.hz a ha) (R.hz b hb) o)
 have inn:∀v∈upL (jaD A B C) X vs,InR vs v/\0<=jaD A B C v:=fun v hv=>by
  rcases jkT hv with ⟨h,h0⟩ | ⟨a,b,ha,hb,o,rfl⟩
  ·exact⟨R.own h,h0⟩
  ·refine⟨fun e he=>?_,by rw[x0 a b ha hb o];exact xbm _⟩;obtain⟨k,m,k0,m0,e1,e2,e3⟩:=hX a b ha hb o;obtain⟨n1,n2,_,_⟩:=jcO o;have p1:=jbw n1;have p2:=jbw n2;have f1:=R.own ha e he;have f2:=R.own hb e he;have f3:dt e.1 e.2 (xp (jaD A B C) a b)=ab (jaD A B C b)*dt e.1 e.2 a+ab (jaD A B C a)*dt e.1 e.2 b:=by unfold xp;exact jfK ..
   have f4:m*dt e.1 e.2 (X a b)=k*dt e.1 e.2 (xp (jaD A B C) a b):=by
    rw[jgV,jgV];exact (jiP e1 e2 e3).symm
   have g1:=xaG (xbE p2) f1;have g2:=xaG (xbE p1) f2;have g3:=xaG (xbE k0) (show 0<=dt e.1 e.2 (xp (jaD A B C) a b) by omega);rw[<- f4] at g3;rcases xcd (dt e.1 e.2 (X a b)) 0 with q | q
   ·have:=xar m0 q;omega
   ·exact q
 refine⟨R2,fun p pz=>⟨fun hp=>⟨fun e he=>?_,?_⟩,fun ⟨hp,h0⟩ e he=>?_⟩⟩
 ·rw[jgV];exact jiU R2 hp pz fun v hv=>by rw[<- jgV];exact (inn v hv).1 e he
 ·exact jiU R2 hp pz fun v hv=>(inn v hv).2
 ·rcases N e he with ⟨e',he',k,m,k0,m0,eq⟩ | ⟨z1,z2⟩
  ·have g:=xaG (xbE m0) (hp e' he');rw[<- eq p] at g;rcases xcd (dt e.1 e.2 p) 0 with q | q
   ·have:=xar k0 q;omega
   ·exact q
  ·obtain⟨u,hu,pu⟩:=up;have um:u∈upL (jaD A B C) X vs:=by
    obtain⟨i,hi,rfl⟩:=jgS hu;refine xbz.mpr ⟨_,jkY hi,?_⟩;unfold upE;rw[if_pos (by show 0<=jaD A B C (tr vs i);omega)];exact xbs _ (by simp)
   have l:=jfP z1 z2 p u;have g:=xaG h0 (R2.own um e he);rw[<- l] at g;rcases xcd (dt e.1 e.2 p) 0 with q | q
   ·have:=xaN q pu;omega
   ·exact q
structure Ln where
 A:Int
 B:Int
 C:Int
def hf (l:Ln):Tri->Int:=jaD l.A l.B l.C
theorem jcD {l:Ln} (R:Rng vs) (up:∃v∈vs,0<hf l v):Rng (UP (hf l) vs)/\∀p:Tri,1<=p.z->(InR (UP (hf l) vs) p↔InR vs p/\0<=hf l p):=by
 rw[jbL up];exact jhp R (fun a b ha hb o=>jfM (R.hz a ha) (R.hz b hb) o) up
theorem Rng.ne (R:Rng us):us≠[]:=fun e=>by have:=R.n3;rw[e] at this;simp at this
theorem jl8 (hv:v∈upL h X vs):(v∈vs/\0<=h v)\/∃e∈prs vs,h e.1*h e.2<0/\v=X e.1 e.2:=by
 obtain⟨e,he,hv⟩:=xbz.mp hv;unfold upE at hv;rcases xaO.mp hv with h1 | h1
 ·by_cases c:0<=h e.1
  ·rw[if_pos c,xas] at h1;subst h1;exact .inl ⟨(jds he).1,c⟩
  ·rw[if_neg c] at h1;cases h1
 ·by_cases c:h e.1*h e.2<0
  ·rw[if_pos c,xas] at h1;exact .inr ⟨e,he,c,h1⟩
  ·rw[if_neg c] at h1;cases h1
structure BI (b:Nat) (vs:List Tri):Prop where
 ed:∀e∈prs vs,∃l:Ln,Bd b l.A/\Bd b l.B/\Bd b l.C/\hf l e.1=0/\hf l e.2=0/\∃q,hf l q≠0
 vb:∀v∈vs,v.bd (b+b+1)
theorem jiV (hz:1<=v.z):gl [(jf8 v).x,(jf8 v).y,(jf8 v).z]=1:=by
 have g0:0<gl [v.x,v.y,v.z]:=jdw (n:=v.z) (by simp) (by omega);have d:∀n∈[v.x,v.y,v.z],gl [v.x,v.y,v.z]*(n / gl [v.x,v.y,v.z])=n:=fun n hn=>xa5 (jaQ hn);have e:=jkK g0 [(jf8 v).x,(jf8 v).y,(jf8 v).z];have e2:[(jf8 v).x,(jf8 v).y,(jf8 v).z].map (gl [v.x,v.y,v.z]*·)=[v.x,v.y,v.z]:=by
  simp only[xaw,xb9,jf8];rw[d v.x (by simp),d v.y (by simp),d v.z (by simp)]
 rw[e2] at e;have:gl [v.x,v.y,v.z]*(gl [(jf8 v).x,(jf8 v).y,(jf8 v).z]-1)=0:=by rw[Int.mul_sub];omega
 rcases xaE.mp this with q | q<;>omega
theorem prim3 {z b:Int} (g:gl [x,y,z]=1) (n:¬(a=0/\b=0/\c=0)) (h1:a*y=b*x) (h2:b*z=c*y) (h3:a*z=c*x):x.natAbs<=a.natAbs/\y.natAbs<=b.natAbs/\z.natAbs<=c.natAbs:=by
 have dv:∀{k m:Int},k ∣ m*x->k ∣ m*y->k ∣ m*z->k ∣ m:=fun {k m} d1 d2 d3=>by
  have:=jd9 [x,y,z] 0 k m (by rw[xa6];exact Int.dvd_zero k) (fun q hq=>by
   simp only[xav,xbM,or_false] at hq;rcases hq with rfl | rfl | rfl
   ·exact d1
   ·exact d2
   ·exact d3)
  have e:m*G 0 [x,y,z]=m:=by
   show m*gl [x,y,z]=m;rw[g,xbB]
  rw[e] at this;exact this
 have le:∀{k m:Int},k ∣ m->(m=0->k=0)->k.natAbs<=m.natAbs:=fun {k m} d z=>by
  by_cases m0:m=0
  ·rw[z m0,m0];exact xag _
  ·exact Nat.le_of_dvd (by omega) (xb1.mpr d)
 have kz:∀{p q:Int},p≠0->p*q=0->q=0:=fun hp h=>(xaE.mp h).resolve_left hp;refine⟨le (dv ⟨a,by rw[xa3]⟩ ⟨b,by rw[h1,xa3]⟩ ⟨c,by rw[h3,xa3]⟩) fun e=>?_,le (dv ⟨a,by rw[<- h1,xa3]⟩ ⟨b,by rw[xa3]⟩ ⟨c,by rw[h2,xa3]⟩) fun e=>?_,le (dv ⟨a,by rw[<- h3,xa3]⟩ ⟨b,by rw[<- h2,xa3]⟩ ⟨c,by rw[xa3]⟩) fun e=>?_⟩
 ·subst e;rw[xaP] at h1 h3;by_cases b0:b=0
  ·exact kz (show c≠0 from fun q=>n ⟨rfl,b0,q⟩) h3.symm
  ·exact kz b0 h1.symm
 ·subst e;rw[xaP] at h1 h2;by_cases a0:a=0
  ·exact kz (show c≠0 from fun q=>n ⟨a0,rfl,q⟩) h2.symm
  ·exact kz a0 h1
 ·subst e;rw[xaP] at h2 h3;by_cases a0:a=0
  ·exact kz (show b≠0 from fun q=>n ⟨a0,q,rfl⟩) h2
  ·exact kz a0 h3
theorem BI.up {b:Nat} {l:Ln} (R:Rng vs) (I:BI b vs) (lA:Bd b l.A) (lB:Bd b l.B) (lC:Bd b l.C) (up:∃v∈vs,0<hf l v):BI b (UP (hf l) vs):=by
 rw[jbL up];have hX:∀a b,a∈vs->b∈vs->hf l a*hf l b<0->Prp (xp (hf l) a b) (bt (hf l) a b):=fun a b ha hb o=>jfM (R.hz a ha) (R.hz b hb) o;have N:=jnS (A:=l.A) (B:=l.B) (C:=l.C) R.hz hX up;refine⟨fun e he=>?_,fun v hv=>?_⟩
 ·rcases N e he with ⟨e',he',k,m,k0,m0,eq⟩ | ⟨z1,z2⟩
  ·obtain⟨l',b1,b2,b3,q1,q2,nz⟩:=I.ed e' he';obtain⟨i,hi,rfl⟩:=jiT he';have n3:=R.n3;obtain⟨j,hj,j1,j2⟩:=ja9 (n:=vs.length) (i:=i) (j:=(i+1) % vs.length) n3;have pos:=jdL R.tp n3 hi hj (Ne.symm j2) (Ne.symm j1);have on:∀a:Tri,dt e.1 e.2 a=0->hf l' a=0:=fun a ha=>by
    have h1:=eq a;rw[ha,xa6] at h1;have h2:=(xaE.mp h1.symm).resolve_left (by omega);have h3:=jfP q1 q2 a (tr vs j);simp only at h2 h3;rw[h2,xaP] at h3;exact (xaE.mp h3.symm).resolve_right (by omega)
   exact⟨l',b1,b2,b3,on _ (jcz _ _).2.2,on _ (jcz _ _).2.1,nz⟩
  ·obtain⟨u,_,pu⟩:=up;exact⟨l,lA,lB,lC,z1,z2,u,by omega⟩
 ·rcases jl8 hv with ⟨h,_⟩ | ⟨e,he,o,rfl⟩
  ·exact I.vb v h
  ·obtain⟨l',b1,b2,b3,q1,q2,⟨q,nz⟩⟩:=I.ed e he;obtain⟨m1,m2⟩:=jds he;have xz:=xp_z (h:=hf l) (R.hz _ m1) (R.hz _ m2) o;have p:=hX _ _ m1 m2 o;have r1:hf l (bt (hf l) e.1 e.2)=0:=je6 p (jgb o);have r2:hf l' (bt (hf l) e.1 e.2)=0:=je6 p (by
    unfold xp je4;have:jaD l'.A l'.B l'.C e.1=0:=q1;have:jaD l'.A l'.B l'.C e.2=0:=q2;generalize ab (hf l e.2)=s at *
    generalize ab (hf l e.1)=t at *
    unfold jaD at *
    grind)
   have g:=jiV xz;have ne:¬(l'.B*l.C-l'.C*l.B=0/\l'.C*l.A-l'.A*l.C=0/\l'.A*l.B-l'.B*l.A=0):=fun ⟨z1,z2,z3⟩=>by
    have k1:hf l e.1*hf l' q=hf l' e.1*hf l q:=by
     unfold hf jaD;grind
    rw[q1,xaP] at k1;rcases xaE.mp k1 with w | w
    ·exact (jcO o).1 w
    ·exact nz w
   change jaD _ _ _ _=0 at r1 r2;have gg:gl [(bt (hf l) e.1 e.2).x,(bt (hf l) e.1 e.2).y,(bt (hf l) e.1 e.2).z]=1:=g;generalize bt (hf l) e.1 e.2=w at r1 r2 gg |-
   unfold jaD at r1 r2;obtain⟨c1,c2,c3⟩:=prim3 gg ne (by grind) (by grind) (by grind);have cb:∀{i j k m:Int},Bd b i->Bd b j->Bd b k->Bd b m->Bd (b+b+1) (i*j-k*m):=fun h1 h2 h3 h4=>Bd.sub (Bd.mul h1 h2) (Bd.mul h3 h4);exact⟨jlM c1 (cb b2 lC b3 lB),jlM c2 (cb b3 lA b1 lC),jlM c3 (cb b1 lB b2 lA)⟩
structure VF (vs:List Tri):Prop where
 rg:Rng vs
 bi:BI 110 vs
theorem jfQ {l:Ln} (R:Rng vs):(UP (hf l) vs).length<=vs.length+1:=by
 by_cases up:∃v∈vs,0<hf l v
 ·rw[jbL up];exact jlZ (fun a b ha hb o=>jfM (R.hz a ha) (R.hz b hb) o) R.tp
 ·rw[jfN up];exact xaQ _
theorem VF.up {l:Ln} (F:VF vs) (lA:Bd 110 l.A) (lB:Bd 110 l.B) (lC:Bd 110 l.C) (up:∃v∈vs,0<hf l v):VF (UP (hf l) vs):=⟨(jcD F.rg up).1,F.bi.up F.rg lA lB lC up⟩
theorem VF.six (R:Rng vs) (b:∀v∈vs,v.bd 6):VF vs:=by
 refine⟨R,fun e he=>?_,fun v hv=>je9 (b v hv)⟩;obtain⟨m1,m2⟩:=jds he;obtain⟨i,hi,rfl⟩:=jiT he;have n3:=R.n3;obtain⟨j,hj,j1,j2⟩:=ja9 (n:=vs.length) (i:=i) (j:=(i+1) % vs.length) n3;have pos:=jdL R.tp n3 hi hj (Ne.symm j2) (Ne.symm j1);have b1:=b _ m1;have b2:=b _ m2;simp only at b1 b2 pos |-
 generalize tr vs i=a at *
 generalize tr vs ((i+1) % vs.length)=c at *
 have cb:∀{i j k m:Int},Bd 6 i->Bd 6 j->Bd 6 k->Bd 6 m->Bd 110 (i*j-k*m):=fun h1 h2 h3 h4=>Bd.mono (n:=13) (Bd.sub (n:=12) (Bd.mul h1 h2) (Bd.mul h3 h4));refine⟨⟨a.y*c.z-a.z*c.y,a.z*c.x-a.x*c.z,a.x*c.y-a.y*c.x⟩,cb b1.2.1 b2.2.2 b1.2.2 b2.2.1,cb b1.2.2 b2.1 b1.1 b2.2.2,cb b1.1 b2.2.1 b1.2.1 b2.1,(jcz a c).2.2,(jcz a c).2.1,tr vs j,?_⟩;have:hf ⟨a.y*c.z-a.z*c.y,a.z*c.x-a.x*c.z,a.x*c.y-a.y*c.x⟩ (tr vs j)=dt a c (tr vs j):=rfl;omega
def BdAt (H:Hp) (Z:Sht) (r:Addr) (us:List Tri):Prop:=∃rs:List Addr,H r=some (.tup (rs.map V.ref))/\Sps H rs (frm (us.map (spt Z)) (us.map (spt Z)))
theorem BdAt.keep (h:BdAt H Z r us) (s:SameT H H'):BdAt H' Z r us:=by
 obtain⟨rs,h1,h2⟩:=h;exact⟨rs,s _ _ h1,h2.keep s⟩
def PtAt (H:Hp) (Z:Sht) (f:V) (us:List Tri):Prop:=(us=[]/\f=.non)\/(us≠[]/\∃r:Addr,f=.ref r/\BdAt H Z r us)
def jdf (Z:Sht) (p:Pt):Ln:=⟨lnA Z p.x p.y p.z,lnB Z p.x p.y p.z,lnC Z p.x p.y p.z p.w⟩
theorem jfa {K:List Pt} (R:Rng us) (n17:us.length<=17) (hw:1<=Z.w) (nz:Z.u.nz) (r:RR (us.map (spt Z)) K):frm K K=frm (us.map (spt Z)) (us.map (spt Z)):=by
 have ln:(us.map (spt Z)).length=us.length:=xaa _;have n3:=R.n3;exact jnP (jj9 hw nz R.n3 R.tp R.hz) (by omega) (by omega) r
theorem jkc {E:XK} {b g:Addr} (F:VF vs) (hw:1<=Z.w) (nz:Z.u.nz) (n16:vs.length<=16) (bs:∀u∈vs,(spt Z u).bd 252) (bp:p.bd 100) (bA:Bd 110 (jdf Z p).A) (bB:Bd 110 (jdf Z p).B) (bC:Bd 110 (jdf Z p).C)
  (hb:BdAt H Z b vs) (hg:Is4 H g p)
  (q:∀(t:Addr) (H':Hp) (f0 f1:V),Same H H'->H' t=some (.tup [f0,f1])->PtAt H' Z f0 (UP (hf (jdf Z ⟨-p.x,-p.y,-p.z,-p.w⟩)) vs)->PtAt H' Z f1 (UP (hf (jdf Z p)) vs)->Q (.ref t) H'):jfJ [.ref b,.ref g] H Q E:=by
 obtain⟨rs,hb,hs⟩:=hb;obtain⟨x,y,z,v⟩:=p;obtain⟨bx,by',bz,bv⟩:=bp;have r:RR (vs.map (spt Z)) (frm (vs.map (spt Z)) (vs.map (spt Z))):=jeC _ _;have hs0:=hs;generalize ep:frm (vs.map (spt Z)) (vs.map (spt Z))=ps at r hs;have ln:(vs.map (spt Z)).length=vs.length:=xaa _;have pl:ps.length=vs.length:=by rw[r.len,ln]
 have n3:=F.rg.n3;have mem:∀i,i<ps.length->∃u∈vs,pt ps i=spt Z u:=fun i hi=>by
  obtain⟨u,hu,e⟩:=xaz.mp (r.mem.mp (ja4 hi));exact⟨u,hu,e.symm⟩
 have mem':∀u∈vs,∃i,i<ps.length/\pt ps i=spt Z u:=fun u hu=>jgK (r.mem.mpr (xaz.mpr ⟨u,hu,rfl⟩));have hz:=F.rg.hz;have sg:=fun u (hu:u∈vs)=>jcC (x:=x) (y:=y) (z:=z) (v:=v) (Z:=Z) (a:=u) hw (hz u hu);have wp:∀p∈ps,1<=p.w:=fun p hp=>by
  obtain⟨u,hu,e⟩:=xaz.mp (r.mem.mp hp);rw[<- e];exact jfI hw (hz u hu)
 have hX:∀{x y z v:Int},∀a b,a∈vs->b∈vs->hL Z x y z v a*hL Z x y z v b<0->Prp (xp (hL Z x y z v) a b) (bt (hL Z x y z v) a b):=fun {x y z v} a b ha hb o=>jfM (hz a ha) (hz b hb) o;have eh:hf (jdf Z ⟨x,y,z,v⟩)=hL Z x y z v:=rfl;have eh':hf (jdf Z ⟨-x,-y,-z,-v⟩)=hL Z (-x) (-y) (-z) (-v):=rfl;rw[eh'] at q;change ∀(t:Addr) (H':Hp) (f0 f1:V),Same H H'->H' t=some (.tup [f0,f1])->PtAt H' Z f0 (UP (hL Z (-x) (-y) (-z) (-v)) vs)->PtAt H' Z f1 (UP (hL Z x y z v) vs)->Q (.ref t) H' at q;have ng:∀u,hL Z (-x) (-y) (-z) (-v) u=-hL Z x y z v u:=fun u=>jkX ..;have ne:vs≠[]:=F.rg.ne;refine⟨100,252,b,g,rs,ps,x,y,z,v,rfl,by decide,hb,hs,by omega,by omega,fun i hi=>?_,hg.1,bx,by',bz,bv,?_⟩
 ·obtain⟨u,hu,e⟩:=mem i hi;rw[e];exact⟨bs u hu,jfI hw (hz u hu)⟩
 by_cases up:∃u∈vs,0<hL Z x y z v u
 ·obtain⟨u,hu,pu⟩:=up;obtain⟨i,hi,ei⟩:=mem' u hu;by_cases dn:∃u∈vs,hL Z x y z v u<0
  ·obtain⟨d,hd,pd⟩:=dn;obtain⟨j,hj,ej⟩:=mem' d hd;have up':∃u∈vs,0<hf (jdf Z ⟨x,y,z,v⟩) u:=⟨u,hu,pu⟩;have dn':∃u∈vs,0<hf (jdf Z ⟨-x,-y,-z,-v⟩) u:=⟨d,hd,by
    show 0<hL Z (-x) (-y) (-z) (-v) d;rw[jkX];omega⟩
   have F1:=(jcD F.rg up').1;have F2:=(jcD F.rg dn').1;have l3:=jfQ (l:=jdf Z ⟨x,y,z,v⟩) F.rg;have l4:=jfQ (l:=jdf Z ⟨-x,-y,-z,-v⟩) F.rg;have a1:=F1.n3;have a3:=F2.n3;have R1:=jeb hw hz hX r (x:=x) (y:=y) (z:=z) (v:=v);have R2:=jeb hw hz hX r (x:=-x) (y:=-y) (z:=-z) (v:=-v);rw[<- jl5 wp] at R2;have l1:=R1.len;have l2:=R2.len;rw[xaa] at l1 l2;rw[jbL up'] at F1 l3 a1;rw[jbL dn'] at F2 l4 a3;change Rng (upL (hL Z x y z v) (bt (hL Z x y z v)) vs) at F1;change (upL (hL Z x y z v) (bt (hL Z x y z v)) vs).length<=_ at l3;change 3<=(upL (hL Z x y z v) (bt (hL Z x y z v)) vs).length at a1;change (upL (hL Z (-x) (-y) (-z) (-v)) (bt (hL Z (-x) (-y) (-z) (-v))) vs).length<=_ at l4;change 3<=(upL (hL Z (-x) (-y) (-z) (-v)) (bt (hL Z (-x) (-y) (-z) (-v))) vs).length at a3;refine .inr (.inr (.inr ⟨⟨i,hi,by rw[ei];exact (sg u hu).1.mpr pu⟩,⟨j,hj,by rw[ej];exact (sg d hd).2.mpr pd⟩,by omega,by omega,by omega,by omega,fun t H' c1 c2 r1 r2 s' e1 e2 h2 e3 h3=>?_⟩));refine q t H' _ _ s' e1 (.inr ⟨?_,c1,rfl,r1,e2,?_⟩) (.inr ⟨?_,c2,rfl,r2,e3,?_⟩)
   ·rw[jbL (show ∃u∈vs,0<hL Z (-x) (-y) (-z) (-v) u from dn')];exact F2.ne
   ·rw[jbL (show ∃u∈vs,0<hL Z (-x) (-y) (-z) (-v) u from dn'),<- jfa (show Rng (upL (hL Z (-x) (-y) (-z) (-v)) (bt (hL Z (-x) (-y) (-z) (-v))) vs) from F2) (by omega) hw nz R2];exact h2
   ·rw[jbL ⟨u,hu,pu⟩];exact F1.ne
   ·rw[jbL ⟨u,hu,pu⟩,<- jfa F1 (by omega) hw nz R1];exact h3
  ·refine .inr (.inl ⟨fun k hk=>?_,⟨i,hi,by rw[ei];exact (sg u hu).1.mpr pu⟩,fun t H' s' e'=>q t H' _ _ s' e' (.inl ⟨jfN fun ⟨c,hc,h⟩=>dn ⟨c,hc,by rw[ng] at h;omega⟩,rfl⟩) (.inr ⟨?_,b,rfl,rs,s' _ _ hb,?_⟩)⟩)
   ·obtain⟨c,hc,e⟩:=mem k hk;rw[e];have:=(sg c hc).2;have:¬hL Z x y z v c<0:=fun h=>dn ⟨c,hc,h⟩;omega
   ·rw[jbL ⟨u,hu,pu⟩,jgT fun c hc=>by
     have:¬hL Z x y z v c<0:=fun h=>dn ⟨c,hc,h⟩;omega]
    exact ne
   ·rw[jbL ⟨u,hu,pu⟩,jgT fun c hc=>by
     have:¬hL Z x y z v c<0:=fun h=>dn ⟨c,hc,h⟩;omega]
    exact hs0.keep s'.t
 ·have z0:UP (hL Z x y z v) vs=[]:=jfN up;by_cases dn:∃u∈vs,hL Z x y z v u<0
  ·obtain⟨d,hd,pd⟩:=dn;obtain⟨j,hj,ej⟩:=mem' d hd;refine .inr (.inr (.inl ⟨fun k hk=>?_,⟨j,hj,by rw[ej];exact (sg d hd).2.mpr pd⟩,fun t H' s' e'=>q t H' _ _ s' e' (.inr ⟨?_,b,rfl,rs,s' _ _ hb,?_⟩) (.inl ⟨z0,rfl⟩)⟩));rotate_left
   ·rw[jbL ⟨d,hd,by rw[ng];omega⟩,jgT fun c hc=>by
     have:¬0<hL Z x y z v c:=fun h=>up ⟨c,hc,h⟩;rw[ng];omega]
    exact ne
   ·rw[jbL ⟨d,hd,by rw[ng];omega⟩,jgT fun c hc=>by
     have:¬0<hL Z x y z v c:=fun h=>up ⟨c,hc,h⟩;rw[ng];omega]
    exact hs0.keep s'.t
   obtain⟨c,hc,e⟩:=mem k hk;rw[e];have:=(sg c hc).1;have:¬0<hL Z x y z v c:=fun h=>up ⟨c,hc,h⟩;omega
  ·refine .inl ⟨fun k hk=>?_,fun t H' s' e'=>q t H' _ _ s' e' (.inl ⟨jfN fun ⟨c,hc,h⟩=>dn ⟨c,hc,by rw[ng] at h;omega⟩,rfl⟩) (.inl ⟨z0,rfl⟩)⟩;obtain⟨c,hc,e⟩:=mem k hk;rw[e];have h1:=(sg c hc).1;have h2:=(sg c hc).2;have:¬0<hL Z x y z v c:=fun h=>up ⟨c,hc,h⟩;have:¬hL Z x y z v c<0:=fun h=>dn ⟨c,hc,h⟩;omega
def PlOk (Z:Sht) (p:Pt):Prop:=p.bd 100/\Bd 110 (jdf Z p).A/\Bd 110 (jdf Z p).B/\Bd 110 (jdf Z p).C
theorem jgW (hw:1<=Z.w) (nz:Z.u.nz) (R:Rng vs) (n8:vs.length<=8):Brd (vs.map (spt Z)):=by
 have ln:(vs.map (spt Z)).length=vs.length:=xaa _;have n3:=R.n3;have pl:∀a,a<vs.length->(tr vs a).pl:=fun a ha=>R.hz _ (jea ha);have d012:=R.tp 0 1 2 (by decide) (by decide) (by omega);refine⟨by omega,by omega,?_,?_,?_⟩
 ·rw[jbf (by omega),jbf (by omega),jbf (by omega)];exact jdd hw nz (by omega)
 ·intro i hi;rw[jbf (by omega),jbf (by omega),jbf (by omega),jbf (by omega)];exact jjU hw (pl _ (by omega)) (pl _ (by omega)) (pl _ (by omega)) (pl _ (by omega))
 ·intro k k0 k2 _ i j hi j1 jn;rw[ln] at hi jn |-
  have m1:(i+(vs.length-1)) % vs.length<vs.length:=xaC _ (by omega);have m2:(i+j) % vs.length<vs.length:=xaC _ (by omega);rw[jbf m1,jbf hi,jbf m2,jbf (by omega),jbf (by omega),jbf (by omega)];have pos:=jdL (i:=(i+(vs.length-1)) % vs.length) (k:=(i+j) % vs.length) R.tp n3 m1 m2 (by
   by_cases c:i+j<vs.length
   ·rw[xae c];by_cases d:i=0
    ·subst d;rw[xbi,xbi,xae (by omega)];omega
    ·rw[show i+(vs.length-1)=i-1+vs.length by omega,xaS,xae (by omega)];omega
   ·rw[show i+j=i+j-vs.length+vs.length by omega,xaS,xae (by omega),show i+(vs.length-1)=i-1+vs.length by omega,xaS,xae (by omega)];omega) (by
   rw[jfO hi];by_cases c:i+j<vs.length
   ·rw[xae c];omega
   ·rw[show i+j=i+j-vs.length+vs.length by omega,xaS,xae (by omega)];omega)
  rw[jfO hi] at pos;rw[jiw hw (pl _ m1) (pl _ hi) (pl _ m2) pos k0 k2,jiw hw (pl _ (by omega)) (pl _ (by omega)) (pl _ (by omega)) d012 k0 k2]
theorem jnT:∀n,n<10->3<=n->∀a,a<n->(a+0) % n≠(a+1) % n/\(a+1) % n≠(a+2) % n/\(a+0) % n≠(a+2) % n:=by decide +kernel
theorem jnU:∀n,n<10->3<=n->∀a,a<n->(a+(n-0)) % n≠(a+(n-1)) % n/\(a+(n-1)) % n≠(a+(n-2)) % n/\(a+(n-0)) % n≠(a+(n-2)) % n:=by decide +kernel
theorem jl9 (hw:1<=Z.w) (nz:Z.u.nz) (R:Rng us) (n9:us.length<=9) (r:RR (us.map (spt Z)) ps):¬jbE (pt ps 0) (pt ps 1) (pt ps 2):=by
 have ln:(us.map (spt Z)).length=us.length:=xaa _;have n3:=R.n3;obtain⟨hl,a,ha,d⟩:=r.dih (by omega) (by omega);rw[ln] at ha d;have i1:=jnT us.length (by omega) n3 a ha;have i2:=jnU us.length (by omega) n3 a ha;have md:∀i,i % us.length<us.length:=fun i=>xaC _ (by omega);rcases d with d | d
 ·rw[d 0 (by omega),d 1 (by omega),d 2 (by omega),jbf (md _),jbf (md _),jbf (md _)];exact jdd hw nz (jl6 R.tp (md _) (md _) (md _) i1.1 i1.2.1 i1.2.2)
 ·rw[d 0 (by omega),d 1 (by omega),d 2 (by omega),jbf (md _),jbf (md _),jbf (md _)];exact jdd hw nz (jl6 R.tp (md _) (md _) (md _) i2.1 i2.2.1 i2.2.2)
theorem jeD {f:Tri->Tri} (h:i<vs.length):tr (vs.map f) i=f (tr vs i):=by
 unfold tr;rw[xab,xal,xab,xac h];rfl
theorem Rng.mp {f:Tri->Tri} {k:Int} (R:Rng vs) (k0:0<k) (hd:∀a b c,dt (f a) (f b) (f c)=k*dt a b c) (hz:∀v,1<=v.z->1<=(f v).z):Rng (vs.map f):=by
 refine⟨by rw[xaa];exact R.n3,?_,fun v hv=>?_⟩
 ·intro a b c h1 h2 h3;rw[xaa] at h3;rw[jeD (by omega),jeD (by omega),jeD h3,hd];exact xak k0 (R.tp a b c h1 h2 h3)
 ·obtain⟨u,hu,rfl⟩:=xaz.mp hv;exact hz u (R.hz u hu)
theorem PtAt.keep {f:V} (h:PtAt H Z f us) (s:SameT H H'):PtAt H' Z f us:=by
 rcases h with h | ⟨h1,r,h2,h3⟩
 ·exact .inl h
 ·exact .inr ⟨h1,r,h2,h3.keep s⟩
theorem jiW {b:Int} (hp:plb a b c=true):plb (-a) (-b) (-c)=false:=by
 by_cases ha:a=0
 ·by_cases hb:b=0
  ·by_cases hc:c=0
   ·simp [plb,ha,hb,hc] at hp
   ·simp [plb,ha,hb,hc] at hp |-
    omega
  ·simp [plb,ha,hb] at hp |-
   omega
 ·simp [plb,ha] at hp |-
  omega
theorem jma (ns:List Int):low (ns.map fun n=>-n)=(low ns).map fun n=>-n:=by
 unfold low;rw[jkE,xa4,xa4];refine xbO fun n hn=>?_;show -n / gl ns=-(n / gl ns);exact Int.neg_ediv_of_dvd (jaQ hn)
theorem jmb {b:Int} (h:¬(a=0/\b=0/\c=0)):pln [-a,-b,-c,-d]=pln [a,b,c,d]:=by
  have gp:=gl4 (d:=d) h;have e:low [-a,-b,-c,-d]=(low [a,b,c,d]).map fun n=>-n:=jma [a,b,c,d];have nz:¬(a / gl [a,b,c,d]=0/\b / gl [a,b,c,d]=0/\c / gl [a,b,c,d]=0):=fun z=>by
    have g:∀{x:Int},x∈[a,b,c,d]->x / gl [a,b,c,d]=0->x=0:=fun hx z=>xai fun q=>jdV (jaQ hx) q z;exact h ⟨g (by simp) z.1,g (by simp) z.2.1,g (by simp) z.2.2⟩
  unfold pln;rw[e];have el:low [a,b,c,d]=[a / gl [a,b,c,d],b / gl [a,b,c,d],c / gl [a,b,c,d],d / gl [a,b,c,d]]:=rfl;rw[el];generalize a / gl [a,b,c,d]=x at nz;generalize b / gl [a,b,c,d]=y at nz;generalize c / gl [a,b,c,d]=z at nz;generalize d / gl [a,b,c,d]=w;show (if plb (-x) (-y) (-z)=true then [-x,-y,-z,-w] else [- -x,- -y,- -z,- -w])=(if plb x y z=true then [x,y,z,w] else [-x,-y,-z,-w]);cases eb:plb x y z with
  | true =>
    rw[jiW eb,if_neg (by decide),if_pos rfl];simp
  | false =>
    rw[jin nz eb,if_pos rfl,if_neg (by decide)]
theorem jmc {k b:Int} (hk:k≠0) (h:¬(a=0/\b=0/\c=0)):pln [k*a,k*b,k*c,k*d]=pln [a,b,c,d]:=by
 have pos:∀{k:Int},0<k->pln [k*a,k*b,k*c,k*d]=pln [a,b,c,d]:=fun {k} hk=>by
  have e:low [k*a,k*b,k*c,k*d]=low [a,b,c,d]:=jeZ hk [a,b,c,d];unfold pln;rw[e]
 rcases Int.lt_or_gt_of_ne hk with n | p
 ·have e:pln [k*a,k*b,k*c,k*d]=pln [-k*a,-k*b,-k*c,-k*d]:=by
   have nz:¬(-k*a=0/\-k*b=0/\-k*c=0):=fun z=>by
    have f:∀{i:Int},-k*i=0->i=0:=fun e=>(xaE.mp e).resolve_left (by omega);exact h ⟨f z.1,f z.2.1,f z.2.2⟩
   have z:=jmb (d:=-k*d) nz;rw[<- z];simp only[xbN,xb8]
  rw[e];exact pos (by omega)
 ·exact pos p
theorem jmd (a b:Int):Int.gcd b (a % b)=Int.gcd a b:=by
 have h1:((Int.gcd b (a % b):Nat):Int) ∣ (Int.gcd a b:Nat):=xbw (by
  have z:((Int.gcd b (a % b):Nat):Int) ∣ b*(a / b)+a % b:=Int.dvd_add (xbq (xbo ..) (Int.dvd_mul_right _ _)) (xbk ..);rw[Int.mul_ediv_add_emod] at z;exact z) (xbo ..)
 have h2:((Int.gcd a b:Nat):Int) ∣ (Int.gcd b (a % b):Nat):=xbw (xbk ..) (by
  rw[Int.emod_def];exact Int.dvd_sub (xbo ..) (xbq (xbk ..) (Int.dvd_mul_right _ _)))
 exact Nat.dvd_antisymm (Int.natCast_dvd_natCast.mp h1) (Int.natCast_dvd_natCast.mp h2)
theorem gcd4 (x y z w:Int):((Int.gcd (Int.gcd x y:Nat) (Int.gcd z w:Nat):Nat):Int)=gl [x,y,z,w]:=by
 have p1:((Int.gcd (Int.gcd x y:Nat) (Int.gcd z w:Nat):Nat):Int) ∣ (Int.gcd x y:Nat):=xbo ..;have p2:((Int.gcd (Int.gcd x y:Nat) (Int.gcd z w:Nat):Nat):Int) ∣ (Int.gcd z w:Nat):=xbk ..;have d:((Int.gcd (Int.gcd x y:Nat) (Int.gcd z w:Nat):Nat):Int) ∣ gl [x,y,z,w]:=jes fun n hn=>by
  simp only[xav,xbM,or_false] at hn;rcases hn with rfl | rfl | rfl | rfl
  ·exact xbq p1 (xbo ..)
  ·exact xbq p1 (xbk ..)
  ·exact xbq p2 (xbo ..)
  ·exact xbq p2 (xbk ..)
 have d':gl [x,y,z,w] ∣ ((Int.gcd (Int.gcd x y:Nat) (Int.gcd z w:Nat):Nat):Int):=xbw (xbw (jaQ (by simp)) (jaQ (by simp))) (xbw (jaQ (by simp)) (jaQ (by simp)));exact Int.dvd_antisymm (by omega) (jbc _) d d'
def Mk (σ:L2.St) (te:TE) (φ:V->Hp->Prop):Prop:=∀H R,(∀v H',Same H H'->φ v H'->R v H')->te σ H R
def MkA (σ:L2.St) (ta:TA) (φ:List V->Hp->Prop):Prop:=∀H R,(∀v H',Same H H'->φ v H'->R v H')->ta σ H R
inductive PrP (H:Hp):List Addr->List (Int × Int)->Prop
 | nil:PrP H [] []
 | cons {r:Addr} {p:Int × Int} {rs:List Addr} {ps:List (Int × Int)}:H r=some (.tup [.int p.1,.int p.2])->PrP H rs ps->PrP H (r::rs) (p::ps)
theorem PrP.len {rs:List Addr} {ps:List (Int × Int)} (h:PrP H rs ps):rs.length=ps.length:=by
 induction h with
 | nil=>rfl
 | cons _ _ ih=>rw[xaq,xaq,ih]
theorem PrP.keep {rs:List Addr} {ps:List (Int × Int)} (h:PrP H rs ps) (s:SameT H H'):PrP H' rs ps:=by
 induction h with
 | nil=>exact .nil
 | cons e _ ih=>exact .cons (s _ _ e) ih
def IsP (p:Int × Int) (v:V) (H:Hp):Prop:=∃r,v=.ref r/\H r=some (.tup [.int p.1,.int p.2])
def RowA (ps:List (Int × Int)) (vs:List V) (H:Hp):Prop:=∃rs:List Addr,vs=rs.map V.ref/\PrP H rs ps
def IsL (ps:List (Int × Int)) (v:V) (H:Hp):Prop:=∃(l:Addr) (rs:List Addr),v=.ref l/\H l=some (.lst (rs.map V.ref))/\PrP H rs ps
def TabA:List (List (Int × Int))->List V->Hp->Prop
 | [],vs,_=>vs=[]
 | ps::pss,vs,H=>∃v ws,vs=v::ws/\IsL ps v H/\TabA pss ws H
theorem IsL.keep {ps:List (Int × Int)} {v:V} (h:IsL ps v H) (s:Same H H'):IsL ps v H':=by
 obtain⟨l,rs,rfl,h1,h2⟩:=h;exact⟨l,rs,rfl,s _ _ h1,h2.keep s.t⟩
theorem TabA.len:∀{pss:List (List (Int × Int))} {vs:List V} {H:Hp},TabA pss vs H->vs.length=pss.length
 | [],_,_,h=>by cases h;rfl
 | _::_,_,_,⟨_,_,e,_,h⟩=>by rw[e,xaq,xaq,h.len]
theorem TabA.keep:∀{pss:List (List (Int × Int))} {vs:List V} {H H':Hp},TabA pss vs H->Same H H'->TabA pss vs H'
 | [],_,_,_,h,_=>h
 | _::_,_,_,_,⟨v,ws,e,h1,h⟩,s=>⟨v,ws,e,h1.keep s,h.keep s⟩
theorem TabA.get:∀{pss:List (List (Int × Int))} {vs:List V} {H:Hp} {i:Nat},TabA pss vs H->i<pss.length->∃v,vs[i]?=some v/\IsL (pss.getD i []) v H
  | _::_,_,_,0,⟨v,ws,e,h1,_⟩,_=>⟨v,by rw[e];rfl,h1⟩
  | _ :: _, _, _, i + 1, ⟨v, ws, e, _, h⟩, hi => by
    obtain⟨u,h1,h2⟩:=h.get (i:=i) (Nat.lt_of_succ_lt_succ hi);exact⟨u,by rw[e];exact h1,h2⟩
def MkI (σ:L2.St) (te:TE) (a:Int):Prop:=∀H R,R (.int a) H->te σ H R
variable {σ:L2.St}
theorem jmM :MkI σ (tC (.int a)) a:=fun _ _ h=>h
theorem jfb :MkA σ jjq (RowA []):=fun H R q=>q _ _ (fun _ _ z=>z) ⟨[],rfl,.nil⟩
variable {ta:TA}
theorem jec {p:Int × Int} {ps:List (Int × Int)} (h:Mk σ te (IsP p)) (k:MkA σ ta (RowA ps)):MkA σ (jej te ta) (RowA (p::ps)):=fun H R q=>h H _ fun v H1 s1 ⟨r,e,hr⟩=>k H1 _ fun ws H2 s2 ⟨rs,e',hs⟩=>q _ _ (s1.trans s2) ⟨r::rs,by rw[e,e'];rfl,.cons (s2 _ _ hr) hs⟩
theorem jiX {ps:List (Int × Int)} (k:MkA σ ta (RowA ps)) (hl:ps.length<1000):Mk σ (jkm ta) (IsL ps):=fun H R q=>k H _ fun vs H1 s1 ⟨rs,e,hs⟩=>by
 subst e;exact⟨xa2 (jaF (by rw[xaa,hs.len];exact hl)),fun p hp=>q _ _ (s1.trans (Same.new hp _)) ⟨p,rs,rfl,jag,hs.keep (Same.new hp _).t⟩⟩
theorem jfc :MkA σ jjq (TabA []):=fun H R q=>q _ _ (fun _ _ z=>z) rfl
theorem jed {ps:List (Int × Int)} {pss:List (List (Int × Int))} (h:Mk σ te (IsL ps)) (k:MkA σ ta (TabA pss)):MkA σ (jej te ta) (TabA (ps::pss)):=fun H R q=>h H _ fun v H1 s1 hv=>k H1 _ fun ws H2 s2 hs=>q _ _ (s1.trans s2) ⟨v,ws,rfl,hv.keep s2,hs⟩
theorem jiY {pss:List (List (Int × Int))} (k:MkA σ ta (TabA pss)) (hl:pss.length<1000):Mk σ (jkm ta) (fun v H=>∃(l:Addr) (vs:List V),v=.ref l/\H l=some (.lst vs)/\TabA pss vs H):=fun H R q=>k H _ fun vs H1 s1 hs =>
 ⟨xa2 (jaF (by rw[hs.len];exact hl)),fun p hp=>q _ _ (s1.trans (Same.new hp _)) ⟨p,vs,rfl,jag,hs.keep (Same.new hp _)⟩⟩
theorem jgc {ta tb:TE} {b:Int} (ha:MkI σ ta a) (hb:MkI σ tb b):Mk σ (jlq (jej ta (jej tb jjq))) (IsP (a,b)):=fun H R q =>
 ha _ _ (hb _ _ ⟨xa2 (jaF (show 2<1000 by decide)),fun p hp=>q _ _ (Same.new hp _) ⟨p,rfl,jag⟩⟩)
section
variable {α β:Type} {R R':α->β->Prop}
inductive All2 {α β:Type} (R:α->β->Prop):List α->List β->Prop
 | nil:All2 R [] []
 | cons {a:α} {b:β} {as:List α} {bs:List β} (h:R a b) (t:All2 R as bs):All2 R (a::as) (b::bs)
theorem All2.len {as:List α} {bs:List β} (h:All2 R as bs):as.length=bs.length:=by
 induction h with
 | nil=>rfl
 | cons _ _ ih=>rw[xaq,xaq,ih]
theorem All2.mono {as:List α} {bs:List β} (h:All2 R as bs) (f:∀a b,R a b->R' a b):All2 R' as bs:=by
 induction h with
 | nil=>exact .nil
 | cons h _ ih=>exact .cons (f _ _ h) ih
theorem All2.app {as as':List α} {bs bs':List β} (h:All2 R as bs) (h':All2 R as' bs'):All2 R (as++as') (bs++bs'):=by
 induction h with
 | nil=>exact h'
 | cons h _ ih=>exact .cons h ih
theorem All2.get {as:List α} {bs:List β} (h:All2 R as bs):∀{i:Nat} {b:β},bs[i]?=some b->∃a,as[i]?=some a/\R a b:=by
  induction h with
  | nil=>intro i b e;cases e
  | cons h _ ih =>
    intro i b e;cases i with
    | zero=>cases e;exact⟨_,rfl,h⟩
    | succ i=>exact ih e
theorem All2.getA {as:List α} {bs:List β} (h:All2 R as bs):∀{i:Nat} {a:α},as[i]?=some a->∃b,bs[i]?=some b/\R a b:=by
  induction h with
  | nil=>intro i b e;cases e
  | cons h _ ih =>
    intro i b e;cases i with
    | zero=>cases e;exact⟨_,rfl,h⟩
    | succ i=>exact ih e
end
theorem jme (h:j<n):ixN n (j:Int)=some j:=by
 unfold ixN;rw[if_pos (by omega),if_pos (by omega)];simp
def Sta (H:Hp) (L:Addr):Prop:=∃a b:Int,H L=some (.lst [.int a,.int b])/\0<=b/\b<2147483647
theorem Sta.keep (h:Sta H L) (s:Same H H'):Sta H' L:=by
 obtain⟨a,b,h1,h2⟩:=h;exact⟨a,b,s _ _ h1,h2⟩
theorem Sta.ne {b:Addr} (h:Sta H L) (n:H b=none):b≠L:=fun e=>by
 obtain⟨_,_,h1,_⟩:=h;rw[e,h1] at n;cases n
theorem Sta.tup {b:Addr} (h:Sta H L) (n:H b=some (.tup xs)):b≠L:=fun e=>by
 obtain⟨_,_,h1,_⟩:=h;rw[e,h1] at n;cases n
theorem Sta.t (h:Sta H L) (s:SameB L H H'):SameT H H':=fun b xs hb=>s b _ (h.tup hb) hb
def spNx:Sp:=fun vs H Q _=>∃(L:Addr) (n:Int),vs=[.ref L,.int n]/\Sta H L/\0<n/\n<2^60/\∀(H':Hp) (d:Int),SameB L H H'->Sta H' L->0<=d->d<n->Q (.int d) H'
theorem ok_nx (T:Tx K mg t1 t2) (F:At K mg "_law_next" jcX ["state","many"] []):jan P w K mg base CX0 1 "_law_next" ["state","many"] [] spNx:=by
 refine F.ok jdA (fun vs H Q E h=>?_) (fun f cdv A outer s H vs Q E hr h=>?_)
 ·obtain⟨L,n,rfl,_⟩:=h;rfl
 obtain⟨L,n,rfl,⟨a,b,hL,b0,b1⟩,n0,n60,q⟩:=h;have S:=jdA;refine⟨_,(jad (jaW (jau jfY (jaj ix_list (pv 0) jab) jab (jax _))
  (jad (jat (i:=2) S.nd rfl (Or.inl rfl) (jap jbI (jaj ix_list (pv 0) jab) (pv 1)))
  (jad (jc0 (jap jeO (jaj ix_list (pv 0) jab) (pv 1)) (jhD (pv 0) jab jeH))
  (jai (jas (pv 2)))))
  jaz)
  (jad (jc0 (jap jbI (jap jbl (jap jar (jaj ix_list (pv 0) jab) jab) jab) jab) (jhD (pv 0) jab jeH))
  (jai (jas (jap jbI (jap jeO (jap jbI (jap jar (jaj ix_list (pv 0) jab) (jaj ix_list (pv 0) jab)) jab) jab) (pv 1)))))),?_⟩
 have k1:SqL K H L [.int a,.int b]:=SqL.of hL;have fn:Fit n:=Bd.fit (n:=61) (by unfold Bd;omega);have fb:Fit b:=Bd.fit (n:=61) (by unfold Bd;omega);have fm:Fit (69621:Int):=Bd.fit (n:=61) (by unfold Bd;omega);have fp:Fit (2147483629:Int):=Bd.fit (n:=61) (by unfold Bd;omega);walk_at "rf";walk_at "gf";refine jb2 (fun c=>?_) fun c=>?_
 ·refine ixL k1 rfl ⟨a,rfl,n0,ixL k1 rfl ⟨a,rfl,n0,fn,?_⟩⟩;unfold gSub;walk_at "rf";exact⟨L,_,0,0,rfl,rfl,hL,rfl,q _ _ SameB.set ⟨a / n,b,jag,b0,b1⟩ (xbb _ (by omega)) (xaY _ n0)⟩
 ·refine ixL k1 rfl ⟨b,rfl,fb,fm,by decide,?_⟩;have g0:=xbb (b*69621+40692) (show (2147483647:Int)≠0 by decide);have g1:=xaY (b*69621+40692) (show (0:Int)<2147483647 by decide);unfold gSub;walk_at "rf";refine⟨L,_,1,1,rfl,rfl,hL,rfl,?_⟩;generalize (b*69621+40692) % 2147483647=b' at g0 g1;have e1:upd H L (.lst ([V.int a,V.int b].set 1 (V.int b'))) L=some (.lst [.int a,.int b']):=jag;have sB:SameB L H (upd H L (.lst ([V.int a,V.int b].set 1 (V.int b')))):=SameB.set;generalize upd H L (.lst ([V.int a,V.int b].set 1 (V.int b')))=H1 at e1 sB;have k2:SqL K H1 L [.int a,.int b']:=SqL.of e1;have fb':Fit b':=Bd.fit (n:=61) (by unfold Bd;omega);have f8:Fit (8:Int):=Bd.fit (n:=61) (by unfold Bd;omega);exact ixL k2 rfl (ixL k2 rfl ⟨b',rfl,b',rfl,fb',fb',by decide,by decide,f8,n0,q _ _ sB ⟨a,b',e1,g0,g1⟩ (xbb _ (by omega)) (xaY _ n0)⟩)
def jnV:Sp:=fun vs H Q _=>∃c:Int,vs=[.int c]/\∀(L:Addr) (H':Hp),H L=none->Same H H'->Sta H' L->Q (.ref L) H'
theorem jnW (T:Tx K mg t1 t2) (F:At K mg "_law_state" jcm ["cell"] []):jan P w K mg base CX0 1 "_law_state" ["cell"] [] jnV:=by
 refine F.ok jc8 (fun vs H Q E h=>?_) (fun f cdv A outer s H vs Q E hr h=>?_)
 ·obtain⟨c,rfl,_⟩:=h;rfl
 obtain⟨c,rfl,q⟩:=h;have S:=jc8;refine⟨_,(jad (jat (i:=1) S.nd rfl (Or.inl rfl) jab)
  (jad (jaW (jau jjp (pv 0) (jap jgk jab jab) (jax _))
  (jai (jat (i:=1) S.nd rfl (Or.inl rfl) (pv 0)))
  jaz)
  (jai (jas (jbk (jaa (pv 1) (jaa (jap jbI (jap jar (jap jbl (jap jbI (pv 0) jab) jab) jab) jab) jac jbb) jaf)))))),?_⟩
 have e18:(10:Int)^Int.toNat 18=1000000000000000000:=by decide
 walk_at "rf";have m0:=xbb c (show (2147483629:Int)≠0 by decide);have m1:=xaY c (show (0:Int)<2147483629 by decide);have f1:Fit (c % 2147483629+11):=Bd.fit (n:=61) (by unfold Bd;omega);have f2:Fit (48271:Int):=Bd.fit (n:=61) (by unfold Bd;omega);have g0:=xbb ((c % 2147483629+11)*48271) (show (2147483647:Int)≠0 by decide);have g1:=xaY ((c % 2147483629+11)*48271) (show (0:Int)<2147483647 by decide);refine⟨⟨by decide,by decide,by decide⟩,jb2 (fun _=>?_) fun _=>?_⟩<;>exact⟨by decide,f1,f2,by decide,by decide,fun p hp=>q p _ hp (Same.new hp _) ⟨_,_,jag,g0,g1⟩⟩
def jk2 (K:PySem.W.Frag):Sp:=fun vs H Q _=>∃(a:Addr) (ns:List Int) (k:Nat),vs=[.ref a,.int (k:Nat)]/\SqL K H a (ns.map V.int)/\ns.length<=63/\k<64/\∀(i:Int) (H':Hp),Same H H'->Q (.int i) H'
theorem jmf (T:Tx K mg t1 t2) (F:At K mg "_law_cell_at" jbQ ["script","k"] []):jan P w K mg base CX0 1 "_law_cell_at" ["script","k"] [] (jk2 K):=by
 refine F.ok jcr (fun vs H Q E h=>?_) (fun f cdv A outer s H vs Q E hr h=>?_)
 ·obtain⟨a,ns,k,rfl,_⟩:=h;rfl
 obtain⟨a,ns,k,rfl,k1,n63,k64,q⟩:=h;have S:=jcr;refine⟨_,(jad (jaW (jau jfk (pv 1) (jaw jaH rfl T.m_len PySem.boot_len (jaa (pv 0) jac jaf)) (jax _))
  (jai (jas (jaj ix_list (pv 0) (pv 1))))
  jaz)
  (jad (jat (i:=2) S.nd rfl (Or.inl rfl) jab)
  (jad (jaW (jau (jgo (jju hr)) (pv 0) (jbk jac) (jax _))
  (jai (jat (i:=2) S.nd rfl (Or.inl rfl) (jap jbI (jaj ix_list (pv 0) (jap jbI (pv 1) (jaw jaH rfl T.m_len PySem.boot_len (jaa (pv 0) jac jaf)))) jab)))
  jaz)
  (jai (jas (jap jbl (jap jbl (pv 2) (jap jar jab (pv 1))) jab)))))),?_⟩
 have ln:(ns.map V.int).length=ns.length:=xaa _;walk_at "rf";walk_at "gf";have fk:Fit (k:Int):=Bd.fit (n:=61) (by unfold Bd;omega);have fc:Fit (104729:Int):=Bd.fit (n:=61) (by unfold Bd;omega);refine jb2 (fun c=>?_) fun c=>?_
 ·rw[ln] at c;have hk:k<ns.length:=by omega
  exact ixL k1 (v:=.int ns[k]) (jaJ (by rw[xal,xac hk];rfl)) (q _ _ (Same.refl _))
 ·refine⟨by decide,fun p hp=>?_⟩;refine jeh hp fun H1 s1 e1=>?_;have k2:=s1.seq k1;refine jjy (x:=ns) (y:=[]) k2 (SqL.of e1) ⟨_,rfl,?_⟩;refine jb2 (fun c1=>?_) fun c1=>⟨fc,fk,q _ _ s1⟩;have n0:0<ns.length:=by
   cases ns with
   | nil=>exact absurd c1 (by decide)
   | cons _ _=>exact Nat.succ_pos _
  refine⟨_,.inl k2,by rw[ln];omega,?_⟩;rw[ln];have hm:k % ns.length<ns.length:=xaC _ n0;have em:(k:Int) % (ns.length:Int)=((k % ns.length:Nat):Int):=(Int.natCast_emod ..).symm;rw[em];exact ixL k2 (v:=.int ns[k % ns.length]) (jaJ (by rw[xal,xac hm];rfl)) ⟨_,rfl,by decide,fc,fk,q _ _ s1⟩
def jk3 (K:PySem.W.Frag):Sp:=fun vs H Q _=>∃(a:Addr) (ns:List Int) (m:Nat),vs=[.ref a,.int (m:Nat)]/\SqL K H a (ns.map V.int)/\ns.length<=63/\1<=m/\m<64/\∀(l:Addr) (H':Hp) (cs:List Int),H l=none->Same H H'->H' l=some (.lst (cs.map V.int))->cs.length=m->Q (.ref l) H'
theorem jmg (T:Tx K mg t1 t2) (F:At K mg "_law_folded" jbp ["script","many"] []) (dU:jan P w K mg base CX0 1 "_law_cell_at" ["script","k"] [] (jk2 K)):jan P w K mg base CX0 2 "_law_folded" ["script","many"] [] (jk3 K):=by
 refine F.ok jcM (fun vs H Q E h=>?_) (fun f cdv A outer s H vs Q E hr h=>?_)
 ·obtain⟨a,ns,m,rfl,_⟩:=h;rfl
 obtain⟨a,ns,m,rfl,k1,n63,m1,m64,q⟩:=h;have S:=jcM;refine⟨_,(jad (jbr (i:=2) rfl S.nd rfl rfl (N':=["k","script"]) (ix:=[0]) ⟨rfl,rfl,by decide +kernel,by decide +kernel,by decide +kernel,(show ∀y:Str × NameKind,y∈_->y.2=NameKind.free->(jae jbp).names.lookup y.1=some .cell\/(jae jbp).names.lookup y.1=some .free from by decide +kernel),(.cons rfl (.inl rfl) rfl .nil)⟩ (jaN rfl T.m_range (jaa (pv 1) jac jaf)) (fun _ _ _ _=>jao (i:=0) (show (["k","script"]:List Str).Nodup from by decide +kernel) rfl (Or.inl rfl)) (fun _ _ _ _=>ja0) (fun _ _ _ _=>(jah dU hr.m rfl jav (jaa (pv 1) (jaa (pv 0) jac jaf) jaf))))
  (jad (jbx PassesOwn.never rfl (jdN rfl T.m_range (jaa (pv 1) (jaa (jaw jaH rfl T.m_len PySem.boot_len (jaa (pv 0) jac jaf)) jac jaI) jaf)) (jao (i:=3) S.nd rfl (Or.inl rfl))
  (jad (jat (i:=4) S.nd rfl (Or.inl rfl) (jap jbI (pv 3) (pv 1)))
  (jai (jc0 (jap jbI (jap jbl (jap jar (jap jbI (jaj ix_list (pv 2) (pv 4)) (jap jgk jab jab)) jab) (jaj ix_list (pv 0) (pv 3))) (jap jbl (jap jgk jab jab) jab)) (jhD (pv 2) (pv 4) jeH)))))
  (jai (jas (pv 2))))),?_⟩
 have ln:(ns.map V.int).length=ns.length:=xaa _;walk_at "rf";refine⟨by omega,by omega,fun acc hacc=>?_⟩;rw[xcg];refine jm7 (fun _ y=>∃d:Int,y=.int d) (by omega) hacc (fun i H3 R hi s3 hR=>?_) fun ys H1 s1 e1 l1 p1=>?_
 ·walk_at "rf";exact⟨a,ns,i,by rw[xb2],s3.seq k1,n63,by omega,fun d H4 s4=>hR _ _ s4 ⟨d,rfl⟩⟩
 obtain⟨cs,rfl⟩:=jij p1;rw[xaa] at l1;have k2:=s1.seq k1;refine⟨_,.inl k2,by omega,by omega,by rw[ln];omega,by rw[ln];omega,?_⟩;rw[ln];refine jbt (lo:=(m:Int)) (fun i σ Hh=>∃(ds:List Int) (o3 o4:Option V),σ=[some (.ref a),some (.int (m:Nat)),some (.ref acc),o3,o4]/\Same H Hh/\Hh acc=some (.lst (ds.map V.int))/\ds.length=m) ⟨cs,_,_,rfl,s1,e1,l1⟩ ?_ ?_
 ·rintro i σ Hh hi ⟨ds,o3,o4,rfl,sB,e2,l2⟩;have k3:SqL K Hh a (ns.map V.int):=sB.seq k1;have g0:=xbb ((m:Int)+i) (show (m:Int)≠0 by omega);have g1:=xaY ((m:Int)+i) (show (0:Int)<m by omega);obtain⟨j,ej⟩:=Int.eq_ofNat_of_zero_le g0;have hj:j<ds.length:=by omega
  have hk:m+i<ns.length:=by omega
  walk_at "rf";rw[ej];have p0:(0:Int)<10^Int.toNat 60:=by decide +kernel
  have p1:(10:Int)^Int.toNat 60<2^200:=by decide +kernel
  refine⟨by omega,ixL (SqL.of e2) (v:=.int ds[j]) (jaJ (by rw[xal,xac hj];rfl)) ?_⟩;have d0:=xbb ds[j] (show (10:Int)^Int.toNat 60≠0 by omega);have d1:=xaY ds[j] p0;refine⟨⟨by decide,by decide,by decide⟩,_,rfl,p0,Bd.fit (n:=200) (by unfold Bd;omega),Bd.fit (n:=61) (by unfold Bd;omega),ixL k3 (v:=.int ns[m+i]) (by rw[show (m:Int)+i=((m+i:Nat):Int) by omega];exact jaJ (by rw[xal,xac hk];rfl)) ⟨_,rfl,⟨by decide,by decide,by decide⟩,by omega,?_⟩⟩;unfold gSub;walk_at "rf";refine⟨acc,_,(j:Int),j,rfl,rfl,e2,jme (by rw[xaa];exact hj),Same.keepN sB hacc _,ds.set j ((ds[j] % 10^Int.toNat 60*48271+ns[m+i]) % (10^Int.toNat 60+7)),?_,by rw[List.length_set];exact l2⟩;rw[jag,List.map_set]
 ·rintro σ Hh ⟨ds,o3,o4,rfl,sB,e2,l2⟩;exact⟨_,rfl,q acc _ ds hacc sB e2 l2⟩
def Lt3 (K:PySem.W.Frag) (H:Hp) (a:Addr) (u:Tri):Prop:=SqL K H a [.int u.x,.int u.y,.int u.z]\/SqT K H a [.int u.x,.int u.y,.int u.z]
def upr (u v:Tri):Tri:=⟨u.y*v.z-u.z*v.y,u.z*v.x-u.x*v.z,u.x*v.y-u.y*v.x⟩
def jmh (K:PySem.W.Frag):Sp:=fun vs H Q _=>∃(a b:Addr) (u v:Tri),vs=[.ref a,.ref b]/\Lt3 K H a u/\Lt3 K H b v/\u.bd 900/\v.bd 900/\∀(g:Addr) (H':Hp),H g=none->Same H H'->H' g=some (.tup [.int (upr u v).x,.int (upr u v).y,.int (upr u v).z])->Q (.ref g) H'
theorem jnX (T:Tx K mg t1 t2) (F:At K mg "_law_upright" jbR ["one","other"] []):jan P w K mg base CX0 1 "_law_upright" ["one","other"] [] (jmh K):=by
 refine F.ok jcs (fun vs H Q E h=>?_) (fun f cdv A outer s H vs Q E hr h=>?_)
 ·obtain⟨a,b,u,v,rfl,_⟩:=h;rfl
 obtain⟨a,b,u,v,rfl,k1,k2,⟨u1,u2,u3⟩,⟨v1,v2,v3⟩,q⟩:=h;have S:=jcs;refine⟨_,(jai (jas (jaG (jaa (jap jaZ (jap jar (jaj (jcg (K:=K) rfl) (pv 0) jab) (jaj (jcg (K:=K) rfl) (pv 1) jab)) (jap jar (jaj (jcg (K:=K) rfl) (pv 0) jab) (jaj (jcg (K:=K) rfl) (pv 1) jab))) (jaa (jap jaZ (jap jar (jaj (jcg (K:=K) rfl) (pv 0) jab) (jaj (jcg (K:=K) rfl) (pv 1) jab)) (jap jar (jaj (jcg (K:=K) rfl) (pv 0) jab) (jaj (jcg (K:=K) rfl) (pv 1) jab))) (jaa (jap jaZ (jap jar (jaj (jcg (K:=K) rfl) (pv 0) jab) (jaj (jcg (K:=K) rfl) (pv 1) jab)) (jap jar (jaj (jcg (K:=K) rfl) (pv 0) jab) (jaj (jcg (K:=K) rfl) (pv 1) jab))) jac jbb) jbb) jbb)))),?_⟩;have f1:Fit u.x:=u1.fit;have f2:Fit u.y:=u2.fit;have f3:Fit u.z:=u3.fit;have g1:Fit v.x:=v1.fit;have g2:Fit v.y:=v2.fit;have g3:Fit v.z:=v3.fit;have i0:∀w:Tri,atI [V.int w.x,V.int w.y,V.int w.z] 0=some (V.int w.x):=fun _=>rfl;have i1:∀w:Tri,atI [V.int w.x,V.int w.y,V.int w.z] 1=some (V.int w.y):=fun _=>rfl;have i2:∀w:Tri,atI [V.int w.x,V.int w.y,V.int w.z] 2=some (V.int w.z):=fun _=>rfl;unfold Lt3 at k1 k2;walk_at "rf";exact jgJ k1 (i1 u) (jgJ k2 (i2 v) ⟨_,rfl,_,rfl,f2,g3,jgJ k1 (i2 u) (jgJ k2 (i1 v) ⟨_,rfl,_,rfl,f3,g2,jgJ k1 (i2 u) (jgJ k2 (i0 v) ⟨_,rfl,_,rfl,f3,g1,jgJ k1 (i0 u) (jgJ k2 (i2 v) ⟨_,rfl,_,rfl,f1,g3,jgJ k1 (i0 u) (jgJ k2 (i1 v) ⟨_,rfl,_,rfl,f1,g2,jgJ k1 (i1 u) (jgJ k2 (i0 v) ⟨_,rfl,_,rfl,f2,g1,by decide,fun p hp=>q p _ hp (Same.new hp _) jag⟩)⟩)⟩)⟩)⟩)⟩)
theorem jnY {P:Int->Prop} (l:ys.length=3) (h:∀y∈ys,∃d:Int,y=.int d/\P d):∃a b c:Int,ys=[.int a,.int b,.int c]/\P a/\P b/\P c:=by
  match ys,l with
  | [x, y, z], _ =>
    obtain⟨a,rfl,ha⟩:=h x (by simp);obtain⟨b,rfl,hb⟩:=h y (by simp);obtain⟨c,rfl,hc⟩:=h z (by simp);exact⟨a,b,c,rfl,ha,hb,hc⟩
theorem jnZ {acc:Addr} {ρ:L2.St} {Z:Hp->Prop} {lo:Int} (p:V->Prop) (hn:n<1000) (hacc:H1 acc=none) (b0:Sta H1 L)
  (hs:∀(i:Nat) (H3:Hp) (R:V->Hp->Prop),i<n->SameB L H1 H3->Sta H3 L->(∀y H4,SameB L H3 H4->Sta H4 L->p y->R y H4)->te (some (.int (lo+i))::ρ) H3 R)
  (hd:∀ys H',SameB L H1 H'->Sta H' L->H' acc=some (.lst ys)->ys.length=n->(∀y∈ys,p y)->Z H'):CompGo (Itr lo n) ρ (jbM 0) jc3 te acc Z H1:=by
 have ne:=b0.ne hacc;have up:∀{H:Hp} {xs:List V},Sta H L->Sta (upd H acc (.lst xs)) L:=fun {H xs} ⟨a,b,h1,h2⟩=>⟨a,b,by rw[jaK (Ne.symm ne)];exact h1,h2⟩;refine jcG (fun i xs H=>SameB L H1 H/\Sta H L/\H acc=some (.lst xs)/\xs.length=i/\∀y∈xs,p y) ⟨(Same.new hacc _).b,up b0,jag,rfl,fun y h=>nomatch h⟩ ?_ ?_
 ·rintro i xs H hi ⟨g1,gb,g2,hl,hp⟩;refine hs i H _ hi g1 gb fun y H4 s4 b4 py=>⟨s4 _ _ ne g2,jaF (by omega),SameB.acc (g1.trans s4) hacc,up b4,jag,?_,fun z hz=>?_⟩
  ·rw[xad,hl];rfl
  ·rcases xaO.mp hz with hz | hz
   ·exact hp z hz
   ·rw[xas.mp hz];exact py
 ·rintro xs H ⟨g1,gb,g2,hl,hp⟩;exact hd xs H g1 gb g2 hl hp
def jn0:Sp:=fun vs H Q _=>∃(L:Addr) (n:Int),vs=[.ref L,.int n]/\Sta H L/\0<=n/\n<=1000001/\∀(t:Addr) (H':Hp) (v:Tri),H t=none->SameB L H H'->Sta H' L->H' t=some (.tup [.int v.x,.int v.y,.int v.z])->(v.x.natAbs<=n.natAbs/\v.y.natAbs<=n.natAbs/\v.z.natAbs<=n.natAbs)->Q (.ref t) H'
theorem jn1 (T:Tx K mg t1 t2) (F:At K mg "_law_arrow" jbv ["state","span"] []) (db:jan P w K mg base CX0 1 "_law_next" ["state","many"] [] spNx):jan P w K mg base CX0 2 "_law_arrow" ["state","span"] [] jn0:=by
 refine F.ok jc9 (fun vs H Q E h=>?_) (fun f cdv A outer s H vs Q E hr h=>?_)
 ·obtain⟨L,n,rfl,_⟩:=h;rfl
 obtain⟨L,n,rfl,hL,n0,n1,q⟩:=h;have S:=jc9;refine⟨_,(jai (jas (jaS jb3 rfl T.m_tuple boot_tuple (jaa (ja1 rfl (N':=["k","state","span"]) (ix:=[0,1]) ⟨rfl,rfl,by decide +kernel,by decide +kernel,by decide +kernel,(show ∀y:Str × NameKind,y∈_->y.2=NameKind.free->(jae jbv).names.lookup y.1=some .cell\/(jae jbv).names.lookup y.1=some .free from by decide +kernel),(.cons rfl (.inl rfl) rfl (.cons rfl (.inl rfl) rfl .nil))⟩ (jaN rfl T.m_range (jaa jab jac jam)) (fun _ _ _ _=>jao (i:=0) (show (["k","state","span"]:List Str).Nodup from by decide +kernel) rfl (Or.inl rfl)) (fun _ _ _ _=>ja0) (fun _ _ _ _=>(jap jaZ (jah db hr.m rfl jav (jaa (pv 1) (jaa (jap jbl (jap jar jab (pv 2)) jab) jac jbb) jaf)) (pv 2)))) jac jcd)))),?_⟩;walk_at "rf";refine⟨by decide,by decide,fun acc hacc=>jnZ (L:=L) (n:=3) (fun y=>∃d:Int,y=.int d/\d.natAbs<=n.natAbs) (by decide) hacc hL (fun i H3 R hi s3 b3 hR=>?_) fun ys H1 s1 b1 e1 l1 p1=>?_⟩
 ·walk_at "rf";refine⟨.o (by decide) (by decide),.o (by omega) (by omega),L,_,rfl,b3,by omega,by omega,fun H4 d s4 b4 d0 d1=>⟨_,rfl,hR _ _ s4 b4 ⟨_,rfl,by omega⟩⟩⟩
 obtain⟨x,y,z,rfl,hx,hy,hz⟩:=jnY l1 p1;exact⟨_,SqL.of e1,fun l hl=>q l _ ⟨x,y,z⟩ (s1.none (b1.ne hl) hl) (s1.trans (Same.new hl _).b) (b1.keep (Same.new hl _)) jag ⟨hx,hy,hz⟩⟩
structure RawB (n:Nat) (Z:Sht):Prop where
 w1:1<=Z.w
 w3:Z.w<=3
 sx:Z.s.x.natAbs<=2097152+n*8388608
 sy:Z.s.y.natAbs<=2097152+n*8388608
 sz:Z.s.z.natAbs<=2097152+n*8388608
 c:Z.c.x.natAbs<=1000000/\Z.c.y.natAbs<=1000000/\Z.c.z.natAbs<=1000000
 d:Z.d.x.natAbs<=1000000/\Z.d.y.natAbs<=1000000/\Z.d.z.natAbs<=1000000
theorem jk4 (h:v.x.natAbs<=1000000/\v.y.natAbs<=1000000/\v.z.natAbs<=1000000) (l:20<=n):v.bd n :=
 ⟨Bd.mono (n:=20) (by unfold Bd;omega) l,Bd.mono (n:=20) (by unfold Bd;omega) l,Bd.mono (n:=20) (by unfold Bd;omega) l⟩
structure RawOk (n:Nat) (Z:Sht):Prop where
 b:RawB n Z
 nz:Z.u.nz
theorem RawB.mono {m:Nat} (h:RawB n Z) (l:n<=m):RawB m Z :=
 ⟨h.w1,h.w3,xaA h.sx (by omega),xaA h.sy (by omega),xaA h.sz (by omega),h.c,h.d⟩
theorem RawOk.mono {m:Nat} (h:RawOk n Z) (l:n<=m):RawOk m Z:=⟨h.b.mono l,h.nz⟩
def Bas (H:Hp) (b c d:Addr) (Z:Sht):Prop:=H b=some (.tup [.int Z.s.x,.int Z.s.y,.int Z.s.z,.int Z.w])/\H c=some (.tup [.int Z.c.x,.int Z.c.y,.int Z.c.z])/\H d=some (.tup [.int Z.d.x,.int Z.d.y,.int Z.d.z])
theorem Bas.keep {b c d:Addr} (h:Bas H b c d Z) (s:SameT H H'):Bas H' b c d Z:=⟨s _ _ h.1,s _ _ h.2.1,s _ _ h.2.2⟩
def rM1 (H:Hp) (L M:Addr):L2.St->Hp->Prop:=fun σ H'=>∃way:Int,σ=[some (.ref L),some (.ref M),some (.int way),none,none,none,none,none,none,none]/\0<=way/\way<8/\SameB L H H'/\Sta H' L
def rM2 (H:Hp) (L M:Addr):L2.St->Hp->Prop:=fun σ H'=>∃way sp:Int,σ=[some (.ref L),some (.ref M),some (.int way),some (.int sp),none,none,none,none,none,none]/\0<=way/\way<8/\3<=sp/\sp<=1000000/\SameB L H H'/\Sta H' L
def rM3 (H:Hp) (L M:Addr):L2.St->Hp->Prop:=fun σ H'=>∃(way sp w:Int) (b:Addr) (v:Tri),σ=[some (.ref L),some (.ref M),some (.int way),some (.int sp),some (.ref b),none,none,none,none,none]/\0<=way/\way<8/\3<=sp/\sp<=1000000/\H' b=some (.tup [.int v.x,.int v.y,.int v.z,.int w])/\1<=w/\w<=3/\v.x.natAbs<=1000001/\v.y.natAbs<=1000001/\v.z.natAbs<=1000001/\SameB L H H'/\Sta H' L
def rM5 (H:Hp) (L M:Addr):L2.St->Hp->Prop:=fun σ H'=>∃(way:Int) (b c d:Addr) (Z:Sht) (o3:Option V),σ=[some (.ref L),some (.ref M),some (.int way),o3,some (.ref b),some (.ref c),some (.ref d),none,none,none]/\0<=way/\way<8/\Bas H' b c d Z/\RawB 0 Z/\SameB L H H'/\Sta H' L
def rM6 (H:Hp) (L M:Addr):L2.St->Hp->Prop:=fun σ H'=>∃(way:Int) (b c d:Addr) (Z:Sht) (o3:Option V),σ=[some (.ref L),some (.ref M),some (.int way),o3,some (.ref b),some (.ref c),some (.ref d),none,none,none]/\0<=way/\way<8/\Bas H' b c d Z/\RawOk 0 Z/\SameB L H H'/\Sta H' L
def rM7 (H:Hp) (L M:Addr) (n:Nat):L2.St->Hp->Prop:=fun σ H'=>∃(b c d:Addr) (Z:Sht) (o2 o3 o7 o8 o9:Option V),σ=[some (.ref L),some (.ref M),o2,o3,some (.ref b),some (.ref c),some (.ref d),o7,o8,o9]/\Bas H' b c d Z/\RawOk (n+1) Z/\SameB L H H'/\Sta H' L
def RawAt (H:Hp) (t:Addr) (Z:Sht) (sh:Nat):Prop:=∃b c d:Addr,H t=some (.tup [.ref b,.ref c,.ref d,.int (sh:Nat)])/\H b=some (.tup [.int Z.s.x,.int Z.s.y,.int Z.s.z,.int Z.w])/\H c=some (.tup [.int Z.c.x,.int Z.c.y,.int Z.c.z])/\H d=some (.tup [.int Z.d.x,.int Z.d.y,.int Z.d.z])/\sh<6
theorem RawAt.keep {t:Addr} {sh:Nat} (h:RawAt H t Z sh) (s:SameT H H'):RawAt H' t Z sh:=by
 obtain⟨b,c,d,h1,h2,h3,h4,h5⟩:=h;exact⟨b,c,d,s _ _ h1,s _ _ h2,s _ _ h3,s _ _ h4,h5⟩
def RwAt (n:Nat) (H:Hp) (t:Addr) (z:Sht × Nat):Prop:=RawAt H t z.1 z.2/\RawOk n z.1
theorem RwAt.keep {t:Addr} {z:Sht × Nat} (h:RwAt n H t z) (s:SameT H H'):RwAt n H' t z:=⟨h.1.keep s,h.2⟩
theorem RwAt.rds {t:Addr} {z:Sht × Nat} (h:RwAt n H t z):Rds K H (.ref t) (.tuple [.tuple [.int z.1.s.x,.int z.1.s.y,.int z.1.s.z,.int z.1.w],.tuple [.int z.1.c.x,.int z.1.c.y,.int z.1.c.z],.tuple [.int z.1.d.x,.int z.1.d.y,.int z.1.d.z],.int (z.2:Nat)]):=by
 obtain⟨⟨b,c,d,h1,h2,h3,h4,_⟩,_⟩:=h;exact .tup (SqT.of h1) (.cons (.tup (SqT.of h2) (RdsAll.ints [_,_,_,_])) (.cons (.tup (SqT.of h3) (RdsAll.ints [_,_,_])) (.cons (.tup (SqT.of h4) (RdsAll.ints [_,_,_])) (.cons (.int _) .nil))))
def rwD (z:Sht × Nat):PyData:=.tuple [.tuple [.int z.1.s.x,.int z.1.s.y,.int z.1.s.z,.int z.1.w],.tuple [.int z.1.c.x,.int z.1.c.y,.int z.1.c.z],.tuple [.int z.1.d.x,.int z.1.d.y,.int z.1.d.z],.int (z.2:Nat)]
theorem jkd {rs:List Addr} {zs:List (Sht × Nat)} (h:All2 (RwAt n H) rs zs):RdsAll K H (rs.map V.ref) (zs.map rwD):=by
 induction h with
 | nil=>exact .nil
 | cons h _ ih=>exact .cons h.rds ih
theorem jmi (zs:List (Sht × Nat)):PyData.canLayAll0 (zs.map rwD)=true/\PyData.depthAll (zs.map rwD)<=2:=by
  induction zs with
  | nil=>exact⟨rfl,by decide⟩
  | cons z zs ih =>
    obtain⟨a,b⟩:=ih;refine⟨?_,?_⟩
    . rw[xaw]
      simp [PyData.canLayAll0,a,rwD,PyData.canLay0]
    . rw[xaw]
      simp [PyData.depthAll,rwD,PyData.depth];omega
theorem jn2 (zs:List (Sht × Nat)):SeqAt.shaped (.list (zs.map rwD))=true:=by
 obtain⟨a,b⟩:=jmi zs;unfold SeqAt.shaped;simp [PyData.canLay0,a,PyData.depth];omega
theorem jgX {M p:Addr} {rs:List Addr} {zs:List (Sht × Nat)} (hM:H M=some (.lst (rs.map V.ref))) (h:All2 (RwAt n H) rs zs) (hp:H p=some (.lst [])) (q:Q (.bl (!decide (rs=[]))) H):jks K true (.ref M) (.ref p) H Q:=by
 refine⟨_,.list [],.lst (SqL.of hM) (jkd h),.lst (SqL.of hp) .nil,jn2 zs,by decide,?_⟩;have e:PyData.eqv (.list (zs.map rwD)) (.list [])=decide (rs=[]):=by
  cases h with
  | nil=>rfl
  | cons _ _=>rfl
 rw[e];exact q
def jn3:Sp:=fun vs H Q _=>∃(L M:Addr) (n:Nat) (rs:List Addr) (zs:List (Sht × Nat)),vs=[.ref L,.ref M]/\Sta H L/\M≠L/\H M=some (.lst (rs.map V.ref))/\All2 (RwAt n H) rs zs/\n<=8/\rs.length<900/\∀(t:Addr) (H':Hp) (z:Sht × Nat),SameB L H H'->Sta H' L->RwAt (n+1) H' t z->Q (.ref t) H'
theorem jmj {X:Cx} {o:Operator} {r:R2} {a b:Expr} {ta tb:TE} {pos:Pos} (h:OpR X (binaryOp o) r) (ha:WE X a ta) (hb:WE X b tb):WE X (.BinOp a o b pos) (tOp r ta tb):=⟨jap h ha.h hb.h⟩
def cmp (v:Tri) (k:Nat):Int:=if k=0 then v.x else if k=1 then v.y else v.z
theorem cmp3 (v:Tri) (h:k<3):atI [V.int v.x,V.int v.y,V.int v.z] (0+(k:Int))=some (.int (cmp v k)):=by
 match k,h with
 | 0,_=>rfl
 | 1,_=>rfl
 | 2,_=>rfl
theorem jn4 (v:Tri) (u:Int) (h:k<3):atI [V.int v.x,V.int v.y,V.int v.z,V.int u] (0+(k:Int))=some (.int (cmp v k)):=by
 match k,h with
 | 0,_=>rfl
 | 1,_=>rfl
 | 2,_=>rfl
theorem jee (h:v.x.natAbs<=n/\v.y.natAbs<=n/\v.z.natAbs<=n) (k:Nat):(cmp v k).natAbs<=n:=by
 unfold cmp;split
 ·exact h.1
 ·split
  ·exact h.2.1
  ·exact h.2.2
theorem jmk {w:Int} (hx:x.natAbs<=2) (hc:c.natAbs<=1000000) (hw:w.natAbs<=3):(a+x*c*w).natAbs<=a.natAbs+6000000:=by
 have h1:=Nat.mul_le_mul hx hc;rw[<- xbZ] at h1;have h2:=Nat.mul_le_mul h1 hw;rw[<- xbZ] at h2;omega
theorem jfR {α β:Type} {R:α->β->Prop} {as:List α} {bs:List β} (h:All2 R as bs) (n:as≠[]):∃a b k,as.length=k+1/\as[k]?=some a/\R a b:=by
  cases e:as.length with
  | zero=>exact absurd (xbh.mp e) n
  | succ k =>
    have ha:as[k]?=some as[k]:=xac (by omega);obtain⟨b,_,r⟩:=h.getA ha;exact⟨_,b,k,rfl,ha,r⟩
theorem upr_u (Z:Sht):upr Z.c Z.d=Z.u:=rfl
theorem jn5 (T:Tx K mg t1 t2) (F:At K mg "_law_raw" jbW ["state","made"] []) (db:jan P w K mg base CX0 1 "_law_next" ["state","many"] [] spNx) (dG:jan P w K mg base CX0 2 "_law_arrow" ["state","span"] [] jn0) (dD:jan P w K mg base CX0 1 "_law_upright" ["one","other"] [] (jmh K)):jan P w K mg base CX0 3 "_law_raw" ["state","made"] [] jn3:=by
 refine F.okW jd7 (fun vs H Q E h=>?_) (fun f cdv A outer s H vs Q E hr h=>?_)
 ·obtain⟨L,M,n,rs,zs,rfl,_⟩:=h;rfl
 obtain⟨L,M,n,rs,zs,rfl,hL,nM,hM,hz,n8,l9,q⟩:=h;have S:=jd7;refine⟨_,(jjA ⟨(jat (i:=2) S.nd rfl (Or.inl rfl) (jah db hr.m rfl jav (jaa (pv 0) (jaa jab jac jam) jaf)))⟩
  (jcT (rM1 H L M) ⟨(jaW (PW.pt (jfi (jau jdO (pv 2) jab (jax _)) (jeF (jau (jgo (jju hr)) (pv 1) (jbk jac) (jax _)))))
  (jai (jas (jaj ix_list (pv 1) (jdE jcb jab))))
  jaz)⟩
  (jcT (rM2 H L M) (jfx (jm8 ix_list (jci (jak ⟨jab⟩ (jak ⟨jab⟩ (jak ⟨jab⟩ (jak ⟨(jap jgk jab jab)⟩ jaL jbb) jam) jam) jam)) (jah db hr.m rfl jav (jaa (pv 0) (jaa jab jac jam) jaf)) (fun _ _=>rfl)) (jao (i:=3) S.nd rfl (Or.inl rfl)))
  (jcT (rM3 H L M) (jfx (jmj jhS ⟨(jah dG hr.m rfl jav (jaa (pv 0) (jaa (jap jbl (pv 3) jab) jac jbb) jaf))⟩ (jaY (jak (jm8 ix_list (jci (jak ⟨jab⟩ (jak ⟨jab⟩ (jak ⟨jab⟩ (jak ⟨jab⟩ jaL jam) jam) jam) jam)) (jah db hr.m rfl jav (jaa (pv 0) (jaa jab jac jam) jaf)) (fun _ _=>rfl)) jaL jaq))) (jao (i:=4) S.nd rfl (Or.inr rfl)))
  ⟨(jad (jat (i:=5) S.nd rfl (Or.inr rfl) (jah dG hr.m rfl jav (jaa (pv 0) (jaa (pv 3) jac jaf) jaf)))
  (ja8 (rM5 H L M) (jat (i:=6) S.nd rfl (Or.inl rfl) (jah dG hr.m rfl jav (jaa (pv 0) (jaa (pv 3) jac jaf) jaf)))
  (ja8 (rM6 H L M) (jaW (jau (jfu (jju hr)) (jah dD hr.m rfl jav (jaa (pv 5) (jaa (pv 6) jac jaf) jaf)) (jaG (jaa jab (jaa jab (jaa jab jac jam) jam) jam)) (jax _))
  (jad (jat (i:=5) S.nd rfl (Or.inr rfl) (jaG (jaa jab (jaa jab (jaa (pv 2) jac jaf) jam) jam)))
  (jai (jat (i:=6) S.nd rfl (Or.inl rfl) (jaG (jaa jab (jaa jab (jaa jab jac jam) jam) jam)))))
  jaz)
  (ja8 (rM7 H L M n) (jaW (PW.pt (jfi (jau jdO (pv 2) jab (jax _)) (jeF (jau (jgo (jju hr)) (pv 1) (jbk jac) (jax _)))))
  (jad (jc0 (jaj ix_list (pv 1) (jdE jcb jab)) (jep rfl (jaC (jao (i:=4) S.nd rfl (Or.inr rfl)) (jaC (jao (i:=5) S.nd rfl (Or.inr rfl)) (jaC (jao (i:=6) S.nd rfl (Or.inl rfl)) (jaC (jao (i:=7) S.nd rfl (Or.inl rfl)) jbZ))))))
  (jad (jat (i:=8) S.nd rfl (Or.inr rfl) (jap jaZ (jah db hr.m rfl jav (jaa (pv 0) (jaa jab jac jam) jaf)) jab))
  (jad (jbr (i:=9) rfl S.nd rfl rfl (N':=["k","base","across","one"]) (ix:=[4,8,5]) ⟨rfl,rfl,by decide +kernel,by decide +kernel,by decide +kernel,(show ∀y:Str × NameKind,y∈_->y.2=NameKind.free->(jae jbW).names.lookup y.1=some .cell\/(jae jbW).names.lookup y.1=some .free from by decide +kernel),(.cons rfl (.inl rfl) rfl (.cons rfl (.inl rfl) rfl (.cons rfl (.inl rfl) rfl .nil)))⟩ (jaN rfl T.m_range (jaa jab jac jam)) (fun _ _ _ _=>jao (i:=0) (show (["k","base","across","one"]:List Str).Nodup from by decide +kernel) rfl (Or.inl rfl)) (fun _ _ _ _=>ja0) (fun _ _ _ _=>(jap jbl (jaj (jaR (K:=K) rfl) (pv 1) (pv 0)) (jap jar (jap jar (pv 2) (jaj (jaR (K:=K) rfl) (pv 3) (pv 0))) (jaj (jaR (K:=K) rfl) (pv 1) jab)))))
  (jai (jat (i:=4) S.nd rfl (Or.inr rfl) (jaS jb3 rfl T.m_tuple boot_tuple (jaa (jap jfq (pv 9) (jbk (jaa (jaj jal (pv 4) jab) jac jaq))) jac jbb)))))))
  jaz)
  (jai (jas (jaG (jaa (pv 4) (jaa (pv 5) (jaa (pv 6) (jaa (jah db hr.m rfl jav (jaa (pv 0) (jaa jab jac jam) jaf)) jac jaI) jaf) jaf) jaf))))))))⟩)))),?_⟩
 walk_at "rf";refine⟨L,8,rfl,hL,by decide,by decide,fun H1 way s1 b1 w0 w8=>?_⟩;have zk:∀{H':Hp},SameB L H H'->All2 (RwAt n H') rs zs:=fun s=>hz.mono fun _ _ h=>h.keep (hL.t s);refine⟨rfl,jb2 (fun _=>?_) fun _=>⟨way,rfl,w0,w8,s1,b1⟩,?_⟩
 ·refine⟨by decide,fun p hp=>?_⟩;have s2:=Same.new hp (.lst []);refine jgX (s2 _ _ (s1 _ _ nM hM)) (zk (s1.trans s2.b)) jag ⟨_,rfl,jb2 (fun c=>?_) fun _=>⟨way,rfl,w0,w8,s1.trans s2.b,b1.keep s2⟩⟩;obtain⟨r,z,k,lk,hr',hz'⟩:=jfR (zk (s1.trans s2.b)) (by
   rintro rfl;exact absurd c (by decide))
  exact ixL (SqL.of (s2 _ _ (s1 _ _ nM hM))) (jb9 (n:=k) (v:=.ref r) (by rw[xaa];exact lk) (by rw[xal,hr'];rfl)) (q r _ z (s1.trans s2.b) (b1.keep s2) ⟨hz'.1,hz'.2.mono (by omega)⟩)
 rintro σ1 H1 ⟨way,rfl,w0,w8,s1,b1⟩;walk_at "rf";refine⟨⟨by decide,by decide,by decide⟩,by decide,fun p hp=>?_,?_⟩
 ·refine jeh hp fun H2 s2 e2=>?_;refine⟨L,4,rfl,b1.keep s2,by decide,by decide,fun H3 d s3 b3 d0 d4=>?_⟩;have e3:=s3 _ _ (b1.ne hp) e2;have s13:=s1.trans (s2.b.trans s3);have:d=0\/d=1\/d=2\/d=3:=by omega
  rcases this with rfl | rfl | rfl | rfl<;>exact ixL (SqL.of e3) rfl ⟨way,_,rfl,w0,w8,by decide,by decide,s13,b3⟩
 rintro σ2 H2 ⟨way,sp,rfl,w0,w8,sp0,sp1,s2,b2⟩;walk_at "rf";refine⟨⟨L,_,rfl,b2,by omega,by omega,fun t H3 v nt s3 b3 et hv=>⟨by decide,fun p hp=>?_⟩⟩,?_⟩
 ·refine jeh hp fun H4 j1 e1=>?_;have b4:=b3.keep j1;refine⟨L,4,rfl,b4,by decide,by decide,fun H5 d s5 b5 d0 d4=>?_⟩;have e5:=s5 _ _ (b3.ne hp) e1;have t5:=s5 _ _ (b4.tup (j1 _ _ et)) (j1 _ _ et);obtain⟨u,eu,u1,u3⟩:∃u:Int,atI [V.int 1,V.int 1,V.int 2,V.int 3] d=some (.int u)/\1<=u/\u<=3:=by
   have:d=0\/d=1\/d=2\/d=3:=by omega
   rcases this with rfl | rfl | rfl | rfl
   ·exact⟨1,rfl,by decide,by decide⟩
   ·exact⟨1,rfl,by decide,by decide⟩
   ·exact⟨2,rfl,by decide,by decide⟩
   ·exact⟨3,rfl,by decide,by decide⟩
  have s25:=s2.trans (s3.trans (j1.b.trans s5));refine ixL (SqL.of e5) eu ⟨by decide,fun p2 hp2=>?_⟩;have j2:=Same.new hp2 (.tup [.int u]);refine⟨t,p2,_,_,rfl,rfl,SqT.of (j2 _ _ t5),SqT.of jag,(fun z=>nomatch z),xa2 (jaF (show 4<1000 by decide)),(fun z=>nomatch z),fun _ p3 hp3=>?_⟩;have j3:=j2.trans (Same.new hp3 (.tup ([.int v.x,.int v.y,.int v.z]++[.int u])));exact⟨way,sp,u,p3,v,rfl,w0,w8,sp0,sp1,jag,u1,u3,by omega,by omega,by omega,s25.trans j3.b,b5.keep j3⟩
 rintro σ3 H3 ⟨way,sp,u,b,v,rfl,w0,w8,sp0,sp1,hb,u1,u3,v1,v2,v3,s3,b3⟩;walk_at "rf";refine⟨L,_,rfl,b3,by omega,by omega,fun c H4 x nc s4 b4 ec hx=>⟨⟨L,_,rfl,b4,by omega,by omega,fun d H5 y nd s5 b5 ed hy=>?_⟩,?_⟩⟩
 ·have c5:=s5 _ _ (b4.tup ec) ec;have b':=s5 _ _ (b4.tup (s4 _ _ (b3.tup hb) hb)) (s4 _ _ (b3.tup hb) hb);exact⟨way,b,c,d,⟨v,u,x,y⟩,_,rfl,w0,w8,⟨b',c5,ed⟩,⟨u1,u3,by show v.x.natAbs<=_;omega,by show v.y.natAbs<=_;omega,by show v.z.natAbs<=_;omega,by show x.x.natAbs<=_/\x.y.natAbs<=_/\x.z.natAbs<=_;omega,by show y.x.natAbs<=_/\y.y.natAbs<=_/\y.z.natAbs<=_;omega⟩,s3.trans (s4.trans s5),b5⟩
 rintro σ5 H5 ⟨way,b,c,d,Z,o3,rfl,w0,w8,hB,rB,s5,b5⟩;walk_at "rf";refine⟨⟨c,d,Z.c,Z.d,rfl,.inr (SqT.of hB.2.1),.inr (SqT.of hB.2.2),jk4 rB.c (by decide),jk4 rB.d (by decide),fun g H6 ng s6 eg=>⟨by decide,fun p hp=>?_⟩⟩,?_⟩
 ·refine jeh hp fun H7 j1 e1=>?_;have s7:=s5.trans (s6.b.trans j1.b);have b7:=(b5.keep s6).keep j1;have hB7:=hB.keep (s6.t.trans j1.t);refine jjx (x:=[(upr Z.c Z.d).x,(upr Z.c Z.d).y,(upr Z.c Z.d).z]) (y:=[0,0,0]) (SqT.of (j1 _ _ eg)) (SqT.of e1) ⟨_,rfl,jb2 (fun _=>?_) fun c=>?_⟩
  ·refine⟨by decide,fun p1 hp1=>⟨by decide,fun p2 hp2=>?_⟩⟩;have j2:=Same.new hp1 (.tup [.int 1,.int 0,.int way]);have j3:=Same.new hp2 (.tup [.int 0,.int 1,.int 1]);refine⟨way,b,p1,p2,⟨Z.s,Z.w,⟨1,0,way⟩,⟨0,1,1⟩⟩,o3,rfl,w0,w8,⟨j3 _ _ (j2 _ _ hB7.1),j3 _ _ jag,jag⟩,⟨⟨rB.w1,rB.w3,rB.sx,rB.sy,rB.sz,⟨show (1:Int).natAbs<=_ by decide,show (0:Int).natAbs<=_ by decide,show way.natAbs<=_ by omega⟩,⟨show (0:Int).natAbs<=_ by decide,show (1:Int).natAbs<=_ by decide,show (1:Int).natAbs<=_ by decide⟩⟩,fun z=>absurd z.2.2 (by show ¬((1:Int)*1-0*0=0);decide)⟩,s7.trans (j2.b.trans j3.b),(b7.keep j2).keep j3⟩
  ·refine⟨way,b,_,_,Z,o3,rfl,w0,w8,hB7,⟨rB,fun z=>c ?_⟩,s7,b7⟩;rw[upr_u];obtain⟨z1,z2,z3⟩:=z;rw[z1,z2,z3];exact decide_eq_true rfl
 rintro σ6 H6 ⟨way,b,c,d,Z,o3,rfl,w0,w8,hB,rB,s6,b6⟩;walk_at "rf";refine⟨jb2 (fun _=>?_) fun _=>⟨b,c,d,Z,_,_,_,_,_,rfl,hB,rB.mono (by omega),s6,b6⟩,?_⟩
 ·refine⟨by decide,fun p hp=>?_⟩;have s2:=Same.new hp (.lst []);refine jgX (s2 _ _ (s6 _ _ nM hM)) (zk (s6.trans s2.b)) jag ⟨_,rfl,jb2 (fun c=>?_) fun _=>⟨b,c,d,Z,_,_,_,_,_,rfl,hB.keep s2.t,rB.mono (by omega),s6.trans s2.b,b6.keep s2⟩⟩;obtain⟨r,⟨Z',sh⟩,k,lk,hr',⟨b',c',d',q1,q2,q3,q4,q5⟩,rB'⟩:=jfR (zk (s6.trans s2.b)) (by
   rintro rfl;exact absurd c (by decide))
  refine ixL (SqL.of (s2 _ _ (s6 _ _ nM hM))) (jb9 (n:=k) (v:=.ref r) (by rw[xaa];exact lk) (by rw[xal,hr'];rfl)) ?_;refine⟨r,rfl,_,SqT.of q1,rfl,_,_,rfl,_,_,rfl,_,_,rfl,_,_,rfl,rfl,L,5,rfl,b6.keep s2,by decide,by decide,fun H7 x s3 b7 x0 x5=>⟨x,rfl,by decide,by decide,fun acc hacc=>?_⟩⟩;change RawOk n Z' at rB';have B':Bas H7 b' c' d' Z':=Bas.keep ⟨q2,q3,q4⟩ ((b6.keep s2).t s3);have s67:=s6.trans (s2.b.trans s3);refine jf1 (n:=3) (fun k=>.int (cmp Z'.s k+(x-2)*cmp Z'.c k*Z'.w)) (by decide) hacc (fun k H8 R hk s8 hR=>?_) fun H8 s8 e8=>?_
  ·have b8:=s8 _ _ B'.1;have c8:=s8 _ _ B'.2.1;have hc:=jee rB'.b.c k;have fx:Fit (x-2):=Bd.fit (n:=61) (by unfold Bd;omega);have fc:Fit (cmp Z'.c k):=Bd.fit (n:=61) (by unfold Bd;omega);have fw:Fit Z'.w:=Bd.fit (n:=61) (by have:=rB'.b.w1;have:=rB'.b.w3;unfold Bd;omega);have fp:Fit ((x-2)*cmp Z'.c k):=Bd.fit (n:=200) (Bd.mono (Bd.mul (n:=61) (m:=61) (by unfold Bd;omega) (by unfold Bd;omega)));walk_at "rf";exact ixT (SqT.of b8) (jn4 Z'.s _ hk) (ixT (SqT.of c8) (cmp3 Z'.c hk) ⟨_,rfl,fx,fc,ixT (SqT.of b8) (i:=3) rfl ⟨_,rfl,fp,fw,_,rfl,hR _ (Same.refl _)⟩⟩)
  ·have b8:=s8 _ _ B'.1;walk_at "rf";refine ixT (SqT.of b8) (i:=3) rfl ⟨by decide,fun p2 hp2=>?_⟩;have j2:=Same.new hp2 (.lst [.int Z'.w]);refine⟨acc,p2,_,_,rfl,rfl,j2 _ _ e8,jag,xa2 (jaF (show 3+1<1000 by decide)),fun p3 hp3=>?_⟩;refine⟨p3,rfl,_,SqL.of jag,fun p4 hp4=>?_⟩;have s84:=(s8.trans j2).trans ((Same.new hp3 (.lst ((List.map (fun k=>V.int (cmp Z'.s k+(x-2)*cmp Z'.c k*Z'.w)) (List.range 3))++[.int Z'.w]))).trans (Same.new hp4 (.tup ((List.map (fun k=>V.int (cmp Z'.s k+(x-2)*cmp Z'.c k*Z'.w)) (List.range 3))++[.int Z'.w]))));have hx:(x-2).natAbs<=2:=by omega
   have hw:Z'.w.natAbs<=3:=by have:=rB'.b.w1;have:=rB'.b.w3;omega
   have e0:=jmk (a:=cmp Z'.s 0) hx (jee rB'.b.c 0) hw;have e1:=jmk (a:=cmp Z'.s 1) hx (jee rB'.b.c 1) hw;have e2:=jmk (a:=cmp Z'.s 2) hx (jee rB'.b.c 2) hw;have t0:=rB'.b.sx;have t1:=rB'.b.sy;have t2:=rB'.b.sz;change _<=Z'.s.x.natAbs+_ at e0;change _<=Z'.s.y.natAbs+_ at e1;change _<=Z'.s.z.natAbs+_ at e2;exact⟨p4,c',d',⟨⟨cmp Z'.s 0+(x-2)*cmp Z'.c 0*Z'.w,cmp Z'.s 1+(x-2)*cmp Z'.c 1*Z'.w,cmp Z'.s 2+(x-2)*cmp Z'.c 2*Z'.w⟩,Z'.w,Z'.c,Z'.d⟩,_,_,_,_,_,rfl,⟨jag,s84 _ _ B'.2.1,s84 _ _ B'.2.2⟩,⟨⟨rB'.b.w1,rB'.b.w3,by show (cmp Z'.s 0+(x-2)*cmp Z'.c 0*Z'.w).natAbs<=_;omega,by show (cmp Z'.s 1+(x-2)*cmp Z'.c 1*Z'.w).natAbs<=_;omega,by show (cmp Z'.s 2+(x-2)*cmp Z'.c 2*Z'.w).natAbs<=_;omega,rB'.b.c,rB'.b.d⟩,rB'.nz⟩,s67.trans s84.b,b7.keep s84⟩
 rintro σ7 H7 ⟨b,c,d,Z,o2,o3,o7,o8,o9,rfl,hB,rB,s7,b7⟩;walk_at "rf";refine⟨L,6,rfl,b7,by decide,by decide,fun H8 x s8 b8 x0 x6=>⟨by decide,fun p hp=>?_⟩⟩;obtain⟨k,rfl⟩:=Int.eq_ofNat_of_zero_le x0;have hB8:=hB.keep (b7.t s8);have j:=Same.new hp (.tup [.ref b,.ref c,.ref d,.int (k:Nat)]);exact q p _ (Z,k) ((s7.trans s8).trans j.b) (b8.keep j) ⟨⟨b,c,d,jag,j _ _ hB8.1,j _ _ hB8.2.1,j _ _ hB8.2.2,by omega⟩,rB⟩
def shp6:List (List (Int × Int)):=[[(0,0),(2,0),(0,2)],[(0,0),(3,1),(1,3)],[(0,0),(2,0),(2,2),(0,2)],[(0,0),(3,0),(2,1),(0,1)],[(0,0),(2,0),(3,1),(1,3),(0,1)],[(1,0),(2,0),(3,1),(3,2),(2,3),(0,1)]]
def plT (p:Int × Int):Tri:=⟨p.1-1,p.2-1,1⟩
def shp (i:Nat):List Tri:=(shp6.getD i []).map plT
def cM0 (H:Hp) (t b c d:Addr) (sh:Nat):L2.St->Hp->Prop:=fun σ H'=>σ=[some (.ref t),some (.ref b),some (.ref c),some (.ref d),some (.int (sh:Nat)),none,none,none,none,none]/\Same H H'
def cMr (H:Hp) (t b c d:Addr) (sh m:Nat):L2.St->Hp->Prop:=fun σ H'=>∃(g:Addr) (vs:List V),σ=[some (.ref t),some (.ref b),some (.ref c),some (.ref d),some (.int (sh:Nat)),some (.ref g),none,none,none,none]/\H' g=some (.lst vs)/\TabA (shp6.take m) vs H'/\Same H H'
theorem TabA.app:∀{pss qss:List (List (Int × Int))} {vs ws:List V} {H:Hp},TabA pss vs H->TabA qss ws H->TabA (pss++qss) (vs++ws) H
 | [],_,_,_,_,h,k=>by cases h;exact k
 | _::_,_,_,_,_,⟨v,ws,e,h1,h⟩,k=>by rw[e];exact⟨v,_,rfl,h1,h.app k⟩
theorem jfS {b:Int} {m:Nat} (ha:a.natAbs<=m) (hb:b.natAbs<=n):(a*b).natAbs<=m*n:=by
 rw[xbZ];exact Nat.mul_le_mul ha hb
def rwc (Z:Sht) (v:Tri) (k:Nat):Int:=if k=0 then rX Z v else if k=1 then rY Z v else rZ Z v
theorem jn6 {u:Int × Int} (h:k<3):cmp Z.s k+Z.w*((u.1-1)*cmp Z.c k+(u.2-1)*cmp Z.d k)=rwc Z (plT u) k:=by
 match k,h with
 | 0,_=>show Z.s.x+_=Z.s.x*1+_;rw[xbB];rfl
 | 1,_=>show Z.s.y+_=Z.s.y*1+_;rw[xbB];rfl
 | 2,_=>show Z.s.z+_=Z.s.z*1+_;rw[xbB];rfl
theorem jiZ (h:v.z=1):rW Z v=Z.w:=by unfold rW;rw[h,xbB]
theorem jml (hw:1<=Z.w) (hv:1<=v.z):jde ⟨rX Z v,rY Z v,rZ Z v,rW Z v⟩=spt Z v:=by
 have W1:0<rW Z v:=xak (by omega) (by omega);unfold jde;rw[if_neg (by show ¬rW Z v<0;omega)];rfl
theorem ji0 {s w p q:Int} (hs:s.natAbs<=2097152+n*8388608) (n9:n<=9) (hw:w.natAbs<=3) (hp:p.natAbs<=2) (hq:q.natAbs<=2) (hc:c.natAbs<=1000000) (hd:d.natAbs<=1000000):Bd 27 (s*1+w*(p*c+q*d)):=by
 have l1:=jfS hp hc;have l2:=jfS hq hd;have l3:=jfS hw (show (p*c+q*d).natAbs<=4000000 by omega);rw[xbB];unfold Bd;omega
theorem jk5 (h:RawB n Z) (n9:n<=9) (h1:v.x.natAbs<=2) (h2:v.y.natAbs<=2) (h3:v.z=1):Bd 27 (rX Z v)/\Bd 27 (rY Z v)/\Bd 27 (rZ Z v)/\Bd 27 (rW Z v):=by
 have hw:Z.w.natAbs<=3:=by have:=h.w1;have:=h.w3;omega
 unfold rX rY rZ rW;rw[h3];refine⟨ji0 h.sx n9 hw h1 h2 h.c.1 h.d.1,ji0 h.sy n9 hw h1 h2 h.c.2.1 h.d.2.1,ji0 h.sz n9 hw h1 h2 h.c.2.2 h.d.2.2,?_⟩;rw[xbB];unfold Bd;omega
theorem PrP.ix {rs:List Addr} {ps:List (Int × Int)} (h:PrP H rs ps):∀{i:Nat} {r:Addr},rs[i]?=some r->∃p,ps[i]?=some p/\H r=some (.tup [.int p.1,.int p.2]):=by
  induction h with
  | nil=>intro i r z;cases z
  | cons h _ ih =>
    intro i r z;cases i with
    | zero=>cases z;exact⟨_,rfl,h⟩
    | succ i=>exact ih z
theorem jke:∀i,i<6->∀p∈shp6.getD i [],0<=p.1/\p.1<=3/\0<=p.2/\p.2<=3:=by decide +kernel
theorem jkf:∀i,i<6->3<=(shp6.getD i []).length/\(shp6.getD i []).length<=6:=by decide +kernel
def jk6:Sp:=fun vs H Q _=>∃(t:Addr) (n:Nat) (z:Sht × Nat),vs=[.ref t]/\RwAt n H t z/\n<=9/\∀(l:Addr) (H':Hp) (rs:List Addr),H l=none->Same H H'->Cor H' l rs ((shp z.2).map (spt z.1))->Q (.ref l) H'
theorem jmm (T:Tx K mg t1 t2) (F:At K mg "_law_corners" jaU ["raw"] []) (dm:jan P w K mg base CX0 3 "made_spot" ["x","y","z","w"] [] jjZ):jan P w K mg base CX0 4 "_law_corners" ["raw"] [] jk6:=by
 refine F.okW jct (fun vs H Q E h=>?_) (fun f cdv A outer s H vs Q E hr h=>?_)
 ·obtain⟨t,n,z,rfl,_⟩:=h;rfl
 obtain⟨t,n,⟨Z,sh⟩,rfl,⟨⟨b,c,d,h1,h2,h3,h4,h6⟩,ok⟩,n9,q⟩:=h;have S:=jct;refine⟨_,(jcT (cM0 H t b c d sh) ⟨(jc0 (pv 0) (jep rfl (jaC (jao (i:=1) S.nd rfl (Or.inr rfl)) (jaC (jao (i:=2) S.nd rfl (Or.inr rfl)) (jaC (jao (i:=3) S.nd rfl (Or.inr rfl)) (jaC (jao (i:=4) S.nd rfl (Or.inl rfl)) jbZ))))))⟩
  (jcT (cMr H t b c d sh 3) (jfx (jci (jak (jci (jak (jaY (jak ⟨jab⟩ (jak ⟨jab⟩ jaL jam) jam)) (jak (jaY (jak ⟨jab⟩ (jak ⟨jab⟩ jaL jam) jam)) (jak (jaY (jak ⟨jab⟩ (jak ⟨jab⟩ jaL jam) jam)) jaL jaE) jaE) jaE)) (jak (jci (jak (jaY (jak ⟨jab⟩ (jak ⟨jab⟩ jaL jam) jam)) (jak (jaY (jak ⟨jab⟩ (jak ⟨jab⟩ jaL jam) jam)) (jak (jaY (jak ⟨jab⟩ (jak ⟨jab⟩ jaL jam) jam)) jaL jaE) jaE) jaE)) (jak (jci (jak (jaY (jak ⟨jab⟩ (jak ⟨jab⟩ jaL jam) jam)) (jak (jaY (jak ⟨jab⟩ (jak ⟨jab⟩ jaL jam) jam)) (jak (jaY (jak ⟨jab⟩ (jak ⟨jab⟩ jaL jam) jam)) (jak (jaY (jak ⟨jab⟩ (jak ⟨jab⟩ jaL jam) jam)) jaL jaE) jaE) jaE) jaE)) jaL jc4) jc4) jc4)) (jao (i:=5) S.nd rfl (Or.inl rfl)))
  (jcT (cMr H t b c d sh 5) (jfx (jmj jfq ⟨(pv 5)⟩ (jci (jak (jci (jak (jaY (jak ⟨jab⟩ (jak ⟨jab⟩ jaL jam) jam)) (jak (jaY (jak ⟨jab⟩ (jak ⟨jab⟩ jaL jam) jam)) (jak (jaY (jak ⟨jab⟩ (jak ⟨jab⟩ jaL jam) jam)) (jak (jaY (jak ⟨jab⟩ (jak ⟨jab⟩ jaL jam) jam)) jaL jaE) jaE) jaE) jaE)) (jak (jci (jak (jaY (jak ⟨jab⟩ (jak ⟨jab⟩ jaL jam) jam)) (jak (jaY (jak ⟨jab⟩ (jak ⟨jab⟩ jaL jam) jam)) (jak (jaY (jak ⟨jab⟩ (jak ⟨jab⟩ jaL jam) jam)) (jak (jaY (jak ⟨jab⟩ (jak ⟨jab⟩ jaL jam) jam)) (jak (jaY (jak ⟨jab⟩ (jak ⟨jab⟩ jaL jam) jam)) jaL jaE) jaE) jaE) jaE) jaE)) jaL jc4) jc4))) (jao (i:=5) S.nd rfl (Or.inl rfl)))
  (jcT (cMr H t b c d sh 6) (jfx (jmj jfq ⟨(pv 5)⟩ (jci (jak (jci (jak (jaY (jak ⟨jab⟩ (jak ⟨jab⟩ jaL jam) jam)) (jak (jaY (jak ⟨jab⟩ (jak ⟨jab⟩ jaL jam) jam)) (jak (jaY (jak ⟨jab⟩ (jak ⟨jab⟩ jaL jam) jam)) (jak (jaY (jak ⟨jab⟩ (jak ⟨jab⟩ jaL jam) jam)) (jak (jaY (jak ⟨jab⟩ (jak ⟨jab⟩ jaL jam) jam)) (jak (jaY (jak ⟨jab⟩ (jak ⟨jab⟩ jaL jam) jam)) jaL jaE) jaE) jaE) jaE) jaE) jaE)) jaL jc4))) (jao (i:=5) S.nd rfl (Or.inl rfl)))
  ⟨(jad (jat (i:=6) S.nd rfl (Or.inl rfl) (jbk jac))
  (jad (jbx PassesOwn.never rfl (jbN (jaj ix_list (pv 5) (pv 4))) (jep rfl (jaC (jao (i:=7) S.nd rfl (Or.inr rfl)) (jaC (jao (i:=8) S.nd rfl (Or.inr rfl)) jbZ)))
  (jad (jat (i:=9) S.nd rfl (Or.inr rfl) (ja1 rfl (N':=["k","i","one","j","other"]) (ix:=[7,2,8,3]) ⟨rfl,rfl,by decide +kernel,by decide +kernel,by decide +kernel,(show ∀y:Str × NameKind,y∈_->y.2=NameKind.free->(jae jaU).names.lookup y.1=some .cell\/(jae jaU).names.lookup y.1=some .free from by decide +kernel),(.cons rfl (.inl rfl) rfl (.cons rfl (.inl rfl) rfl (.cons rfl (.inl rfl) rfl (.cons rfl (.inl rfl) rfl .nil))))⟩ (jaN rfl T.m_range (jaa jab jac jam)) (fun _ _ _ _=>jao (i:=0) (show (["k","i","one","j","other"]:List Str).Nodup from by decide +kernel) rfl (Or.inl rfl)) (fun _ _ _ _=>ja0) (fun _ _ _ _=>(jap jbl (jap jar (jap jaZ (pv 1) jab) (jaj (jaR (K:=K) rfl) (pv 2) (pv 0))) (jap jar (jap jaZ (pv 3) jab) (jaj (jaR (K:=K) rfl) (pv 4) (pv 0)))))))
  (jad (jat (i:=9) S.nd rfl (Or.inr rfl) (ja1 rfl (N':=["k","base","place"]) (ix:=[1,9]) ⟨rfl,rfl,by decide +kernel,by decide +kernel,by decide +kernel,(show ∀y:Str × NameKind,y∈_->y.2=NameKind.free->(jae jaU).names.lookup y.1=some .cell\/(jae jaU).names.lookup y.1=some .free from by decide +kernel),(.cons rfl (.inl rfl) rfl (.cons rfl (.inl rfl) rfl .nil))⟩ (jaN rfl T.m_range (jaa jab jac jam)) (fun _ _ _ _=>jao (i:=0) (show (["k","base","place"]:List Str).Nodup from by decide +kernel) rfl (Or.inl rfl)) (fun _ _ _ _=>ja0) (fun _ _ _ _=>(jap jbl (jaj (jaR (K:=K) rfl) (pv 1) (pv 0)) (jap jar (jaj (jaR (K:=K) rfl) (pv 1) jab) (jaj (jjv (K:=K) rfl) (pv 2) (pv 0)))))))
  (jai (jbY (jeL PySem.F.plainAttrs_list PySem.F.slot_list_append PySem.F.type_list_append jba (pv 6) (jaa (jah dm hr.m rfl jav (jaa (jaj ix_list (pv 9) jab) (jaa (jaj ix_list (pv 9) jab) (jaa (jaj ix_list (pv 9) jab) (jaa (jaj jal (pv 1) jab) jac jaq) jaq) jaq) jaq)) jac jaI)))))))
  (jai (jas (pv 6)))))⟩)))),?_⟩
 have k1:SqT K H t [.ref b,.ref c,.ref d,.int (sh:Nat)]:=SqT.of h1;refine⟨?_,?_⟩
 ·walk_at "rf";exact⟨_,k1,rfl,_,_,rfl,_,_,rfl,_,_,rfl,_,_,rfl,rfl,rfl,Same.refl _⟩
 rintro σ0 H0 ⟨rfl,s0⟩;refine⟨?_,?_⟩
 ·refine jiY (pss:=shp6.take 3) ?_ (by decide) _ _ fun v J2 s2 hv=>?_
  ·show MkA _ _ (TabA [[(0,0),(2,0),(0,2)],[(0,0),(3,1),(1,3)],[(0,0),(2,0),(2,2),(0,2)]])
   repeat first
    | exact jfc
    | refine jed (jiX ?_ (by decide)) ?_
    | exact jfb
    | refine jec (jgc jmM jmM) ?_
  obtain⟨g,vs,rfl,hg,hT⟩:=hv;exact⟨g,vs,rfl,hg,hT,s0.trans s2⟩
 rintro σ1 H1 ⟨g,vs,rfl,hg,hT,s1⟩;refine⟨⟨_,rfl,?_⟩,?_⟩
 ·refine jiY (pss:=(shp6.drop 3).take 2) ?_ (by decide) _ _ fun v J2 s2 hv=>?_
  ·show MkA _ _ (TabA [[(0,0),(3,0),(2,1),(0,1)],[(0,0),(2,0),(3,1),(1,3),(0,1)]])
   repeat first
    | exact jfc
    | refine jed (jiX ?_ (by decide)) ?_
    | exact jfb
    | refine jec (jgc jmM jmM) ?_
  obtain⟨g2,ws,rfl,hg2,hT2⟩:=hv;have l1:=hT.len;have l2:=hT2.len;refine⟨g,g2,vs,ws,rfl,rfl,s2 _ _ hg,hg2,xa2 (jaF (by rw[l1,l2];decide)),fun p hp=>?_⟩;have j:=Same.new hp (.lst (vs++ws));exact⟨p,_,rfl,jag,((hT.keep s2).app hT2).keep j,s1.trans (s2.trans j)⟩
 rintro σ2 H2 ⟨g,vs,rfl,hg,hT,s2⟩;refine⟨⟨_,rfl,?_⟩,?_⟩
 ·refine jiY (pss:=shp6.drop 5) ?_ (by decide) _ _ fun v J2 s3 hv=>?_
  ·show MkA _ _ (TabA [[(1,0),(2,0),(3,1),(3,2),(2,3),(0,1)]])
   repeat first
    | exact jfc
    | refine jed (jiX ?_ (by decide)) ?_
    | exact jfb
    | refine jec (jgc jmM jmM) ?_
  obtain⟨g2,ws,rfl,hg2,hT2⟩:=hv;have l1:=hT.len;have l2:=hT2.len;refine⟨g,g2,vs,ws,rfl,rfl,s3 _ _ hg,hg2,xa2 (jaF (by rw[l1,l2];decide)),fun p hp=>?_⟩;have j:=Same.new hp (.lst (vs++ws));exact⟨p,_,rfl,jag,((hT.keep s3).app hT2).keep j,s2.trans (s3.trans j)⟩
 rintro σ3 H3 ⟨g,vs,rfl,hg,hT,s3⟩;walk_at "rf";refine⟨by decide,fun p hp=>?_⟩;refine jeh hp fun H4 s4 ep=>?_;obtain⟨v,ev,l,es,rfl,hl,hP⟩:=hT.get (i:=sh) (by show sh<6;exact h6);change PrP H3 es (shp6.getD sh []) at hP;have lim:=jke sh h6;have len:=jkf sh h6;have es':shp sh=(shp6.getD sh []).map plT:=rfl;rw[es'] at q;generalize shp6.getD sh []=qs at hP lim len q;have lP:=hP.len;refine ixL (SqL.of (s4 _ _ hg)) (v:=.ref l) (jaJ ev) ⟨l,rfl,⟨_,SqL.of (s4 _ _ hl)⟩,?_⟩;have b3:=s3 _ _ h2;have c3:=s3 _ _ h3;have d3:=s3 _ _ h4;refine jb0 (K:=K) (a:=l) (xs:=es.map V.ref) (fun i σ Hh=>∃(o7 o8 o9:Option V) (rs:List Addr),σ=[some (V.ref t),some (V.ref b),some (V.ref c),some (V.ref d),some (V.int (sh:Nat)),some (V.ref g),some (V.ref p),o7,o8,o9]/\Same H3 Hh/\Hh p=some (.lst (rs.map V.ref))/\Sps Hh rs ((qs.take i).map fun u=>spt Z (plT u))) ⟨_,_,_,[],rfl,s4,ep,.nil⟩ (fun i σ Hh _ ⟨_,_,_,_,_,sx,_⟩=>sx.seq (SqL.of hl)) ?_ ?_
 ·rintro i x σ Hh hi ⟨o7,o8,o9,rs,rfl,sx,kp,ks⟩;rw[xal] at hi;obtain⟨r,hr',rfl⟩:=xbA.mp hi;obtain⟨u,hu,er⟩:=hP.ix hr';obtain⟨m1,m2,m3,m4⟩:=lim u (xaD hu);walk_at "rf";refine⟨_,SqT.of (sx _ _ er),rfl,_,_,rfl,_,_,rfl,rfl,by decide,by decide,fun acc hacc=>?_⟩;have F1:Fit (u.1-1):=Bd.fit (n:=61) (by unfold Bd;omega);have F2:Fit (u.2-1):=Bd.fit (n:=61) (by unfold Bd;omega);have b4:=sx _ _ b3;have c4:=sx _ _ c3;have d4:=sx _ _ d3;have fz:∀{v:Tri} {k:Nat},(v.x.natAbs<=1000000/\v.y.natAbs<=1000000/\v.z.natAbs<=1000000)->Fit (cmp v k):=fun {v k} h=>Bd.fit (n:=61) (by have:=jee h k;unfold Bd;omega);have okb:RawB n Z:=ok.b;refine jf1 (n:=3) (fun k=>.int ((u.1-1)*cmp Z.c k+(u.2-1)*cmp Z.d k)) (by decide) hacc (fun k H5 R hk s5 hR=>?_) fun H5 s5 e5=>?_
  ·walk_at "rf";exact ixT (SqT.of (s5 _ _ c4)) (cmp3 Z.c hk) ⟨_,rfl,F1,fz okb.c,ixT (SqT.of (s5 _ _ d4)) (cmp3 Z.d hk) ⟨_,rfl,F2,fz okb.d,hR _ (Same.refl _)⟩⟩
  walk_at "rf";refine⟨by decide,by decide,fun acc2 hacc2=>jf1 (n:=3) (fun k=>.int (rwc Z (plT u) k)) (by decide) hacc2 (fun k H6 R hk s6 hR=>?_) fun H6 s6 e6=>?_⟩
  ·have ea:atI (List.map (fun k=>V.int ((u.1-1)*cmp Z.c k+(u.2-1)*cmp Z.d k)) (List.range 3)) (0+(k:Int))=some (.int ((u.1-1)*cmp Z.c k+(u.2-1)*cmp Z.d k)):=by
    match k,hk with
    | 0,_=>rfl
    | 1,_=>rfl
    | 2,_=>rfl
   have l1:=jfS (show (u.1-1).natAbs<=2 by omega) (jee okb.c k);have l2:=jfS (show (u.2-1).natAbs<=2 by omega) (jee okb.d k);have ff:Fit ((u.1-1)*cmp Z.c k+(u.2-1)*cmp Z.d k):=Bd.fit (n:=61) (by unfold Bd;omega);have fw:Fit Z.w:=Bd.fit (n:=61) (by have:=okb.w1;have:=okb.w3;unfold Bd;omega);have b6:=s6 _ _ (s5 _ _ b4);walk_at "rf";refine ixT (SqT.of b6) (jn4 Z.s Z.w hk) (ixT (SqT.of b6) (i:=3) rfl (ixL (SqL.of (s6 _ _ e5)) ea ⟨_,rfl,_,rfl,fw,ff,_,rfl,?_⟩));have z:=hR _ (Same.refl _);rw[<- jn6 (u:=u) hk] at z;exact z
  have b6:=s6 _ _ (s5 _ _ b4);have s56:=s5.trans s6;obtain⟨B1,B2,B3,B4⟩:=jk5 (v:=plT u) okb n9 (show (u.1-1).natAbs<=2 by omega) (show (u.2-1).natAbs<=2 by omega) rfl;refine⟨.inl ⟨_,SqL.of (s56 _ _ kp)⟩,ixL (SqL.of e6) (i:=0) rfl (ixL (SqL.of e6) (i:=1) rfl (ixL (SqL.of e6) (i:=2) rfl (ixT (SqT.of b6) (i:=3) rfl ?_)))⟩;refine⟨⟨rX Z (plT u),rY Z (plT u),rZ Z (plT u),rW Z (plT u)⟩,by rw[jiZ (show (plT u).z=1 from rfl)];rfl,⟨Bd.mono B1,Bd.mono B2,Bd.mono B3,Bd.mono B4⟩,by rw[jiZ (show (plT u).z=1 from rfl)];have:=okb.w1;show Z.w≠0;omega,fun g2 H8 s8 h8=>?_⟩;rw[jml okb.w1 (show (1:Int)<=1 by decide)] at h8;have s58:=s56.trans s8;have sm:=SameT.upd (ys:=List.map V.ref rs++[V.ref g2]) (s58 _ _ kp);refine⟨p,_,_,rfl,rfl,s58 _ _ kp,jaF (by rw[xaa,ks.len,xaa,xay];omega),Same.keepN (sx.trans s58) hp _,rs++[g2],by rw[jag,xah];rfl,?_⟩;rw[xaV,hu,xah];exact ((ks.keep s58.t).keep sm).app (.cons ⟨sm _ _ h8.1,h8.2⟩ .nil)
 ·rintro σ Hh ⟨o7,o8,o9,rs,rfl,sx,kp,ks⟩;walk_at "rf";rw[xaZ (by rw[xaa];omega)] at ks;exact q p _ rs (s3.noneN hp) (s3.trans sx) ⟨kp,by rw[xa4];exact ks⟩
inductive Tr
 | nil
 | nd (p:Pt) (here:List (Int × List Pt)) (b a:Tr)
def Tr.ht:Tr->Nat
 | .nil=>0
 | .nd _ _ b a=>max b.ht a.ht+1
def PlG (p:Pt):Prop:=(Bd 66 p.x/\Bd 66 p.y/\Bd 66 p.z)/\Bd 94 p.w
theorem PlG.neg (h:PlG p):PlG ⟨-p.x,-p.y,-p.z,-p.w⟩:=by
 obtain⟨⟨h1,h2,h3⟩,h4⟩:=h;refine⟨⟨?_,?_,?_⟩,?_⟩<;>(unfold Bd at *;rw[xcf];assumption)
structure SZ (Z:Sht):Prop where
 hw:1<=Z.w
 nz:Z.u.nz
 sp:∀v:Tri,v.bd 221->(spt Z v).bd 252
 ln:∀p:Pt,PlG p->PlOk Z p
def PcOk (ps:List Pt):Prop:=∃(Z:Sht) (vs:List Tri),SZ Z/\VF vs/\vs.length<=16/\RR (vs.map (spt Z)) ps
def Tr.Good (c:Nat):Tr->Prop
 | .nil=>True
 | .nd p h b a=>PlG p/\((∀x∈h,PcOk x.2)/\h.length<=c)/\b.Good c/\a.Good c
theorem Tr.Good.mono {c d:Nat} (l:c<=d):∀{T:Tr},T.Good c->T.Good d
 | .nil,_=>trivial
 | .nd _ _ _ _,⟨h1,⟨h2,h3⟩,h4,h5⟩=>⟨h1,⟨h2,xaA h3 l⟩,h4.mono l,h5.mono l⟩
def BoAt (H:Hp) (t:Addr) (b:List Pt):Prop:=∃rs,H t=some (.tup (rs.map V.ref))/\Sps H rs b
theorem BoAt.keep {t:Addr} {b:List Pt} (h:BoAt H t b) (s:SameT H H'):BoAt H' t b:=by
 obtain⟨rs,e,q⟩:=h;exact⟨rs,s _ _ e,q.keep s⟩
def PcAt (H:Hp) (r:Addr) (x:Int × List Pt):Prop:=∃t,H r=some (.tup [.int x.1,.ref t])/\BoAt H t x.2
theorem PcAt.keep {x:Int × List Pt} (h:PcAt H r x) (s:SameT H H'):PcAt H' r x:=by
 obtain⟨t,e,q⟩:=h;exact⟨t,s _ _ e,q.keep s⟩
inductive TrAt (H:Hp):V->Tr->Prop
 | nil:TrAt H .non .nil
 | nd {t g h:Addr} {rs:List Addr} {vb va:V} {p:Pt} {here:List (Int × List Pt)} {b a:Tr}:H t=some (.tup [.ref g,.ref h,vb,va])->Is4 H g p->H h=some (.tup (rs.map V.ref))->All2 (PcAt H) rs here->TrAt H vb b->TrAt H va a->TrAt H (.ref t) (.nd p here b a)
theorem TrAt.keep {v:V} {T:Tr} (h:TrAt H v T) (s:SameT H H'):TrAt H' v T:=by
 induction h with
 | nil=>exact .nil
 | nd h1 h2 h3 h4 _ _ i5 i6=>exact .nd (s _ _ h1) ⟨s _ _ h2.1,h2.2⟩ (s _ _ h3) (h4.mono fun _ _ h=>h.keep s) i5 i6
theorem jn7 {f:V} (h:PtAt H Z f us):∃D,Rds K H f D/\PyData.canLay0 D=true/\PyData.depth D<=10/\PyData.eqv D .none=decide (us=[]):=by
 rcases h with ⟨rfl,rfl⟩ | ⟨ne,r,rfl,rs,h1,h2⟩
 ·exact⟨.none,.non,rfl,by decide,rfl⟩
 ·obtain⟨l1,l2,_⟩:=jiq (frm (us.map (spt Z)) (us.map (spt Z)));exact⟨jlL _,jip h1 h2,l1,by omega,by rw[decide_eq_false ne];rfl⟩
theorem jmn {t:Addr} {f0 f1:V} {p:Addr} (e:H t=some (.tup [f0,f1])) (h0:PtAt H Z f0 us) (h1:PtAt H Z f1 ws) (hp:H p=some (.tup [.non,.non])) (q:Q (.bl (decide (us=[]/\ws=[]))) H):jks K false (.ref t) (.ref p) H Q:=by
 obtain⟨D0,r0,l0,d0,e0⟩:=jn7 (K:=K) h0;obtain⟨D1,r1,l1,d1,e1⟩:=jn7 (K:=K) h1;refine⟨.tuple [D0,D1],.tuple [.none,.none],.tup (SqT.of e) (.cons r0 (.cons r1 .nil)),.tup (SqT.of hp) (.cons .non (.cons .non .nil)),?_,by decide,?_⟩
 ·unfold SeqAt.shaped;simp [PyData.canLay0,PyData.canLayAll0,PyData.depth,PyData.depthAll,l0,l1];omega
 ·have z:PyData.eqv (.tuple [D0,D1]) (.tuple [.none,.none])=decide (us=[]/\ws=[]):=by
   simp [PyData.eqv,PyData.eqvAll,e0,e1]
  rw[if_neg (by decide),z];exact q
theorem jgd (n:UP h vs≠[]):∃v∈vs,0<h v:=xai fun z=>n (jfN z)
theorem ji1 (hZ:SZ Z) (F:VF vs) (l:vs.length<=16) (r:RR (vs.map (spt Z)) ps):PcOk ps:=⟨Z,vs,hZ,F,l,r⟩
noncomputable section
def rgs (Z:Sht) (ws:List Tri):List Pt:=frm (ws.map (spt Z)) (ws.map (spt Z))
def dnX (Z:Sht) (p:Pt) (ws:List Tri):List Tri:=UP (hf (jdf Z ⟨-p.x,-p.y,-p.z,-p.w⟩)) ws
def upX (Z:Sht) (p:Pt) (ws:List Tri):List Tri:=UP (hf (jdf Z p)) ws
def grw (Z:Sht) (k:Int) (o:Pt):Tr->List Tri->Tr
 | .nil,ws=>.nd o [(k,rgs Z ws)] .nil .nil
 | .nd p h b a,ws=>if dnX Z p ws=[]/\upX Z p ws=[] then .nd p (h++[(k,rgs Z ws)]) b a else .nd p h (if dnX Z p ws=[] then b else grw Z k o b (dnX Z p ws)) (if upX Z p ws=[] then a else grw Z k o a (upX Z p ws))
end
variable {Z:Sht}
variable {us vs ws:List Tri}
theorem jn8 (hZ:SZ Z) (hp:PlG p) (F:VF ws) (n:upX Z p ws≠[]):VF (upX Z p ws) :=
 F.up (hZ.ln _ hp).2.1 (hZ.ln _ hp).2.2.1 (hZ.ln _ hp).2.2.2 (jgd n)
theorem jn9 (hZ:SZ Z) (hp:PlG p) (F:VF ws) (n:dnX Z p ws≠[]):VF (dnX Z p ws) :=
 F.up (hZ.ln _ hp.neg).2.1 (hZ.ln _ hp.neg).2.2.1 (hZ.ln _ hp.neg).2.2.2 (jgd n)
theorem jk7 (F:VF ws):(upX Z p ws).length<=ws.length+1:=jfQ (l:=jdf Z p) F.rg
theorem jk8 (F:VF ws):(dnX Z p ws).length<=ws.length+1:=jfQ (l:=jdf Z ⟨-p.x,-p.y,-p.z,-p.w⟩) F.rg
theorem ji2 (Z:Sht) (k:Int) (o:Pt):∀(T:Tr) (ws:List Tri),(grw Z k o T ws).ht<=T.ht+1
  | .nil,ws=>xag _
  | .nd p h b a, ws => by
    have hb:=ji2 Z k o b (dnX Z p ws);have ha:=ji2 Z k o a (upX Z p ws);have e0:(Tr.nd p h b a).ht=max b.ht a.ht+1:=rfl;unfold grw;rw[e0];split
    . show max b.ht a.ht+1 <= _
      omega
    . show max (Tr.ht (if _ then _ else _)) (Tr.ht (if _ then _ else _))+1 <= _
      split<;>split<;>omega
theorem jfd {Z:Sht} {k:Int} {o:Pt} {c:Nat} (hZ:SZ Z) (ho:PlG o):∀{T:Tr} {ws:List Tri},T.Good c->VF ws->ws.length+T.ht<=16->(grw Z k o T ws).Good (c+1)
  | .nil,ws,_,F,l=>⟨ho,⟨fun x hx=>by rw[xas.mp hx];exact ji1 hZ F (by omega) (jeC _ _),by show 1<=c+1;omega⟩,trivial,trivial⟩
  | .nd p h b a, ws, ⟨g1, ⟨g2, g3⟩, g4, g5⟩, F, l => by
    have l':ws.length+(max b.ht a.ht+1)<=16:=l;unfold grw;split
    . refine⟨g1,⟨fun x hx=>?_,by rw[xad]; show h.length+1 <= c+1; omega⟩,g4.mono (by omega),g5.mono (by omega)⟩
      rcases xaO.mp hx with hx | hx
      . exact g2 x hx
      . rw[xas.mp hx]
        exact ji1 hZ F (by omega) (jeC _ _)
    . refine⟨g1,⟨g2,by omega⟩,?_,?_⟩
      . split
        . exact g4.mono (by omega)
        . rename_i n
          exact jfd hZ ho g4 (jn9 hZ g1 F n) (by have:=jk8 (Z:=Z) (p:=p) F;omega)
      . split
        . exact g5.mono (by omega)
        . rename_i n
          exact jfd hZ ho g5 (jn8 hZ g1 F n) (by have:=jk7 (Z:=Z) (p:=p) F;omega)
theorem jgY {k:Int} {o:Pt} {h:List (Int × List Pt)} {b a:Tr} (e:dnX Z p ws=[]/\upX Z p ws=[]):grw Z k o (.nd p h b a) ws=.nd p (h++[(k,rgs Z ws)]) b a:=by
 have z:grw Z k o (.nd p h b a) ws=if dnX Z p ws=[]/\upX Z p ws=[] then .nd p (h++[(k,rgs Z ws)]) b a else .nd p h (if dnX Z p ws=[] then b else grw Z k o b (dnX Z p ws)) (if upX Z p ws=[] then a else grw Z k o a (upX Z p ws)):=by rw[grw]
 rw[z,if_pos e]
theorem jgZ {k:Int} {o:Pt} {h:List (Int × List Pt)} {b a:Tr} (e:¬(dnX Z p ws=[]/\upX Z p ws=[])):grw Z k o (.nd p h b a) ws=.nd p h (if dnX Z p ws=[] then b else grw Z k o b (dnX Z p ws)) (if upX Z p ws=[] then a else grw Z k o a (upX Z p ws)):=by
 have z:grw Z k o (.nd p h b a) ws=if dnX Z p ws=[]/\upX Z p ws=[] then .nd p (h++[(k,rgs Z ws)]) b a else .nd p h (if dnX Z p ws=[] then b else grw Z k o b (dnX Z p ws)) (if upX Z p ws=[] then a else grw Z k o a (upX Z p ws)):=by rw[grw]
 rw[z,if_neg e]
def jmo (n:Nat):Sp:=fun vs H Q _=>∃(v:V) (k:Int) (b o:Addr) (T:Tr) (p:Pt) (Z:Sht) (ws:List Tri) (c:Nat),vs=[v,.int k,.ref b,.ref o]/\TrAt H v T/\T.ht<n/\T.Good c/\c<900/\Is4 H o p/\PlG p/\SZ Z/\VF ws/\ws.length+T.ht<=16/\BdAt H Z b ws/\∀(t:Addr) (H':Hp),Same H H'->TrAt H' (.ref t) (grw Z k p T ws)->Q (.ref t) H'
theorem ji3 {f sv:V} {S:Tr} {k:Int} {o:Addr} {c:Nat} {R:VK} {E:XK} (hP:PtAt H Z f us) (hS:TrAt H sv S) (hn:S.ht<n) (hG:S.Good c) (c9:c<900) (ho:Is4 H o p) (hp:PlG p) (hZ:SZ Z) (hF:us≠[]->VF us) (l16:us.length+S.ht<=16)
  (q:∀(v':V) (H':Hp),Same H H'->TrAt H' v' (if us=[] then S else grw Z k p S us)->R v' H'):if f=.non then R sv H else jmo n [sv,.int k,f,.ref o] H R E:=by
 rcases hP with ⟨rfl,rfl⟩ | ⟨ne,r,rfl,hb⟩
 ·rw[if_pos rfl];exact q sv H (Same.refl _) (by rw[if_pos rfl];exact hS)
 ·rw[if_neg (fun z=>nomatch z)];exact⟨sv,k,r,o,S,p,Z,us,c,rfl,hS,hn,hG,c9,ho,hp,hZ,hF ne,l16,hb,fun t H' s' t'=>q _ H' s' (by rw[if_neg ne];exact t')⟩
theorem jmp (T:Tx K mg t1 t2) (F:At K mg "grown_with" jbu ["tree","number","board","own"] []) (dj:jan P w K mg base CX0 6 "cut_by" ["board","plane"] [] jfJ) (dz:jan P w K mg base CX0 (7+n) "grown_with" ["tree","number","board","own"] [] (jmo n)):jan P w K mg base CX0 (7+n+1) "grown_with" ["tree","number","board","own"] [] (jmo (n+1)):=by
 refine F.ok jca (fun vs H Q E h=>?_) (fun f cdv Ar outer s H vs Q E hr h=>?_)
 ·obtain⟨v,k,b,o,T,p,Z,ws,c,rfl,_⟩:=h;rfl
 obtain⟨v,k,b,o,Tt,p,Z,ws,c,rfl,hT,hn,hG,c9,ho,hp,hZ,hF,l16,hb,q⟩:=h;have S:=jca;refine⟨_,(jad (jaW (jau jeq (pv 0) ja6 (jax _))
  (jai (jas (jaG (jaa (pv 3) (jaa (jaG (jaa (jaG (jaa (pv 1) (jaa (pv 2) jac jaf) jaf)) jac jaE)) (jaa ja6 (jaa ja6 jac jam) jam) jaE) jaf))))
  jaz)
  (jad (jat (i:=4) S.nd rfl (Or.inl rfl) (jah dj (hr.mono (by omega)) rfl jav (jaa (pv 2) (jaa (jaj jal (pv 0) jab) jac jaq) jaf)))
  (jad (jaW (jau (jfu (jju hr)) (pv 4) (jaG (jaa ja6 (jaa ja6 jac jam) jam)) (jax _))
  (jai (jas (jaG (jaa (jaj jal (pv 0) jab) (jaa (jap jlA (jaj jal (pv 0) jab) (jaG (jaa (jaG (jaa (pv 1) (jaa (pv 2) jac jaf) jaf)) jac jaE))) (jaa (jaj jal (pv 0) jab) (jaa (jaj jal (pv 0) jab) jac jaq) jaq) jbb) jaq))))
  jaz)
  (jad (jat (i:=5) S.nd rfl (Or.inl rfl) (jeG (jau jeq (jaj jal (pv 4) jab) ja6 (jax _)) (jaj jal (pv 0) jab) (jah dz (hr.mono (by omega)) rfl jav (jaa (jaj jal (pv 0) jab) (jaa (pv 1) (jaa (jaj jal (pv 4) jab) (jaa (pv 3) jac jaf) jaq) jaf) jaq))))
  (jad (jat (i:=6) S.nd rfl (Or.inl rfl) (jeG (jau jeq (jaj jal (pv 4) jab) ja6 (jax _)) (jaj jal (pv 0) jab) (jah dz (hr.mono (by omega)) rfl jav (jaa (jaj jal (pv 0) jab) (jaa (pv 1) (jaa (jaj jal (pv 4) jab) (jaa (pv 3) jac jaf) jaq) jaf) jaq))))
  (jai (jas (jaG (jaa (jaj jal (pv 0) jab) (jaa (jaj jal (pv 0) jab) (jaa (pv 5) (jaa (pv 6) jac jaf) jaf) jaq) jaq))))))))),?_⟩
 walk_at "rf";refine jb2 (fun e=>?_) fun e=>?_
 ·subst e;cases hT;obtain⟨rs,hb1,hb2⟩:=hb;refine⟨by decide,fun p1 h1=>⟨by decide,fun p2 h2=>⟨by decide,fun p3 h3=>?_⟩⟩⟩;have j1:=Same.new h1 (.tup [.int k,.ref b]);have j2:=Same.new h2 (.tup [.ref p1]);have j3:=Same.new h3 (.tup [.ref o,.ref p2,.non,.non]);have jj:=j1.trans (j2.trans j3);exact q p3 _ jj (.nd (rs:=[p1]) jag (ho.keep jj) (j3 _ _ jag) (.cons ⟨b,j3 _ _ (j2 _ _ jag),rs,jj _ _ hb1,hb2.keep jj.t⟩ .nil) .nil .nil)
 cases hT with
 | nil=>exact absurd rfl e
 | @nd t g h rs vb va pl here B A h1 h2 h3 h4 h5 h6 =>
 obtain⟨g1,⟨g2,g3⟩,g4,g5⟩:=hG;have O:=hZ.ln _ g1;have hh:max B.ht A.ht+1<n+1:=hn;have l16':ws.length+(max B.ht A.ht+1)<=16:=l16;refine ixT (SqT.of h1) (i:=0) rfl ?_;refine jkc hF hZ.hw hZ.nz (by omega) (fun u hu=>hZ.sp u (hF.bi.vb u hu)) O.1 O.2.1 O.2.2.1 O.2.2.2 hb h2 fun t' H1 f0 f1 s1 e1 P0 P1=>?_;change PtAt H1 Z f0 (dnX Z pl ws) at P0;change PtAt H1 Z f1 (upX Z pl ws) at P1;refine⟨by decide,fun p1 hp1=>?_⟩;have j1:=Same.new hp1 (.tup [.non,.non]);have s01:=s1.trans j1;refine jmn (j1 _ _ e1) (P0.keep j1.t) (P1.keep j1.t) jag ⟨_,rfl,jb2 (fun cc=>?_) fun cc=>?_⟩
 ·have k1:SqT K (upd H1 p1 (.tup [.non,.non])) t [.ref g,.ref h,vb,va]:=SqT.of (s01 _ _ h1);refine ixT k1 (i:=0) rfl (ixT k1 (i:=1) rfl ⟨by decide,fun p2 hp2=>⟨by decide,fun p3 hp3=>?_⟩⟩);have j2:=Same.new hp2 (.tup [.int k,.ref b]);have j3:=Same.new hp3 (.tup [.ref p2]);have s03:=s01.trans (j2.trans j3);obtain⟨rb,hb1,hb2⟩:=hb;have lh:=h4.len;have cc':dnX Z pl ws=[]/\upX Z pl ws=[]:=of_decide_eq_true cc;rw[jgY cc'] at q;have fin:∀(x3 p4:Addr) (J:Hp),Same H J->(∃rs',J x3=some (.tup (rs'.map V.ref))/\All2 (PcAt J) rs' (here++[(k,rgs Z ws)]))->J p4=none->Q (.ref p4) (upd J p4 (.tup [.ref g,.ref x3,vb,va])):=fun x3 p4 J sJ ⟨rs',a1,a2⟩ n4=>by
   have j4:=Same.new n4 (.tup [.ref g,.ref x3,vb,va]);have sJ4:=sJ.trans j4;exact q p4 _ sJ4 (.nd jag (h2.keep sJ4) (j4 _ _ a1) (a2.mono fun _ _ h=>h.keep j4.t) (h5.keep sJ4.t) (h6.keep sJ4.t))
  have pcN:∀{J:Hp},Same (upd (upd (upd H1 p1 (.tup [.non,.non])) p2 (.tup [.int k,.ref b])) p3 (.tup [.ref p2])) J->PcAt J p2 (k,rgs Z ws):=fun j=>⟨b,j _ _ (j3 _ _ jag),rb,j _ _ (s03 _ _ hb1),(hb2.keep s03.t).keep j.t⟩;refine⟨h,p3,_,_,rfl,rfl,SqT.of (s03 _ _ h3),SqT.of jag,(fun z=>nomatch z),xa2 (jaF (by rw[xaa];show rs.length+1<1000;omega)),fun z=>?_,fun z p4 hp4=>?_⟩
  ·have k3:=SqT.of (K:=K) (s03 _ _ h1);have e0:rs=[]:=List.map_eq_nil_iff.mp z;have e1:here=[]:=xbh.mp (by rw[<- lh,e0];rfl);refine ixT k3 (i:=2) rfl (ixT k3 (i:=3) rfl ⟨by decide,fun p5 hp5=>fin p3 p5 _ s03 ⟨[p2],jag,?_⟩ hp5⟩);rw[e1];exact .cons (pcN (Same.refl _)) .nil
  ·have j4:=Same.new hp4 (.tup (rs.map V.ref++[.ref p2]));have k4:=SqT.of (K:=K) ((s03.trans j4) _ _ h1);exact ixT k4 (i:=2) rfl (ixT k4 (i:=3) rfl ⟨by decide,fun p5 hp5=>fin p4 p5 _ (s03.trans j4) ⟨rs++[p2],by rw[jag,xah];rfl,(h4.mono fun _ _ h=>h.keep (s03.trans j4).t).app (.cons (pcN j4) .nil)⟩ hp5⟩)
 ·unfold L2.tIf;walk_at "rf";generalize upd H1 p1 (.tup [.non,.non])=J at s01 j1;have vfU:upX Z pl ws≠[]->VF (upX Z pl ws):=jn8 hZ g1 hF;have vfD:dnX Z pl ws≠[]->VF (dnX Z pl ws):=jn9 hZ g1 hF;have lU:=jk7 (Z:=Z) (p:=pl) hF;have lD:=jk8 (Z:=Z) (p:=pl) hF;have P0':=P0.keep j1.t;have P1':=P1.keep j1.t;have cc':¬(dnX Z pl ws=[]/\upX Z pl ws=[]):=fun z=>by rw[decide_eq_true z] at cc;exact cc rfl
  rw[jgZ cc'] at q;have e1':=j1 _ _ e1;have ja9:∀(vb' va':V) (H':Hp) (B' A':Tr),Same J H'->TrAt H' vb' B'->TrAt H' va' A'->B'=(if dnX Z pl ws=[] then B else grw Z k p B (dnX Z pl ws))->A'=(if upX Z pl ws=[] then A else grw Z k p A (upX Z pl ws))->(jek K (V.ref t) (V.int 0) H' fun x_3 H1=>jek K (V.ref t) (V.int 1) H1 fun x_4 H1=>4<=sizeLine/\∀(p:Addr),H1 p=none->Q (V.ref p) (upd H1 p (HO.tup [x_3,x_4,vb',va']))):=fun vb' va' H' B' A' sJ tB tA eB eA=>by
   subst eB eA;have sH:=s01.trans sJ;have k3:=SqT.of (K:=K) (sH _ _ h1);refine ixT k3 (i:=0) rfl (ixT k3 (i:=1) rfl ⟨by decide,fun p hp=>?_⟩);have j:=Same.new hp (.tup [.ref g,.ref h,vb',va']);exact q p _ (sH.trans j) (.nd jag (h2.keep (sH.trans j)) ((sH.trans j) _ _ h3) (h4.mono fun _ _ h=>h.keep (sH.trans j).t) (tB.keep j.t) (tA.keep j.t))
  have second:∀(x:V) (H':Hp) (B':Tr),Same J H'->TrAt H' x B'->B'=(if dnX Z pl ws=[] then B else grw Z k p B (dnX Z pl ws))->(jek K (V.ref t') (V.int 1) H' fun x_1 H1=>if x_1=V.non then jek K (V.ref t) (V.int 3) H1 fun x_2 H1=>jek K (V.ref t) (V.int 0) H1 fun x_3 H1=>jek K (V.ref t) (V.int 1) H1 fun x_4 H1=>4<=sizeLine/\∀(p:Addr),H1 p=none->Q (V.ref p) (upd H1 p (HO.tup [x_3,x_4,x,x_2])) else jek K (V.ref t) (V.int 3) H1 fun x_2 H1=>jek K (V.ref t') (V.int 1) H1 fun x_3 H1=>jmo n [x_2,V.int k,x_3,V.ref o] H1 (fun x_4 H1=>jek K (V.ref t) (V.int 0) H1 fun x_5 H1=>jek K (V.ref t) (V.int 1) H1 fun x_6 H1=>4<=sizeLine/\∀(p:Addr),H1 p=none->Q (V.ref p) (upd H1 p (HO.tup [x_5,x_6,x,x_4]))) E0):=fun x H' B' sJ tB eB=>by
   have sH:=s01.trans sJ;have kt:=SqT.of (K:=K) (sH _ _ h1);have kp:=SqT.of (K:=K) (sJ _ _ e1');have sd:=ji3 (n:=n) (E:=E0) (k:=k) (P1'.keep sJ.t) (h6.keep sH.t) (by omega) g5 c9 (ho.keep sH) hp hZ vfU (by omega) fun v' H'' s' t'=>ja9 x v' H'' B' _ (sJ.trans s') (tB.keep s'.t) t' eB rfl;refine ixT kp (i:=1) rfl (jb2 (fun z=>ixT kt (i:=3) rfl ?_) fun z=>ixT kt (i:=3) rfl (ixT kp (i:=1) rfl ?_))
   ·rw[if_pos z] at sd;exact sd
   ·rw[if_neg z] at sd;exact sd
  have kt:=SqT.of (K:=K) (s01 _ _ h1);have kp:=SqT.of (K:=K) e1';have sd:=ji3 (n:=n) (E:=E0) (k:=k) P0' (h5.keep s01.t) (by omega) g4 c9 (ho.keep s01) hp hZ vfD (by omega) fun v' H'' s' t'=>second v' H'' _ s' t' rfl;refine ixT kp (i:=0) rfl (jb2 (fun z=>ixT kt (i:=2) rfl ?_) fun z=>ixT kt (i:=2) rfl (ixT kp (i:=0) rfl ?_))
  ·rw[if_pos z] at sd;exact sd
  ·rw[if_neg z] at sd;exact sd
theorem jk9 (T:Tx K mg t1 t2) (F:At K mg "grown_with" jbu ["tree","number","board","own"] []) (dj:jan P w K mg base CX0 6 "cut_by" ["board","plane"] [] jfJ):∀n:Nat,jan P w K mg base CX0 (7+n) "grown_with" ["tree","number","board","own"] [] (jmo n)
 | 0=>F.ok (k:=6) jca (fun vs H Q E ⟨_,_,_,_,_,_,_,_,_,_,_,z,_⟩=>absurd z (xbT _)) fun f cdv Ar outer s H vs Q E hr ⟨_,_,_,_,_,_,_,_,_,_,_,z,_⟩=>absurd z (xbT _)
 | n+1=>jmp T F dj (jk9 T F dj n)
theorem ok_gx (T:Tx K mg t1 t2) (F:At K mg "grown_with" jbu ["tree","number","board","own"] []) (dj:jan P w K mg base CX0 6 "cut_by" ["board","plane"] [] jfJ):jan P w K mg base CX0 16 "grown_with" ["tree","number","board","own"] [] (jmo 9):=by
 exact jk9 T F dj 9
theorem jkg {A B C:Nat} {b z u v w:Int} (ha:Bd A a) (hb:Bd B b) (hc:Bd C c) (hx:Bd A x) (hy:Bd B y) (hz:Bd C z) (hu:Bd A u) (hv:Bd B v) (hw:Bd C w):Bd (A+B+C+3) (jby a b c x y z u v w):=by
 unfold jby;have e1:=Bd.mono (m:=A+B+C+1) (Bd.mul (Bd.sub (Bd.mul hb hz) (Bd.mono (Bd.mul hc hy) (m:=B+C) (by omega))) hu) (by omega);have e2:=Bd.mono (m:=A+B+C+1) (Bd.mul (Bd.sub (Bd.mul hc hx) (Bd.mono (Bd.mul ha hz) (m:=C+A) (by omega))) hv) (by omega);have e3:=Bd.mono (m:=A+B+C+2) (Bd.mul (Bd.sub (Bd.mul ha hy) (Bd.mono (Bd.mul hb hx) (m:=A+B) (by omega))) hw) (by omega);exact Bd.add (Bd.add e1 e2) e3
def Cn (p:Pt):Prop:=(Bd 28 p.x/\Bd 28 p.y/\Bd 28 p.z)/\Bd 2 p.w/\1<=p.w
theorem jmq {a b c:Pt} (ha:Cn a) (hb:Cn b) (hc:Cn c):∃p:Pt,pln (rgh a b c)=[p.x,p.y,p.z,p.w]/\PlG p:=by
 obtain⟨⟨a1,a2,a3⟩,a4,_⟩:=ha;obtain⟨⟨b1,b2,b3⟩,b4,_⟩:=hb;obtain⟨⟨c1,c2,c3⟩,c4,_⟩:=hc;have m0:Bd 66 (jay 0 a b c):=by show Bd 66 (jby a.y a.z a.w b.y b.z b.w c.y c.z c.w);exact Bd.mono (jkg a2 a3 a4 b2 b3 b4 c2 c3 c4)
 have m1:Bd 66 (-jay 1 a b c):=by show Bd 66 (-jby a.x a.z a.w b.x b.z b.w c.x c.z c.w);exact (Bd.mono (jkg a1 a3 a4 b1 b3 b4 c1 c3 c4)).neg
 have m2:Bd 66 (jay 2 a b c):=by show Bd 66 (jby a.x a.y a.w b.x b.y b.w c.x c.y c.w);exact Bd.mono (jkg a1 a2 a4 b1 b2 b4 c1 c2 c4)
 have m3:Bd 94 (jay 3 a b c):=by show Bd 94 (jby a.x a.y a.z b.x b.y b.z c.x c.y c.z);exact Bd.mono (jkg a1 a2 a3 b1 b2 b3 c1 c2 c3)
 unfold rgh;generalize jay 0 a b c=x at m0;generalize -jay 1 a b c=y at m1;generalize jay 2 a b c=z at m2;generalize jay 3 a b c=v at m3;have e:pln [x,y,z,v]=if plb (x / gl [x,y,z,v]) (y / gl [x,y,z,v]) (z / gl [x,y,z,v])=true then [x / gl [x,y,z,v],y / gl [x,y,z,v],z / gl [x,y,z,v],v / gl [x,y,z,v]] else [-(x / gl [x,y,z,v]),-(y / gl [x,y,z,v]),-(z / gl [x,y,z,v]),-(v / gl [x,y,z,v])]:=rfl;rw[e];by_cases h:plb (x / gl [x,y,z,v]) (y / gl [x,y,z,v]) (z / gl [x,y,z,v])=true
 ·rw[if_pos h];exact⟨⟨_,_,_,_⟩,rfl,⟨Bd.div m0,Bd.div m1,Bd.div m2⟩,Bd.div m3⟩
 ·rw[if_neg h];exact⟨⟨_,_,_,_⟩,rfl,⟨Bd.neg (Bd.div m0),Bd.neg (Bd.div m1),Bd.neg (Bd.div m2)⟩,Bd.neg (Bd.div m3)⟩
theorem PlG.sm (h:PlG p):p.sm:=⟨Bd.mono h.1.1,Bd.mono h.1.2.1,Bd.mono h.1.2.2,Bd.mono h.2⟩
def OB (ps:List Pt):Prop:=(∃(Z:Sht) (ws:List Tri),SZ Z/\VF ws/\ws.length<=6/\ps=frm (ws.map (spt Z)) (ws.map (spt Z)))/\∀p∈ps,Cn p
def chkR (vs:List Tri):Bool:=((List.range vs.length).all fun i=>(List.range vs.length).all fun j=>(List.range vs.length).all fun k=>!(decide (i<j)&&decide (j<k))||decide (0<dt (tr vs i) (tr vs j) (tr vs k)))&&vs.all fun v=>decide (1<=v.z)
theorem ji4 (h:chkR vs=true):TpL vs/\∀v∈vs,1<=v.z:=by
 unfold chkR at h;rw[xbL] at h;obtain⟨h1,h2⟩:=h;refine⟨fun i j k ij jk kn=>?_,fun v hv=>of_decide_eq_true (xbf.mp h2 v hv)⟩;have z:=xbf.mp (xbf.mp (xbf.mp h1 i (xaU.mpr (by omega))) j (xaU.mpr (by omega))) k (xaU.mpr kn);rw[decide_eq_true ij,decide_eq_true jk] at z;exact of_decide_eq_true z
theorem ji5:∀i,i<6->chkR (shp i)=true:=by decide +kernel
theorem ji6:∀i,i<6->∀v∈shp i,(v.x.natAbs<=2/\v.y.natAbs<=2)/\v.z=1:=by decide +kernel
theorem jmr:∀i,i<6->3<=(shp i).length/\(shp i).length<=6:=by decide +kernel
theorem ji7 (h:i<6):Rng (shp i):=⟨(jmr i h).1,(ji4 (ji5 i h)).1,(ji4 (ji5 i h)).2⟩
theorem joa (h:i<6):VF (shp i):=VF.six (ji7 h) fun v hv=>by
 obtain⟨⟨h1,h2⟩,h3⟩:=ji6 i h v hv;refine⟨?_,?_,?_⟩<;>(unfold Bd;omega)
theorem RawB.bds (h:RawB n Z) (n9:n<=9):(Bd 27 Z.s.x/\Bd 27 Z.s.y/\Bd 27 Z.s.z)/\Bd 2 Z.w/\(Bd 20 Z.c.x/\Bd 20 Z.c.y/\Bd 20 Z.c.z)/\Bd 20 Z.d.x/\Bd 20 Z.d.y/\Bd 20 Z.d.z:=by
 have h1:=h.sx;have h2:=h.sy;have h3:=h.sz;have h4:=h.w1;have h5:=h.w3;have h6:=h.c;have h7:=h.d;unfold Bd;omega
theorem sz_of (h:RawOk n Z) (n9:n<=9):SZ Z:=by
 obtain⟨⟨s1,s2,s3⟩,hw,⟨c1,c2,c3⟩,d1,d2,d3⟩:=h.b.bds n9;refine⟨h.b.w1,h.nz,fun v ⟨v1,v2,v3⟩=>?_,fun p ⟨⟨p1,p2,p3⟩,p4⟩=>?_⟩
 ·have one:∀{s c d:Int},Bd 27 s->Bd 20 c->Bd 20 d->Bd 252 (s*v.z+Z.w*(v.x*c+v.y*d)):=fun hs hc hd =>
   Bd.mono (Bd.add (n:=248) (Bd.mono (Bd.mul hs v3)) (Bd.mono (Bd.mul hw (Bd.add (n:=241) (Bd.mul v1 hc) (Bd.mul v2 hd)))))
  exact⟨Bd.div (one s1 c1 d1),Bd.div (one s2 c2 d2),Bd.div (one s3 c3 d3),Bd.div (Bd.mono (Bd.mul hw v3))⟩
 ·have one:∀{c d e:Int},Bd 20 c->Bd 20 d->Bd 20 e->Bd 110 (Z.w*(p.x*c+p.y*d+p.z*e)):=fun hc hd he =>
   Bd.mono (Bd.mul hw (Bd.add (n:=87) (Bd.add (n:=86) (Bd.mul p1 hc) (Bd.mul p2 hd)) (Bd.mono (Bd.mul p3 he))))
  refine⟨⟨Bd.mono p1,Bd.mono p2,Bd.mono p3,Bd.mono p4⟩,one c1 c2 c3,one d1 d2 d3,?_⟩;exact Bd.mono (Bd.sub (n:=96) (Bd.mono (Bd.add (n:=94) (Bd.add (n:=93) (Bd.mul p1 s1) (Bd.mul p2 s2)) (Bd.mono (Bd.mul p3 s3)))) (Bd.mul p4 hw))
theorem cn_of (h:RawOk n Z) (n9:n<=9) (hi:i<6):∀v∈shp i,Cn (spt Z v):=fun v hv=>by
 obtain⟨⟨h1,h2⟩,h3⟩:=ji6 i hi v hv;obtain⟨B1,B2,B3,B4⟩:=jk5 h.b n9 h1 h2 h3;refine⟨⟨Bd.mono (Bd.div B1),Bd.mono (Bd.div B2),Bd.mono (Bd.div B3)⟩,?_,jfI h.b.w1 (show 1<=v.z by omega)⟩;show Bd 2 (rW Z v / rG Z v);rw[jiZ h3];exact Bd.div (h.b.bds n9).2.1
theorem ob_of (h:RawOk n Z) (n9:n<=9) (hi:i<6) (r:ps=frm ((shp i).map (spt Z)) ((shp i).map (spt Z))):OB ps:=by
 refine⟨⟨Z,shp i,sz_of h n9,joa hi,(jmr i hi).2,r⟩,fun p hp=>?_⟩;obtain⟨v,hv,e⟩:=xaz.mp ((jeC _ _).mem.mp (show p∈frm ((shp i).map (spt Z)) ((shp i).map (spt Z)) by rw[<- r];exact hp));rw[<- e];exact cn_of h n9 hi v hv
def job (m:Nat) (H:Hp) (S:Addr) (xs:List (Int × List Pt)):Prop:=∃rs,H S=some (.lst (rs.map V.ref))/\All2 (PcAt H) rs xs/\(∀x∈xs,OB x.2)/\xs.length=m/\(xs.map (·.1)).Nodup
def joc (m:Nat) (H:Hp) (R:Addr):Prop:=∃(rs:List Addr) (zs:List (Sht × Nat)),H R=some (.lst (rs.map V.ref))/\All2 (RwAt 8 H) rs zs/\zs.length=m
theorem jg0:∀us:List Int,∃M:Int,∀u∈us,u<M
  | []=>⟨0,fun _ z=>nomatch z⟩
  | u :: us => by
    obtain⟨M,h⟩:=jg0 us;refine⟨max M (u+1),fun v hv=>?_⟩;rcases xav.mp hv with rfl | hv
    . omega
    . have:=h v hv
      omega
theorem jkh (xs:List Int):(xs.map V.int).all jeJ=true:=by
 rw[xbf];intro v hv;obtain⟨x,_,rfl⟩:=xaz.mp hv;rfl
theorem jms (x:Int) (xs:List Int):inV (.int x) (xs.map V.int)=decide (x∈xs):=by
 unfold inV;rw[List.any_map];have e:(xs.any ((fun z=>eqV z (.int x))∘V.int))=xs.any fun z=>z==x:=rfl;rw[e];by_cases c:x∈xs
 ·rw[decide_eq_true c,List.any_eq_true];exact⟨x,c,beq_self_eq_true x⟩
 ·rw[decide_eq_false c,List.any_eq_false];intro z hz e;exact c (by rw[<- eq_of_beq e];exact hz)
def jla (K:PySem.W.Frag):Sp:=fun vs H Q _=>∃(a:Addr) (cs:List Int),vs=[.ref a]/\SqL K H a (cs.map V.int)/\cs.length<=5/\∀(t S R:Addr) (H':Hp) (xs:List (Int × List Pt)),Same H H'->H S=none->H R=none->H' t=some (.tup [.ref S,.ref R])->job cs.length H' S xs->joc cs.length H' R->Q (.ref t) H'
theorem jmt (T:Tx K mg t1 t2) (F:At K mg "_law_some" jcY ["cells"] []) (Dd:jan P w K mg base CX0 1 "_law_state" ["cell"] [] jnV) (Dh:jan P w K mg base CX0 3 "_law_raw" ["state","made"] [] jn3) (db:jan P w K mg base CX0 1 "_law_next" ["state","many"] [] spNx) (dX:jan P w K mg base CX0 4 "_law_corners" ["raw"] [] jk6) (dF:jan P w K mg base CX0 6 "made_board" ["corners"] [] jf5):jan P w K mg base CX0 7 "_law_some" ["cells"] [] (jla K):=by
 refine F.ok jdB (fun vs H Q E h=>?_) (fun f cdv A outer s H vs Q E hr h=>?_)
 ·obtain⟨a,cs,rfl,_⟩:=h;rfl
 obtain⟨a,cs,rfl,k1,l5,q⟩:=h;have S:=jdB;refine⟨_,(jad (jat (i:=1) S.nd rfl (Or.inl rfl) (jbk jac))
  (jad (jat (i:=2) S.nd rfl (Or.inl rfl) (jbk jac))
  (jad (jat (i:=3) S.nd rfl (Or.inl rfl) (jbk jac))
  (jad (jbx PassesOwn.never rfl (jbN (pv 0)) (jao (i:=4) S.nd rfl (Or.inl rfl))
  (jad (jat (i:=5) S.nd rfl (Or.inl rfl) (jah Dd hr.m rfl jav (jaa (pv 4) jac jaf)))
  (jad (jbY (jeL PySem.F.plainAttrs_list PySem.F.slot_list_append PySem.F.type_list_append jba (pv 1) (jaa (jah Dh hr.m rfl jav (jaa (pv 5) (jaa (pv 1) jac jaf) jaf)) jac jaI)))
  (jad (jat (i:=6) S.nd rfl (Or.inl rfl) (jap jaZ (jah db hr.m rfl jav (jaa (pv 5) (jaa (jaj ix_list (jbk (jaa jab (jaa jab (jaa jab jac jam) jam) jam)) (jah db hr.m rfl jav (jaa (pv 5) (jaa jab jac jam) jaf))) jac jaq) jaf)) jab))
  (jad (jdG PassesOwn.never (jau jhW (pv 6) (pv 3) rfl)
  (jai (jat (i:=6) S.nd rfl (Or.inl rfl) (jap jbl (pv 6) jab))))
  (jad (jbY (jeL PySem.F.plainAttrs_list PySem.F.slot_list_append PySem.F.type_list_append jba (pv 3) (jaa (pv 6) jac jaf)))
  (jai (jbY (jeL PySem.F.plainAttrs_list PySem.F.slot_list_append PySem.F.type_list_append jba (pv 2) (jaa (jaG (jaa (pv 6) (jaa (jah dF hr.m rfl jav (jaa (jah dX hr.m rfl jav (jaa (jaj ix_list (pv 1) (jdE jcb jab)) jac jaq)) jac jaI)) jac jaI) jaf)) jac jaE))))))))))
  (jai (jas (jaG (jaa (pv 2) (jaa (pv 1) jac jaf) jaf)))))))),?_⟩
 walk_at "rf";refine⟨by decide,fun R hR=>⟨by decide,fun S hS=>⟨by decide,fun U hU=>?_⟩⟩⟩;have j1:=Same.new hR (.lst []);have j2:=Same.new hS (.lst []);have j3:=Same.new hU (.lst []);have RS:R≠S:=jaA (show upd H R (.lst []) R=some (.lst []) from jag) hS;have RU:R≠U:=jaA (j2 _ _ (show upd H R (.lst []) R=some (.lst []) from jag)) hU;have SU:S≠U:=jaA (show upd (upd H R (.lst [])) S (.lst []) S=some (.lst []) from jag) hU;have eR0:=j3 _ _ (j2 _ _ (show upd H R (.lst []) R=some (.lst []) from jag));have eS0:=j3 _ _ (show upd (upd H R (.lst [])) S (.lst []) S=some (.lst []) from jag);have eU0:upd (upd (upd H R (.lst [])) S (.lst [])) U (.lst []) U=some (.lst []):=jag;have hS0:=j1.noneN hS;have hU0:=j1.noneN (j2.noneN hU);have s0:=j1.trans (j2.trans j3);generalize upd (upd (upd H R (.lst [])) S (.lst [])) U (.lst [])=H0 at eR0 eS0 eU0 s0 |-
 clear j1 j2 j3 hS hU;refine⟨⟨_,s0.seq k1⟩,jb0 (K:=K) (a:=a) (xs:=cs.map V.int) (fun i σ Hh=>∃(o4 o5 o6:Option V) (rs:List Addr) (zs:List (Sht × Nat)) (ps:List Addr) (xs:List (Int × List Pt)) (us:List Int),σ=[some (.ref a),some (.ref R),some (.ref S),some (.ref U),o4,o5,o6]/\Same H Hh/\(Hh R=some (.lst (rs.map V.ref))/\All2 (RwAt i Hh) rs zs/\zs.length=i)/\(Hh S=some (.lst (ps.map V.ref))/\All2 (PcAt Hh) ps xs/\(∀x∈xs,OB x.2)/\xs.length=i)/\Hh U=some (.lst (us.map V.int))/\us.length=i/\us=xs.map (·.1)/\us.Nodup) ⟨_,_,_,[],[],[],[],[],rfl,s0,⟨eR0,.nil,rfl⟩,⟨eS0,.nil,(fun _ z=>nomatch z),rfl⟩,eU0,rfl,rfl,xbK⟩ (fun i σ Hh _ ⟨_,_,_,_,_,_,_,_,_,sx,_⟩=>sx.seq k1) ?_ ?_⟩
 ·rintro i v σ Hh hi ⟨o4,o5,o6,rs,zs,ps,xs,us,rfl,sx,⟨eR,aR,lz⟩,⟨eS,aS,ob,lx⟩,eU,lu,eus,nd⟩;obtain⟨c,rfl,hc⟩:=jic hi;have il:i<cs.length:=(xaf.mp hc).1;have lrs:=aR.len;have lps:=aS.len;walk_at "rf";refine⟨c,rfl,fun L H1 nL s1 b1=>?_⟩;have RL:R≠L:=jaA eR nL;have SL:S≠L:=jaA eS nL;have UL:U≠L:=jaA eU nL;refine⟨.inl ⟨_,SqL.of (s1 _ _ eR)⟩,L,R,i,rs,zs,rfl,b1,RL,s1 _ _ eR,aR.mono fun _ _ h=>h.keep s1.t,by omega,by omega,fun t H2 z s2 b2 hz=>?_⟩;have R2:=s2 _ _ RL (s1 _ _ eR);have S2:=s2 _ _ SL (s1 _ _ eS);have U2:=s2 _ _ UL (s1 _ _ eU);have t2:SameT Hh H2:=s1.t.trans (b1.t s2);have x2:Same H H2:=fun b o e=>s2 b o (fun z=>by rw[z] at e;rw[sx _ _ e] at nL;cases nL) (s1 _ _ (sx _ _ e));refine⟨R,_,_,rfl,rfl,R2,jaF (by rw[xaa];omega),?_⟩;have nR:H R=none:=hR;have nLH:H L=none:=sx.noneN nL;have tu:=SameT.upd (ys:=rs.map V.ref++[V.ref t]) R2;have aR3:All2 (RwAt (i+1) (upd H2 R (.lst (rs.map V.ref++[V.ref t])))) (rs++[t]) (zs++[z]):=(aR.mono fun _ _ h=>(RwAt.keep (n:=i+1) ⟨h.1,h.2.mono (by omega)⟩ (t2.trans tu))).app (.cons (hz.keep tu) .nil);have aS3:All2 (PcAt (upd H2 R (.lst (rs.map V.ref++[V.ref t])))) ps xs:=aS.mono fun _ _ h=>h.keep (t2.trans tu);have R3:upd H2 R (.lst (rs.map V.ref++[V.ref t])) R=some (.lst ((rs++[t]).map V.ref)):=by rw[jag,xah];rfl
  have S3:upd H2 R (.lst (rs.map V.ref++[V.ref t])) S=some (.lst (ps.map V.ref)):=by rw[jaK (Ne.symm RS)];exact S2
  have U3:upd H2 R (.lst (rs.map V.ref++[V.ref t])) U=some (.lst (us.map V.int)):=by rw[jaK (Ne.symm RU)];exact U2
  have x3:Same H (upd H2 R (.lst (rs.map V.ref++[V.ref t]))):=Same.keepN x2 nR _;have b3:Sta (upd H2 R (.lst (rs.map V.ref++[V.ref t]))) L:=by
   obtain⟨p,q,h1,h2⟩:=b2;exact⟨p,q,by rw[jaK (Ne.symm RL)];exact h1,h2⟩
  have hz3:=hz.keep tu;have e3:(rs++[t]).length=i+1:=by rw[xad,lrs,lz];rfl
  have e3':(rs++[t])[i]?=some t:=by rw[xau (by omega)];rw[show i-rs.length=0 by omega];rfl
  have e4:(zs++[z]).length=i+1:=by rw[xad,lz];rfl
  generalize upd H2 R (.lst (rs.map V.ref++[V.ref t]))=H3 at tu aR3 aS3 R3 S3 U3 x3 b3 hz3 |-
  generalize rs++[t]=rs' at aR3 R3 e3 e3';generalize zs++[z]=zs' at aR3 e4;clear tu t2 R2 S2 U2 x2 s2 b2 s1 b1 eR aR eS aS eU hz;refine⟨by decide,fun p hp=>?_⟩;refine jeh hp fun H4 j ep=>?_;refine⟨L,3,rfl,b3.keep j,by decide,by decide,fun H5 d s5 b5 d0 d3=>?_⟩;obtain⟨m,em,m1,m2⟩:∃m:Int,atI [V.int 9,V.int 9,V.int 2000001] d=some (.int m)/\0<m/\m<2^60:=by
   have:d=0\/d=1\/d=2:=by omega
   rcases this with rfl | rfl | rfl
   ·exact⟨9,rfl,by decide,by decide⟩
   ·exact⟨9,rfl,by decide,by decide⟩
   ·exact⟨2000001,rfl,by decide,by decide⟩
  refine ixL (SqL.of (s5 _ _ (b3.ne hp) ep)) em ⟨L,m,rfl,b5,m1,m2,fun H6 k s6 b6 k0 km=>⟨k,rfl,?_⟩⟩;have s36:SameB L H3 H6:=j.b.trans (s5.trans s6);have t36:SameT H3 H6:=b3.t s36;have R6:=s36 _ _ RL R3;have S6:=s36 _ _ SL S3;have U6:=s36 _ _ UL U3;have x6:Same H H6:=fun b o e=>s36 b o (jaA e nLH) (x3 _ _ e);have aR6:=aR3.mono fun _ _ h=>RwAt.keep h t36;have aS6:=aS3.mono fun _ _ h=>PcAt.keep h t36;have hz6:=hz3.keep t36;clear s36 t36 s6 s5 j ep R3 S3 U3 x3 aR3 aS3 hz3;obtain⟨M,hM⟩:=jg0 us;generalize k-4=a0;refine⟨fun n σ Hk=>Hk=H6/\∃y:Int,σ=[some (.ref a),some (.ref R),some (.ref S),some (.ref U),some (.int c),some (.ref L),some (.int y)]/\n=(M-y).toNat,⟨_,rfl,a0,rfl,rfl⟩,?_⟩;rintro n σ Hk ⟨rfl,y,rfl,rfl⟩;walk_at "rf";refine⟨U,_,rfl,.inl (SqL.of U6),rfl,jkh us,?_⟩;rw[jms];refine⟨_,rfl,jb2 (fun cc=>?_) fun cc=>?_⟩
  ·rw[if_neg (by decide)] at cc;have yu:y∈us:=of_decide_eq_true cc;exact⟨fun σ' H'=>σ'=[some (.ref a),some (.ref R),some (.ref S),some (.ref U),some (.int c),some (.ref L),some (.int (y+1))]/\H'=Hk,fun σ' H' ⟨h1,h2⟩=>⟨(M-(y+1)).toNat,by have:=hM y yu;omega,h2,y+1,h1,rfl⟩,rfl,rfl⟩
  rw[if_neg (by decide)] at cc;have yn:y∉us:=fun h=>cc (decide_eq_true h);refine⟨.inl ⟨_,SqL.of U6⟩,U,_,_,rfl,rfl,U6,jaF (by rw[xaa];omega),?_⟩;have tu:=SameT.upd (ys:=us.map V.int++[V.int y]) U6;have R7:upd Hk U (.lst (us.map V.int++[V.int y])) R=some (.lst (rs'.map V.ref)):=by rw[jaK RU];exact R6
  have S7:upd Hk U (.lst (us.map V.int++[V.int y])) S=some (.lst (ps.map V.ref)):=by rw[jaK SU];exact S6
  have U7:upd Hk U (.lst (us.map V.int++[V.int y])) U=some (.lst ((us++[y]).map V.int)):=by rw[jag,xah];rfl
  have x7:Same H (upd Hk U (.lst (us.map V.int++[V.int y]))):=Same.keepN x6 hU0 _;have aR7:=aR6.mono fun _ _ h=>RwAt.keep h tu;have aS7:=aS6.mono fun _ _ h=>PcAt.keep h tu;have hz7:=hz6.keep tu;generalize upd Hk U (.lst (us.map V.int++[V.int y]))=H7 at tu R7 S7 U7 x7 aR7 aS7 hz7 |-
  refine⟨.inl ⟨_,SqL.of S7⟩,ixL (SqL.of R7) (jb9 (n:=i) (v:=.ref t) (by rw[xaa];exact e3) (by rw[xal,e3'];rfl)) ?_⟩;have h6:z.2<6:=by
   obtain⟨⟨_,_,_,_,_,_,_,h⟩,_⟩:=hz7;exact h
  refine⟨t,i+1,z,rfl,hz7,by omega,fun l H8 ws nl s8 hc8=>?_⟩;refine⟨l,ws,_,rfl,hc8,jgW hz7.2.b.w1 hz7.2.nz (ji7 h6) (by have:=(jmr z.2 h6).2;omega),fun bt H9 s9 e9=>⟨by decide,fun p hp=>?_⟩⟩;have j:=Same.new hp (.tup [.int y,.ref bt]);have s710:=(s8.trans s9).trans j;have ep:upd H9 p (.tup [.int y,.ref bt]) p=some (.tup [.int y,.ref bt]):=jag;have ebt:=j _ _ e9;have sbt:=Sps.frm (ps:=(shp z.2).map (spt z.1)) ((hc8.2.keep s9.t).keep j.t);generalize upd H9 p (.tup [.int y,.ref bt])=H10 at j s710 ep ebt sbt |-
  have S10:=s710 _ _ S7;have tu2:=SameT.upd (ys:=ps.map V.ref++[V.ref p]) S10;refine⟨S,_,_,rfl,rfl,S10,jaF (by rw[xaa];omega),Same.keepN (x7.trans s710) hS0 _,rs',by rw[jaK RS];exact s710 _ _ R7,zs',aR7.mono fun _ _ h=>RwAt.keep h (s710.t.trans tu2),e4,ps++[p],by rw[jag,xah];rfl,xs++[(y,frm ((shp z.2).map (spt z.1)) ((shp z.2).map (spt z.1)))],(aS7.mono fun _ _ h=>PcAt.keep h (s710.t.trans tu2)).app (.cons (PcAt.keep ⟨bt,ep,_,ebt,sbt⟩ tu2) .nil),fun x hx=>?_,by rw[xad,lx];rfl,us++[y],by rw[jaK (Ne.symm SU)];exact s710 _ _ U7,by rw[xad,lu];rfl,by rw[xah,<- eus];rfl,List.nodup_append.mpr ⟨nd,by simp,fun a ha b hb e=>yn (by rw[<- xas.mp hb,<- e];exact ha)⟩⟩;rcases xaO.mp hx with hx | hx
  ·exact ob x hx
  ·rw[xas.mp hx];exact ob_of hz7.2 (by omega) h6 rfl
 ·rintro σ Hh ⟨o4,o5,o6,rs,zs,ps,xs,us,rfl,sx,⟨eR,aR,lz⟩,⟨eS,aS,ob,lx⟩,eU,lu,eus,nd⟩;rw[xaa] at aR lz lx;walk_at "rf";refine⟨by decide,fun p hp=>?_⟩;have j:=Same.new hp (.tup [.ref S,.ref R]);exact q p S R _ xs (sx.trans j) hS0 hR jag ⟨ps,j _ _ eS,aS.mono fun _ _ h=>h.keep j.t,ob,lx,by rw[<- eus];exact nd⟩ ⟨rs,zs,j _ _ eR,aR.mono fun _ _ h=>RwAt.keep ⟨h.1,h.2.mono (by omega)⟩ j.t,lz⟩
def pcD (x:Int × List Pt):PyData:=.tuple [.int x.1,jlL x.2]
theorem PcAt.rds {x:Int × List Pt} (h:PcAt H r x):Rds K H (.ref r) (pcD x):=by
 obtain⟨t,e,rs,e1,e2⟩:=h;exact .tup (SqT.of e) (.cons (.int _) (.cons (jip e1 e2) .nil))
theorem jge {rs:List Addr} {xs:List (Int × List Pt)} (h:All2 (PcAt H) rs xs):RdsAll K H (rs.map V.ref) (xs.map pcD):=by
 induction h with
 | nil=>exact .nil
 | cons h _ ih=>exact .cons h.rds ih
theorem ji8 (xs:List (Int × List Pt)):PyData.canLayAll0 (xs.map pcD)=true/\PyData.depthAll (xs.map pcD)<=3:=by
  induction xs with
  | nil=>exact⟨rfl,by decide⟩
  | cons x xs ih =>
    obtain⟨a,b⟩:=ih;obtain⟨l1,l2,_⟩:=jiq x.2;refine⟨?_,?_⟩
    . rw[xaw]
      simp [PyData.canLayAll0,a,pcD,PyData.canLay0,l1]
    . rw[xaw]
      simp [PyData.depthAll,pcD,PyData.depth];omega
def jod:Sp:=fun vs H Q _=>∃x y:Int,vs=[.int x,.int y]/\Q (.int (Int.gcd x y:Nat)) H
theorem joe (T:Tx K mg t1 t2) (F:At K mg "_law_divisor" jbS ["one","other"] []):jan P w K mg base CX0 1 "_law_divisor" ["one","other"] [] jod:=by
 refine F.ok jcu (fun vs H Q E h=>?_) (fun f cdv A outer s H vs Q E hr h=>?_)
 ·obtain⟨x,y,rfl,_⟩:=h;rfl
 obtain⟨x,y,rfl,q⟩:=h;have S:=jcu;refine⟨_,(jad (jat (i:=0) S.nd rfl (Or.inl rfl) (jaw jcF rfl T.m_abs boot_abs (jaa (pv 0) jac jaf)))
  (jad (jat (i:=1) S.nd rfl (Or.inl rfl) (jaw jcF rfl T.m_abs boot_abs (jaa (pv 1) jac jaf)))
  (jad (jdG PassesOwn.never (jau jfY (pv 1) jab (jax _))
  (jai (jm0 (i:=0) (j:=1) rfl S.nd rfl rfl (by decide) rfl rfl (jaa (pv 1) (jaa (jap jbI (pv 0) (pv 1)) jac jbb) jaf) rfl)))
  (jai (jas (pv 0)))))),?_⟩
 walk_at "rf";refine⟨fun n σ H3=>H3=H/\∃(a b:Int),σ=[some (.int a),some (.int b)]/\0<=a/\0<=b/\Int.gcd a b=Int.gcd x y/\n=b.natAbs,⟨_,rfl,_,_,rfl,by split<;>omega,by split<;>omega,?_,rfl⟩,?_⟩
 ·split<;>split<;>simp [Int.neg_gcd,Int.gcd_neg]
 rintro n σ H3 ⟨rfl,a,b,rfl,a0,b0,hg,rfl⟩;walk_at "rf";refine jb2 (fun c=>?_) fun c=>?_
 ·have m0:=xbb a (show b≠0 by omega);have m1:=xaY a c;exact⟨fun σ' H'=>σ'=[some (.int b),some (.int (a % b))]/\H'=H3,fun σ' H' ⟨h1,h2⟩=>⟨(a % b).natAbs,by omega,h2,b,a % b,h1,b0,m0,(jmd a b).trans hg,rfl⟩,c,rfl,rfl⟩
 ·have e:b=0:=by omega
  subst e;rw[Int.gcd_zero_right] at hg;rw[show a=((Int.gcd x y:Nat):Int) by omega];exact q
theorem ji9 {rs:List Addr} (h:Sps H rs ps) (n:3<=ps.length):∃a b c:Addr,(rs.map V.ref).take 3=[.ref a,.ref b,.ref c]/\Is4 H a (pt ps 0)/\Is4 H b (pt ps 1)/\Is4 H c (pt ps 2):=by
  cases h with
  | nil=>exact absurd n (by decide)
  | cons h1 h => cases h with
    | nil=>exact absurd n (show ¬3<=1 by decide)
    | cons h2 h => cases h with
      | nil=>exact absurd n (show ¬3<=2 by decide)
      | cons h3 h=>exact⟨_,_,_,rfl,h1,h2,h3⟩
variable {v:Tri}
theorem jg1 (h:v.bd n) (k:Nat):Bd n (cmp v k):=by
 unfold cmp;split
 ·exact h.1
 ·split
  ·exact h.2.1
  ·exact h.2.2
def dfr (B A:Pt):Tri:=⟨B.x*A.w-A.x*B.w,B.y*A.w-A.y*B.w,B.z*A.w-A.z*B.w⟩
def nup (ps:List Pt):Tri:=upr (dfr (pt ps 1) (pt ps 0)) (dfr (pt ps 2) (pt ps 0))
def fo4 (ps:List Pt):List Int:=[(nup ps).x*(pt ps 0).w,(nup ps).y*(pt ps 0).w,(nup ps).z*(pt ps 0).w,(nup ps).x*(pt ps 0).x+((nup ps).y*(pt ps 0).y+((nup ps).z*(pt ps 0).z+0))]
theorem jlb (A B C:Pt):(upr (dfr B A) (dfr C A)).x=A.w*jay 0 A B C/\(upr (dfr B A) (dfr C A)).y=-(A.w*jay 1 A B C)/\(upr (dfr B A) (dfr C A)).z=A.w*jay 2 A B C:=by
 have h0:jay 0 A B C=jby A.y A.z A.w B.y B.z B.w C.y C.z C.w:=rfl;have h1:jay 1 A B C=jby A.x A.z A.w B.x B.z B.w C.x C.z C.w:=rfl;have h2:jay 2 A B C=jby A.x A.y A.w B.x B.y B.w C.x C.y C.w:=rfl;rw[h0,h1,h2];unfold upr dfr jby;simp only;refine⟨?_,?_,?_⟩<;>grind
def Cg (p:Pt):Prop:=p.bd 252/\1<=p.w
theorem jg2 {A B:Pt} (ha:Cg A) (hb:Cg B):(dfr B A).bd 505:=by
 obtain⟨⟨a1,a2,a3,a4⟩,_⟩:=ha;obtain⟨⟨b1,b2,b3,b4⟩,_⟩:=hb;exact⟨Bd.sub (n:=504) (Bd.mul b1 a4) (Bd.mul a1 b4),Bd.sub (n:=504) (Bd.mul b2 a4) (Bd.mul a2 b4),Bd.sub (n:=504) (Bd.mul b3 a4) (Bd.mul a3 b4)⟩
theorem jof {u:Tri} (hu:u.bd 505) (hv:v.bd 505):(upr u v).bd 1011:=by
 obtain⟨a1,a2,a3⟩:=hu;obtain⟨b1,b2,b3⟩:=hv;exact⟨Bd.sub (n:=1010) (Bd.mul a2 b3) (Bd.mul a3 b2),Bd.sub (n:=1010) (Bd.mul a3 b1) (Bd.mul a1 b3),Bd.sub (n:=1010) (Bd.mul a1 b2) (Bd.mul a2 b1)⟩
def LP (ps:List Pt) (x y z v:Int):Prop:=∃g:Int,g≠0/\g*x=(nup ps).x*(pt ps 0).w/\g*y=(nup ps).y*(pt ps 0).w/\g*z=(nup ps).z*(pt ps 0).w/\g*v=(nup ps).x*(pt ps 0).x+((nup ps).y*(pt ps 0).y+((nup ps).z*(pt ps 0).z+0))
def Abc (H:Hp) (ra rb rc:Addr) (ps:List Pt):Prop:=Is4 H ra (pt ps 0)/\Is4 H rb (pt ps 1)/\Is4 H rc (pt ps 2)
theorem Abc.keep {ra rb rc:Addr} (h:Abc H ra rb rc ps) (s:Same H H'):Abc H' ra rb rc ps:=⟨h.1.keep s,h.2.1.keep s,h.2.2.keep s⟩
def pl0 (H:Hp) (l:Addr) (ps:List Pt):L2.St->Hp->Prop:=fun σ H'=>∃ra rb rc:Addr,σ=[some (.ref l),some (.ref ra),some (.ref rb),some (.ref rc),none,none,none,none,none]/\Abc H' ra rb rc ps/\Same H H'
def pl2 (K:PySem.W.Frag) (H:Hp) (l:Addr) (ps:List Pt):L2.St->Hp->Prop:=fun σ H'=>∃ra rb rc g1 g2:Addr,σ=[some (.ref l),some (.ref ra),some (.ref rb),some (.ref rc),some (.ref g1),some (.ref g2),none,none,none]/\Abc H' ra rb rc ps/\Lt3 K H' g1 (dfr (pt ps 1) (pt ps 0))/\Lt3 K H' g2 (dfr (pt ps 2) (pt ps 0))/\Same H H'
def pl3 (H:Hp) (l:Addr) (ps:List Pt):L2.St->Hp->Prop:=fun σ H'=>∃(ra rb rc g3:Addr) (o4 o5:Option V),σ=[some (.ref l),some (.ref ra),some (.ref rb),some (.ref rc),o4,o5,some (.ref g3),none,none]/\Abc H' ra rb rc ps/\H' g3=some (.tup [.int (nup ps).x,.int (nup ps).y,.int (nup ps).z])/\Same H H'
def pl4c (H:Hp) (l:Addr) (ps:List Pt):L2.St->Hp->Prop:=fun σ H'=>∃(ra rb rc g3 fl:Addr) (o4 o5:Option V),σ=[some (.ref l),some (.ref ra),some (.ref rb),some (.ref rc),o4,o5,some (.ref g3),some (.ref fl),none]/\Abc H' ra rb rc ps/\H' g3=some (.tup [.int (nup ps).x,.int (nup ps).y,.int (nup ps).z])/\H fl=none/\H' fl=some (.lst (((fo4 ps).take 3).map V.int))/\Same H H'
def pl5 (H:Hp) (l:Addr) (ps:List Pt):L2.St->Hp->Prop:=fun σ H'=>∃(fl:Addr) (o1 o2 o3 o4 o5 o6:Option V),σ=[some (.ref l),o1,o2,o3,o4,o5,o6,some (.ref fl),none]/\H' fl=some (.lst ((fo4 ps).map V.int))/\Same H H'
def pl6 (H:Hp) (l:Addr) (ps:List Pt):L2.St->Hp->Prop:=fun σ H'=>∃(fl:Addr) (o1 o2 o3 o4 o5 o6:Option V),σ=[some (.ref l),o1,o2,o3,o4,o5,o6,some (.ref fl),some (.int (gl (fo4 ps)))]/\H' fl=some (.lst ((fo4 ps).map V.int))/\Same H H'
def Fst (ps:List Pt) (j:Nat):Prop:=j<3/\(∀i,i<j->(fo4 ps).getD i 0=0)/\(fo4 ps).getD j 0≠0
def pl7 (H:Hp) (l:Addr) (ps:List Pt):L2.St->Hp->Prop:=fun σ H'=>∃(fl:Addr) (g:Int) (o1 o2 o3 o4 o5 o6:Option V),σ=[some (.ref l),o1,o2,o3,o4,o5,o6,some (.ref fl),some (.int g)]/\(∃j,Fst ps j/\((0<=(fo4 ps).getD j 0/\g=gl (fo4 ps))\/((fo4 ps).getD j 0<0/\g=-gl (fo4 ps))))/\H' fl=some (.lst ((fo4 ps).map V.int))/\Same H H'
theorem fil3 {p:Nat->Bool} {js:List Nat} (h:(List.range 3).filter p=j::js):j<3/\p j=true/\∀i,i<j->p i=false:=by
 have e:List.range 3=[0,1,2]:=rfl;rw[e] at h;cases h0:p 0<;>cases h1:p 1<;>cases h2:p 2<;>simp [List.filter,h0,h1,h2] at h<;>obtain⟨rfl,_⟩:=h<;>refine⟨by decide,by assumption,fun i hi=>?_⟩<;>(have:i=0\/i=1:=by omega)<;>rcases this with rfl | rfl<;>first | assumption | omega
theorem jg3 {rb ra:Addr} {B A:Pt} {R:V->Hp->Prop} (hb:Is4 H rb B) (ha:Is4 H ra A) (cB:Cg B) (cA:Cg A) (hk:k<3) (q:R (.int (cmp (dfr B A) k)) H):jek K (V.ref rb) (V.int (0+(k:Int))) H fun x H1=>jek K (V.ref ra) (V.int 3) H1 fun y H2=>∃i,x=V.int i/\∃x,y=V.int x/\Fit i/\Fit x/\jek K (V.ref ra) (V.int (0+(k:Int))) H2 fun x_1 H1=>jek K (V.ref rb) (V.int 3) H1 fun y H2=>∃i_1,x_1=V.int i_1/\∃x_2,y=V.int x_2/\Fit i_1/\Fit x_2/\R (V.int (i*x-i_1*x_2)) H2:=by
 have e:cmp (dfr B A) k=cmp ⟨B.x,B.y,B.z⟩ k*A.w-cmp ⟨A.x,A.y,A.z⟩ k*B.w:=by
  match k,hk with
  | 0,_=>rfl
  | 1,_=>rfl
  | 2,_=>rfl
 rw[e] at q;have f1:Fit (cmp ⟨B.x,B.y,B.z⟩ k):=(jg1 (v:=⟨B.x,B.y,B.z⟩) ⟨cB.1.1,cB.1.2.1,cB.1.2.2.1⟩ k).fit;have f2:Fit (cmp ⟨A.x,A.y,A.z⟩ k):=(jg1 (v:=⟨A.x,A.y,A.z⟩) ⟨cA.1.1,cA.1.2.1,cA.1.2.2.1⟩ k).fit;exact ixT hb.sq (jn4 ⟨B.x,B.y,B.z⟩ B.w hk) (ixT ha.sq (i:=3) rfl ⟨_,rfl,_,rfl,f1,cA.1.2.2.2.fit,ixT ha.sq (jn4 ⟨A.x,A.y,A.z⟩ A.w hk) (ixT hb.sq (i:=3) rfl ⟨_,rfl,_,rfl,f2,cB.1.2.2.2.fit,q⟩)⟩)
theorem jog {z:V} (h:(((fo4 ps).take 3).map V.int)[k]?=some z):z=.int ((fo4 ps).getD k 0)/\k<3:=by
 match k,h with
 | 0,h=>cases h;exact⟨rfl,by decide⟩
 | 1,h=>cases h;exact⟨rfl,by decide⟩
 | 2,h=>cases h;exact⟨rfl,by decide⟩
theorem fo_bd (cA:Cg (pt ps 0)) (bn:(nup ps).bd 1011):Bd 1266 ((fo4 ps).getD 0 0)/\Bd 1266 ((fo4 ps).getD 1 0)/\Bd 1266 ((fo4 ps).getD 2 0)/\Bd 1266 ((fo4 ps).getD 3 0):=by
 obtain⟨n1,n2,n3⟩:=bn;obtain⟨⟨a1,a2,a3,a4⟩,_⟩:=cA;refine⟨Bd.mono (Bd.mul n1 a4),Bd.mono (Bd.mul n2 a4),Bd.mono (Bd.mul n3 a4),?_⟩;exact Bd.add (n:=1265) (Bd.mono (Bd.mul n1 a1)) (Bd.add (n:=1264) (Bd.mono (Bd.mul n2 a2)) (Bd.add (n:=1263) (Bd.mul n3 a3) (by unfold Bd;decide)))
theorem jef (d:g ∣ x) (h:0<x/\0<g\/x<0/\g<0):0<x / g:=by
 obtain⟨k,rfl⟩:=d;have g0:g≠0:=by omega
 rw[Int.mul_ediv_cancel_left _ g0];rcases h with ⟨h1,h2⟩ | ⟨h1,h2⟩
 ·exact xbe h1 h2
 ·have h3:0<(-g)*k:=by rw[xbN];omega
  exact xbe h3 (by omega)
theorem jja (F:Fst ps j) (hd:∀i∈fo4 ps,g ∣ i) (h:0<(fo4 ps).getD j 0/\0<g\/(fo4 ps).getD j 0<0/\g<0):plb ((fo4 ps).getD 0 0 / g) ((fo4 ps).getD 1 0 / g) ((fo4 ps).getD 2 0 / g)=true:=by
  obtain⟨j3,z,_⟩:=F;unfold plb
  match j,j3,z,h with
  | 0, _, _, h =>
    have p:=jef (hd _ (.head _)) h;change 0<(fo4 ps).getD 0 0 / g at p;rw[if_pos (by omega),decide_eq_true p]
  | 1, _, z, h =>
    have p:=jef (hd _ (.tail _ (.head _))) h;change 0<(fo4 ps).getD 1 0 / g at p;rw[z 0 (by decide),Int.zero_ediv,if_neg (by omega),if_pos (by omega),decide_eq_true p]
  | 2, _, z, h =>
    have p:=jef (hd _ (.tail _ (.tail _ (.head _)))) h;change 0<(fo4 ps).getD 2 0 / g at p;rw[z 0 (by decide),z 1 (by decide),Int.zero_ediv,if_neg (by omega),if_neg (by omega),if_pos (by omega),decide_eq_true p]
theorem joh (aw:1<=(pt ps 0).w) (na:¬jbE (pt ps 0) (pt ps 1) (pt ps 2)):pln (fo4 ps)=pln (rgh (pt ps 0) (pt ps 1) (pt ps 2)):=by
 obtain⟨m0,m1,m2⟩:=jlb (pt ps 0) (pt ps 1) (pt ps 2);have e:fo4 ps=[(pt ps 0).w*(pt ps 0).w*jay 0 (pt ps 0) (pt ps 1) (pt ps 2),(pt ps 0).w*(pt ps 0).w*-jay 1 (pt ps 0) (pt ps 1) (pt ps 2),(pt ps 0).w*(pt ps 0).w*jay 2 (pt ps 0) (pt ps 1) (pt ps 2),(pt ps 0).w*(pt ps 0).w*jay 3 (pt ps 0) (pt ps 1) (pt ps 2)]:=by
  unfold fo4 nup;rw[m0,m1,m2];have h0:jay 0 (pt ps 0) (pt ps 1) (pt ps 2)=jby (pt ps 0).y (pt ps 0).z (pt ps 0).w (pt ps 1).y (pt ps 1).z (pt ps 1).w (pt ps 2).y (pt ps 2).z (pt ps 2).w:=rfl;have h1:jay 1 (pt ps 0) (pt ps 1) (pt ps 2)=jby (pt ps 0).x (pt ps 0).z (pt ps 0).w (pt ps 1).x (pt ps 1).z (pt ps 1).w (pt ps 2).x (pt ps 2).z (pt ps 2).w:=rfl;have h2:jay 2 (pt ps 0) (pt ps 1) (pt ps 2)=jby (pt ps 0).x (pt ps 0).y (pt ps 0).w (pt ps 1).x (pt ps 1).y (pt ps 1).w (pt ps 2).x (pt ps 2).y (pt ps 2).w:=rfl;have h3:jay 3 (pt ps 0) (pt ps 1) (pt ps 2)=jby (pt ps 0).x (pt ps 0).y (pt ps 0).z (pt ps 1).x (pt ps 1).y (pt ps 1).z (pt ps 2).x (pt ps 2).y (pt ps 2).z:=rfl;rw[h0,h1,h2,h3];unfold jby;generalize pt ps 0=A;generalize pt ps 1=B;generalize pt ps 2=C;refine xbY.mpr ⟨by grind,xbY.mpr ⟨by grind,xbY.mpr ⟨by grind,xbY.mpr ⟨by grind,rfl⟩⟩⟩⟩
 rw[e];unfold rgh;refine jmc (Int.mul_ne_zero (by omega) (by omega)) fun z=>na ⟨z.1,by omega,z.2.2⟩
theorem jjb (cA:Cg (pt ps 0)) (na:¬jbE (pt ps 0) (pt ps 1) (pt ps 2)) (F:Fst ps j) (sg:(0<=(fo4 ps).getD j 0/\g=gl (fo4 ps))\/((fo4 ps).getD j 0<0/\g=-gl (fo4 ps))):[((nup ps).x*(pt ps 0).w).fdiv g,((nup ps).y*(pt ps 0).w).fdiv g,((nup ps).z*(pt ps 0).w).fdiv g,((nup ps).x*(pt ps 0).x+((nup ps).y*(pt ps 0).y+((nup ps).z*(pt ps 0).z+0))).fdiv g]=pln (rgh (pt ps 0) (pt ps 1) (pt ps 2)):=by
 rw[<- joh cA.2 na];have hG:∀i∈fo4 ps,gl (fo4 ps) ∣ i:=fun i hi=>jaQ hi;have hg:∀i∈fo4 ps,g ∣ i:=fun i hi=>by
  rcases sg with ⟨_,rfl⟩ | ⟨_,rfl⟩
  ·exact hG i hi
  ·exact Int.neg_dvd.mpr (hG i hi)
 have mj:(fo4 ps).getD j 0∈fo4 ps:=by
  match j,F.1 with
  | 0,_=>exact .head _
  | 1,_=>exact .tail _ (.head _)
  | 2,_=>exact .tail _ (.tail _ (.head _))
 have G0:0<gl (fo4 ps):=by
  have nn:=jbc (fo4 ps);rcases Int.lt_or_eq_of_le nn with h | h
  ·exact h
  ·have:=hG _ mj;rw[<- h] at this;exact absurd (Int.zero_dvd.mp this) F.2.2
 have nz:=F.2.2;have e:∀i∈fo4 ps,i.fdiv g=i / g:=fun i hi=>xbU (hg i hi);have pb:=jja F hg (by omega);have a0:((nup ps).x*(pt ps 0).w).fdiv g=(fo4 ps).getD 0 0 / g:=e _ (.head _);have a1:((nup ps).y*(pt ps 0).w).fdiv g=(fo4 ps).getD 1 0 / g:=e _ (.tail _ (.head _));have a2:((nup ps).z*(pt ps 0).w).fdiv g=(fo4 ps).getD 2 0 / g:=e _ (.tail _ (.tail _ (.head _)));have a3:((nup ps).x*(pt ps 0).x+((nup ps).y*(pt ps 0).y+((nup ps).z*(pt ps 0).z+0))).fdiv g=(fo4 ps).getD 3 0 / g:=e _ (.tail _ (.tail _ (.tail _ (.head _))));rw[a0,a1,a2,a3];have ep:pln (fo4 ps)=if plb ((fo4 ps).getD 0 0 / gl (fo4 ps)) ((fo4 ps).getD 1 0 / gl (fo4 ps)) ((fo4 ps).getD 2 0 / gl (fo4 ps))=true then [(fo4 ps).getD 0 0 / gl (fo4 ps),(fo4 ps).getD 1 0 / gl (fo4 ps),(fo4 ps).getD 2 0 / gl (fo4 ps),(fo4 ps).getD 3 0 / gl (fo4 ps)] else [-((fo4 ps).getD 0 0 / gl (fo4 ps)),-((fo4 ps).getD 1 0 / gl (fo4 ps)),-((fo4 ps).getD 2 0 / gl (fo4 ps)),-((fo4 ps).getD 3 0 / gl (fo4 ps))]:=rfl;rw[ep];rcases sg with ⟨h1,rfl⟩ | ⟨h1,rfl⟩
 ·rw[if_pos pb]
 ·rw[xbS,xbS,xbS] at pb;have pn:=jiW pb;rw[xb8,xb8,xb8] at pn;rw[if_neg (by rw[pn];decide),xbS,xbS,xbS,xbS]
def joi:Sp:=fun vs H Q _=>∃(l:Addr) (rs:List Addr) (ps:List Pt),vs=[.ref l]/\(H l=some (.lst (rs.map V.ref))\/H l=some (.tup (rs.map V.ref)))/\Sps H rs ps/\3<=ps.length/\(∀p∈ps,Cg p)/\¬jbE (pt ps 0) (pt ps 1) (pt ps 2)/\∀(t:Addr) (H':Hp) (x y z v:Int),Same H H'->H' t=some (.tup [.int x,.int y,.int z,.int v])->LP ps x y z v->[x,y,z,v]=pln (rgh (pt ps 0) (pt ps 1) (pt ps 2))->Q (.ref t) H'
theorem joj (T:Tx K mg t1 t2) (F:At K mg "_law_plane" jaB ["corners"] []) (dD:jan P w K mg base CX0 1 "_law_upright" ["one","other"] [] (jmh K)) (dC:jan P w K mg base CX0 1 "_law_divisor" ["one","other"] [] jod):jan P w K mg base CX0 2 "_law_plane" ["corners"] [] joi:=by
  refine F.ok jda (fun vs H Q E h=>?_) (fun f cdv A outer s H vs Q E hr h=>?_)
  . obtain⟨l,rs,ps,rfl,_⟩:=h
    rfl
  obtain⟨l,rs,ps,rfl,hl,hs,n3,hc,na,q⟩:=h;have S:=jda;refine⟨_,(ja8 (pl0 H l ps) (jc0 (jb1 jnd (pv 0) jcR (jcS jab)) (pg_or (jkz rfl (jaC (jao (i:=1) S.nd rfl (Or.inr rfl)) (jaC (jao (i:=2) S.nd rfl (Or.inr rfl)) (jaC (jao (i:=3) S.nd rfl (Or.inr rfl)) jbZ)))) (jep rfl (jaC (jao (i:=1) S.nd rfl (Or.inr rfl)) (jaC (jao (i:=2) S.nd rfl (Or.inr rfl)) (jaC (jao (i:=3) S.nd rfl (Or.inr rfl)) jbZ))))))
    (jad (jbr (i:=4) rfl S.nd rfl rfl (N':=["k","b","a"]) (ix:=[2,1]) ⟨rfl,rfl,by decide +kernel,by decide +kernel,by decide +kernel,(show ∀y:Str × NameKind,y∈_->y.2=NameKind.free->(jae jaB).names.lookup y.1=some .cell\/(jae jaB).names.lookup y.1=some .free from by decide +kernel),(.cons rfl (.inl rfl) rfl (.cons rfl (.inl rfl) rfl .nil))⟩ (jaN rfl T.m_range (jaa jab jac jam)) (fun _ _ _ _=>jao (i:=0) (show (["k","b","a"]:List Str).Nodup from by decide +kernel) rfl (Or.inl rfl)) (fun _ _ _ _=>ja0) (fun _ _ _ _=>(jap jaZ (jap jar (jaj (jaR (K:=K) rfl) (pv 1) (pv 0)) (jaj (jaR (K:=K) rfl) (pv 2) jab)) (jap jar (jaj (jaR (K:=K) rfl) (pv 2) (pv 0)) (jaj (jaR (K:=K) rfl) (pv 1) jab)))))
    (ja8 (pl2 K H l ps) (jbr (i:=5) rfl S.nd rfl rfl (N':=["k","c","a"]) (ix:=[3,1]) ⟨rfl,rfl,by decide +kernel,by decide +kernel,by decide +kernel,(show ∀y:Str × NameKind,y∈_->y.2=NameKind.free->(jae jaB).names.lookup y.1=some .cell\/(jae jaB).names.lookup y.1=some .free from by decide +kernel),(.cons rfl (.inl rfl) rfl (.cons rfl (.inl rfl) rfl .nil))⟩ (jaN rfl T.m_range (jaa jab jac jam)) (fun _ _ _ _=>jao (i:=0) (show (["k","c","a"]:List Str).Nodup from by decide +kernel) rfl (Or.inl rfl)) (fun _ _ _ _=>ja0) (fun _ _ _ _=>(jap jaZ (jap jar (jaj (jaR (K:=K) rfl) (pv 1) (pv 0)) (jaj (jaR (K:=K) rfl) (pv 2) jab)) (jap jar (jaj (jaR (K:=K) rfl) (pv 2) (pv 0)) (jaj (jaR (K:=K) rfl) (pv 1) jab)))))
    (ja8 (pl3 H l ps) (jat (i:=6) S.nd rfl (Or.inr rfl) (jah dD hr.m rfl jav (jaa (pv 4) (jaa (pv 5) jac jaf) jaf)))
    (ja8 (pl4c H l ps) (jat (i:=7) S.nd rfl (Or.inl rfl) (jbk (jaa (jap jar (jaj jal (pv 6) jab) (jaj jal (pv 1) jab)) (jaa (jap jar (jaj jal (pv 6) jab) (jaj jal (pv 1) jab)) (jaa (jap jar (jaj jal (pv 6) jab) (jaj jal (pv 1) jab)) jac jbb) jbb) jbb)))
    (ja8 (pl5 H l ps) (jbY (jeL PySem.F.plainAttrs_list PySem.F.slot_list_append PySem.F.type_list_append jba (pv 7) (jaa (jaw (jjz rfl) rfl T.m_sum boot_sum (jaa (ja1 rfl (N':=["k","upright","a"]) (ix:=[6,1]) ⟨rfl,rfl,by decide +kernel,by decide +kernel,by decide +kernel,(show ∀y:Str × NameKind,y∈_->y.2=NameKind.free->(jae jaB).names.lookup y.1=some .cell\/(jae jaB).names.lookup y.1=some .free from by decide +kernel),(.cons rfl (.inl rfl) rfl (.cons rfl (.inl rfl) rfl .nil))⟩ (jaN rfl T.m_range (jaa jab jac jam)) (fun _ _ _ _=>jao (i:=0) (show (["k","upright","a"]:List Str).Nodup from by decide +kernel) rfl (Or.inl rfl)) (fun _ _ _ _=>ja0) (fun _ _ _ _=>(jap jar (jaj (jaR (K:=K) rfl) (pv 1) (pv 0)) (jaj (jaR (K:=K) rfl) (pv 2) (pv 0))))) jac jcd)) jac jaI)))
    (ja8 (pl6 H l ps) (jat (i:=8) S.nd rfl (Or.inr rfl) (jah dC hr.m rfl jav (jaa (jah dC hr.m rfl jav (jaa (jaj ix_list (pv 7) jab) (jaa (jaj ix_list (pv 7) jab) jac jaq) jaq)) (jaa (jah dC hr.m rfl jav (jaa (jaj ix_list (pv 7) jab) (jaa (jaj ix_list (pv 7) jab) jac jaq) jaq)) jac jaI) jaI)))
    (ja8 (pl7 H l ps) (jaW (jau jfk (jaj ix_list (ja1 rfl (N':=["number"]) (ix:=[]) ⟨rfl,rfl,by decide +kernel,by decide +kernel,by decide +kernel,(show ∀y:Str × NameKind,y∈_->y.2=NameKind.free->(jae jaB).names.lookup y.1=some .cell\/(jae jaB).names.lookup y.1=some .free from by decide +kernel),.nil⟩ (jbN (jb1 sl_list (pv 7) jcR (jcS jab))) (fun _ _ _ _=>jao (i:=0) (show (["number"]:List Str).Nodup from by decide +kernel) rfl (Or.inl rfl)) (fun _ _ _ _=>(jeM (jau jdP (pv 0) jab (jax _)))) (fun _ _ _ _=>(pv 0))) jab) jab (jax _))
    (jai (jat (i:=8) S.nd rfl (Or.inr rfl) (jap jaZ jab (pv 8))))
    jaz)
    (jai (jas (jaS jb3 rfl T.m_tuple boot_tuple (jaa (ja1 rfl (N':=["number","by"]) (ix:=[8]) ⟨rfl,rfl,by decide +kernel,by decide +kernel,by decide +kernel,(show ∀y:Str × NameKind,y∈_->y.2=NameKind.free->(jae jaB).names.lookup y.1=some .cell\/(jae jaB).names.lookup y.1=some .free from by decide +kernel),(.cons rfl (.inl rfl) rfl .nil)⟩ (jbN (pv 7)) (fun _ _ _ _=>jao (i:=0) (show (["number","by"]:List Str).Nodup from by decide +kernel) rfl (Or.inl rfl)) (fun _ _ _ _=>ja0) (fun _ _ _ _=>(jap jjB (pv 0) (pv 1)))) jac jcd)))))))))))),?_⟩
  have cA:=hc _ (ja4 (i:=0) (by omega));have cB:=hc _ (ja4 (i:=1) (by omega));have cC:=hc _ (ja4 (i:=2) (by omega));have lrs:=hs.len;walk_at "rf";refine⟨?_,?_⟩
  . obtain⟨ra,rb,rc,er,h1,h2,h3⟩:=ji9 hs n3
    have ec:jff (rs.map V.ref) none (some 3)=[.ref ra,.ref rb,.ref rc]:=by
      have z:jff (rs.map V.ref) none (some 3)=(rs.map V.ref).take 3:=jdI (f:=3);rw[z,er]
    have fin:∀{J:Hp},Same H J->pl0 H l ps [some (.ref l),some (.ref ra),some (.ref rb),some (.ref rc),none,none,none,none,none] J:=fun j=>⟨ra,rb,rc,rfl,⟨h1.keep j,h2.keep j,h3.keep j⟩,j⟩;rcases hl with hl | hl
    . refine .inl (.inl ⟨l,_,rfl,SqL.of hl,fun p hp=>?_⟩)
      rw[ec];exact .inl ⟨p,_,rfl,SqL.of jag,rfl,_,_,rfl,_,_,rfl,_,_,rfl,rfl,fin (Same.new hp _)⟩
    . by_cases k3:3 < ps.length
      . refine .inl (.inr ⟨l,_,rfl,SqT.of hl,?_,fun p hp=>?_⟩)
        . have z:HT.sIx (rs.map V.ref).length (rs.map V.ref).length (some 3)=min 3 (rs.map V.ref).length:=HT.sIx_nat _ _ 3
          rw[z,xaa];omega
        . rw[ec]
          exact .inr ⟨p,_,rfl,SqT.of jag,rfl,_,_,rfl,_,_,rfl,_,_,rfl,rfl,fin (Same.new hp _)⟩
      . have z:HT.sIx (rs.map V.ref).length (rs.map V.ref).length (some 3)=min 3 (rs.map V.ref).length:=HT.sIx_nat _ _ 3
        have e3:rs.map V.ref=[.ref ra,.ref rb,.ref rc]:=by rw[<- er,xaZ (by rw[xaa];omega)]
        refine .inr ⟨l,_,rfl,SqT.of hl,⟨rfl,?_⟩,?_⟩
        . rw[z,xaa]
          omega
        . rw[e3] at hl
          exact .inr ⟨l,_,rfl,SqT.of hl,rfl,_,_,rfl,_,_,rfl,_,_,rfl,rfl,fin (Same.refl _)⟩
  rintro σ0 H0 ⟨ra,rb,rc,rfl,hA,s0⟩;walk_at "rf";refine⟨by decide,by decide,fun g1 hg1=>jf1 (n:=3) (fun k=>.int (cmp (dfr (pt ps 1) (pt ps 0)) k)) (by decide) hg1 (fun k H3 R hk s3 hR=>?_) fun H1 s1 e1=>⟨by decide,by decide,fun g2 hg2=>jf1 (n:=3) (fun k=>.int (cmp (dfr (pt ps 2) (pt ps 0)) k)) (by decide) hg2 (fun k H3 R hk s3 hR=>?_) fun H2 s2 e2=>?_,?_⟩⟩
  . walk_at "rf"
    exact jg3 (hA.2.1.keep s3) (hA.1.keep s3) cB cA hk (hR _ (Same.refl _))
  . walk_at "rf"
    exact jg3 (hA.2.2.keep (s1.trans s3)) (hA.1.keep (s1.trans s3)) cC cA hk (hR _ (Same.refl _))
  . exact⟨ra,rb,rc,g1,g2,rfl,hA.keep (s1.trans s2),.inl (SqL.of (s2 _ _ e1)),.inl (SqL.of e2),s0.trans (s1.trans s2)⟩
  rintro σ2 H2 ⟨ra,rb,rc,g1,g2,rfl,hA,l1,l2,s2⟩;walk_at "rf";refine⟨⟨g1,g2,_,_,rfl,l1,l2,je9 (jg2 cA cB),je9 (jg2 cA cC),fun g3 H3 n3' s3 e3=>⟨ra,rb,rc,g3,_,_,rfl,hA.keep s3,e3,s2.trans s3⟩⟩,?_⟩;have bn:(nup ps).bd 1011:=jof (jg2 cA cB) (jg2 cA cC);have fx:Fit (nup ps).x:=bn.1.fit;have fy:Fit (nup ps).y:=bn.2.1.fit;have fz:Fit (nup ps).z:=bn.2.2.fit;have fw:Fit (pt ps 0).w:=cA.1.2.2.2.fit;rintro σ3 H3 ⟨ra,rb,rc,g3,o4,o5,rfl,hA,e3,s3⟩;walk_at "rf";refine⟨?_,?_⟩
  . have kn:=SqT.of (K:=K) e3
    have ka:=hA.1.sq (K:=K);refine ixT kn (i:=0) rfl (ixT ka (i:=3) rfl ⟨_,rfl,_,rfl,fx,fw,ixT kn (i:=1) rfl (ixT ka (i:=3) rfl ⟨_,rfl,_,rfl,fy,fw,ixT kn (i:=2) rfl (ixT ka (i:=3) rfl ⟨_,rfl,_,rfl,fz,fw,by decide,fun p hp=>?_⟩)⟩)⟩);have j:=Same.new hp (.lst [.int ((nup ps).x*(pt ps 0).w),.int ((nup ps).y*(pt ps 0).w),.int ((nup ps).z*(pt ps 0).w)]);exact⟨ra,rb,rc,g3,p,o4,o5,rfl,hA.keep j,j _ _ e3,s3.noneN hp,jag,s3.trans j⟩
  rintro σ4 H4 ⟨ra,rb,rc,g3,fl,o4,o5,rfl,hA,e3,nf,ef,s4⟩;walk_at "rf";refine⟨.inl ⟨_,SqL.of ef⟩,by decide,by decide,fun acc hacc=>jf1 (n:=3) (fun k=>.int (cmp (nup ps) k*cmp ⟨(pt ps 0).x,(pt ps 0).y,(pt ps 0).z⟩ k)) (by decide) hacc (fun k H5 R hk s5 hR=>?_) fun H5 s5 e5=>?_,?_⟩
  . have fn:Fit (cmp (nup ps) k):=(jg1 bn k).fit
    have fa:Fit (cmp ⟨(pt ps 0).x,(pt ps 0).y,(pt ps 0).z⟩ k):=(jg1 (v:=⟨(pt ps 0).x,(pt ps 0).y,(pt ps 0).z⟩) ⟨cA.1.1,cA.1.2.1,cA.1.2.2.1⟩ k).fit;walk_at "rf";exact ixT (SqT.of (s5 _ _ e3)) (cmp3 (nup ps) hk) (ixT (hA.1.keep s5).sq (jn4 ⟨(pt ps 0).x,(pt ps 0).y,(pt ps 0).z⟩ (pt ps 0).w hk) ⟨_,rfl,_,rfl,fn,fa,hR _ (Same.refl _)⟩)
  . refine⟨[_,_,_],SqL.of e5,fl,_,_,rfl,rfl,s5 _ _ ef,jaF (show 3 < 1000 by decide),?_⟩
    refine⟨fl,_,_,_,_,_,_,rfl,jag,Same.keepN (s4.trans s5) nf _⟩
  rintro σ5 H5 ⟨fl,o1,o2,o3,o4,o5,o6,rfl,ef,s5⟩;walk_at "rf";have kf:=SqL.of (K:=K) ef;refine⟨ixL kf (i:=0) rfl (ixL kf (i:=1) rfl ⟨_,_,rfl,ixL kf (i:=2) rfl (ixL kf (i:=3) rfl ⟨_,_,rfl,_,_,rfl,?_⟩)⟩),?_⟩
  . refine⟨fl,o1,o2,o3,o4,o5,o6,?_,ef,s5⟩
    rw[gcd4];rfl
  rintro σ6 H6 ⟨fl,o1,o2,o3,o4,o5,o6,rfl,ef,s6⟩;walk_at "rf";obtain⟨k0,hk0,nk0⟩:∃k,k<3/\(fo4 ps).getD k 0≠0:=by
    obtain⟨m0,m1,m2⟩:=jlb (pt ps 0) (pt ps 1) (pt ps 2);have aw:=cA.2;have nw:(pt ps 0).w≠0:=by omega
    refine xai fun z=>na ?_;have z0:(nup ps).x*(pt ps 0).w=0:=xai fun h=>z ⟨0,by decide,h⟩;have z1:(nup ps).y*(pt ps 0).w=0:=xai fun h=>z ⟨1,by decide,h⟩;have z2:(nup ps).z*(pt ps 0).w=0:=xai fun h=>z ⟨2,by decide,h⟩;have y0:=(xaE.mp z0).resolve_right nw;have y1:=(xaE.mp z1).resolve_right nw;have y2:=(xaE.mp z2).resolve_right nw;change (upr _ _).x=0 at y0;change (upr _ _).y=0 at y1;change (upr _ _).z=0 at y2;rw[m0] at y0;rw[m1] at y1;rw[m2] at y2;exact⟨(xaE.mp y0).resolve_left nw,(xaE.mp (show (pt ps 0).w*jay 1 (pt ps 0) (pt ps 1) (pt ps 2)=0 by omega)).resolve_left nw,(xaE.mp y2).resolve_left nw⟩
  have kf6:=SqL.of (K:=K) ef;refine⟨?_,?_⟩
  . refine⟨fl,_,rfl,kf6,fun p hp=>?_⟩
    have ec:jff ((fo4 ps).map V.int) none (some 3)=((fo4 ps).take 3).map V.int:=(jdI (f:=3)).trans rfl;rw[ec];have j:=Same.new hp (.lst (((fo4 ps).take 3).map V.int));have ep:upd H6 p (.lst (((fo4 ps).take 3).map V.int)) p=some (.lst (((fo4 ps).take 3).map V.int)):=jag;have ef':=j _ _ ef;have s7:=s6.trans j;generalize upd H6 p (.lst (((fo4 ps).take 3).map V.int))=H7 at ep ef' s7 |-
    refine⟨p,rfl,⟨_,SqL.of ep⟩,fun acc hacc=>jlv (zs:=((fo4 ps).take 3).map V.int) (fun k=>.int ((fo4 ps).getD k 0)) (fun k=>!decide ((fo4 ps).getD k 0=0)) (by show 3<1000;decide) hacc (SqL.of ep) (fun k z H8 R hz s8 hR=>?_) (fun k z H8 R hz hc' s8 hR=>?_) fun H8 s8 e8=>?_⟩
    . obtain⟨rfl,_⟩:=jog hz
      walk_at "rf";exact hR _ (Same.refl _)
    . obtain⟨rfl,_⟩:=jog hz
      walk_at "rf";exact hR _ (Same.refl _)
    . have mem:k0∈(List.range (((fo4 ps).take 3).map V.int).length).filter fun k=>!decide ((fo4 ps).getD k 0=0):=xbl.mpr ⟨xaU.mpr hk0,by rw[decide_eq_false nk0]; rfl⟩
      have ff':∀j js,(List.range (((fo4 ps).take 3).map V.int).length).filter (fun k=>!decide ((fo4 ps).getD k 0=0))=j::js->j<3/\(!decide ((fo4 ps).getD j 0=0))=true/\∀i,i<j->(!decide ((fo4 ps).getD i 0=0))=false:=fun j js h=>fil3 (p:=fun k=>!decide ((fo4 ps).getD k 0=0)) h;generalize (List.range (((fo4 ps).take 3).map V.int).length).filter (fun k=>!decide ((fo4 ps).getD k 0=0))=js at mem e8 ff';cases js with
      | nil=>cases mem
      | cons j0 js =>
        have ff:=ff' j0 js rfl;have F1:Fst ps j0:=⟨ff.1,(fun i hi=>by simpa using ff.2.2 i hi),by simpa using ff.2.1⟩;refine ixL (SqL.of e8) (i:=0) (v:=.int ((fo4 ps).getD j0 0)) (jaJ (j:=0) rfl) ⟨_,rfl,jb2 (fun c=>?_) fun c=>?_⟩
        . exact⟨fl,_,o1,o2,o3,o4,o5,o6,rfl,⟨j0,F1,.inr ⟨c,by omega⟩⟩,s8 _ _ ef',s7.trans s8⟩
        . exact⟨fl,_,o1,o2,o3,o4,o5,o6,rfl,⟨j0,F1,.inl ⟨by omega,rfl⟩⟩,s8 _ _ ef',s7.trans s8⟩
  rintro σ7 H7 ⟨fl,g,o1,o2,o3,o4,o5,o6,rfl,⟨j1,F1,sg⟩,ef,s7⟩;have eg:g=gl (fo4 ps)\/g=-gl (fo4 ps):=sg.elim (fun h=>.inl h.2) fun h=>.inr h.2;walk_at "rf";obtain⟨bf0,bf1,bf2,bf3⟩:=fo_bd cA bn;have hG:∀i∈fo4 ps,g ∣ i:=fun i hi=>by
    rcases eg with rfl | rfl
    . exact jaQ hi
    . exact Int.neg_dvd.mpr (jaQ hi)
  have mk:(fo4 ps).getD k0 0∈fo4 ps:=by
    match k0,hk0 with
    | 0,_=>exact .head _
    | 1,_=>exact .tail _ (.head _)
    | 2,_=>exact .tail _ (.tail _ (.head _))
  have bk:Bd 1266 ((fo4 ps).getD k0 0):=by
    match k0,hk0 with
    | 0,_=>exact bf0
    | 1,_=>exact bf1
    | 2,_=>exact bf2
  have g0:g≠0:=fun e=>nk0 (by have:=hG _ mk;rw[e] at this;exact Int.zero_dvd.mp this);have fg:Fit g:=Bd.fit (n:=1266) (xbd (Nat.le_of_dvd (Int.natAbs_pos.mpr nk0) (xb1.mpr (hG _ mk))) bk);have qd:∀{n:Nat} {i:Int},i∈fo4 ps->Bd n i->Bd n (i.fdiv g):=fun {n i} hi hb=>by
    rw[xbU (hG i hi)];exact Bd.div hb
  refine⟨⟨_,SqL.of ef⟩,fun acc hacc=>compL (fun v=>match v with | .int i=>.int (i.fdiv g) | v=>v) (by show 4<1000;decide) hacc (SqL.of ef) (fun z H8 R hz s8 hR=>?_) fun H8 s8 e8=>?_⟩
  . obtain⟨i,hi,rfl⟩:=xaz.mp hz
    walk_at "rf";exact⟨g0,fg,hR _ (Same.refl _)⟩
  . refine⟨_,SqL.of e8,fun t ht=>?_⟩
    have j:=Same.new ht (.tup (((fo4 ps).map V.int).map fun v=>match v with | .int i=>.int (i.fdiv g) | v=>v));have mu:∀{i:Int},i∈fo4 ps->g*i.fdiv g=i:=fun {i} hi=>by
      rw[xbU (hG i hi)];exact xa5 (hG i hi)
    exact q t _ _ _ _ _ (s7.trans (s8.trans j)) jag ⟨g,g0,mu (.head _),mu (.tail _ (.head _)),mu (.tail _ (.tail _ (.head _))),mu (.tail _ (.tail _ (.tail _ (.head _))))⟩ (jjb cA na F1 sg)
theorem jok (h:Cn p):Cg p:=⟨⟨Bd.mono h.1.1,Bd.mono h.1.2.1,Bd.mono h.1.2.2,Bd.mono h.2.1⟩,h.2.2⟩
def spHg:Sp:=fun vs H Q _=>∃(r e:Addr) (a b c d:Int) (p:Pt),vs=[.ref r,.ref e]/\H r=some (.tup [.int a,.int b,.int c,.int d])/\(Fit a/\Fit b/\Fit c/\Fit d)/\Is4 H e p/\Q (.int (hgt a b c d p)) H
theorem ok_hg (T:Tx K mg t1 t2) (F:At K mg "_law_height" jb8 ["plane","spot"] []):jan P w K mg base CX0 1 "_law_height" ["plane","spot"] [] spHg:=by
 refine F.ok jcN (fun vs H Q E h=>?_) (fun f cdv A outer s H vs Q E hr h=>?_)
 ·obtain⟨_,_,_,_,_,_,_,rfl,_⟩:=h;rfl
 obtain⟨r,e,a,b,c,d,p,rfl,er,⟨fa,fb,fc,fd⟩,he,q⟩:=h;have S:=jcN;refine⟨_,(jad (jat (i:=2) S.nd rfl (Or.inl rfl) (jap jbl (jap jar (jaj jal (pv 0) jab) (jaj jal (pv 1) jab)) (jap jar (jaj jal (pv 0) jab) (jaj jal (pv 1) jab))))
  (jai (jas (jap jaZ (jap jbl (pv 2) (jap jar (jaj jal (pv 0) jab) (jaj jal (pv 1) jab))) (jap jar (jaj jal (pv 0) jab) (jaj jal (pv 1) jab)))))),?_⟩
 have k1:SqT K H r [.int a,.int b,.int c,.int d]:=SqT.of er;have k2:=he.sq (K:=K);have f1:Fit p.x:=(Bd.mono he.2.1:Bd 650 p.x).fit;have f2:Fit p.y:=(Bd.mono he.2.2.1:Bd 650 p.y).fit;have f3:Fit p.z:=(Bd.mono he.2.2.2.1:Bd 650 p.z).fit;have f4:Fit p.w:=(Bd.mono he.2.2.2.2:Bd 650 p.w).fit;walk_at "rf";walk_at "gf";exact q
def spWh:Sp:=fun vs H Q _=>∃n:Int,vs=[.int n]/\Q (.bl true) H
theorem ok_wh (T:Tx K mg t1 t2) (F:At K mg "_law_whole" jcn ["found"] []):jan P w K mg base CX0 1 "_law_whole" ["found"] [] spWh:=by
 refine F.ok jdb (fun vs H Q E h=>?_) (fun f cdv A outer s H vs Q E hr h=>?_)
 ·obtain⟨a,rfl,_⟩:=h;rfl
 obtain⟨n,rfl,q⟩:=h;have S:=jdb;refine⟨_,(jai (jas (jdu (jaw jbi rfl T.m_isinstance boot_isinstance (jaa (pv 0) (jaa (jcQ (v:=.ty "int") rfl T.m_int boot_int rfl) jac jaf) jaf)) (jeo (jmV (jaw jbi rfl T.m_isinstance boot_isinstance (jaa (pv 0) (jaa (jcQ (v:=.ty "bool") rfl T.m_bool boot_bool rfl) jac jaf) jaf))))))),?_⟩;walk_at "rd";exact⟨_,.int n,_,rfl,iteT ⟨_,.int n,_,rfl,q⟩⟩
def jol:Sp:=fun vs H Q _=>∃(r:Addr) (p:Pt),vs=[.ref r]/\Is4 H r p/\∀H',Same H H'->Q (.bl true) H'
theorem ok_is (T:Tx K mg t1 t2) (F:At K mg "_law_is_spot" jbe ["found"] []) (dE:jan P w K mg base CX0 1 "_law_whole" ["found"] [] spWh):jan P w K mg base CX0 2 "_law_is_spot" ["found"] [] jol:=by
 refine F.ok jcv (fun vs H Q E h=>?_) (fun f cdv A outer s H vs Q E hr h=>?_)
 ·obtain⟨r,p,rfl,_⟩:=h;rfl
 obtain⟨r,p,rfl,hp,q⟩:=h;have S:=jcv;refine⟨_,(jai (jas (jdu (jaw jbi rfl T.m_isinstance boot_isinstance (jaa (pv 0) (jaa (jcQ (v:=.ty "tuple") rfl T.m_tuple boot_tuple rfl) jac jaf) jaf)) (jdu (jch jdO (jaw jaH rfl T.m_len PySem.boot_len (jaa (pv 0) jac jaf)) jab (jax _)) (jeo (jaw (jbs rfl) rfl T.m_all boot_all (jaa (ja1 rfl (N':=["one"]) (ix:=[]) ⟨rfl,rfl,by decide +kernel,by decide +kernel,by decide +kernel,(show ∀y:Str × NameKind,y∈_->y.2=NameKind.free->(jae jbe).names.lookup y.1=some .cell\/(jae jbe).names.lookup y.1=some .free from by decide +kernel),.nil⟩ (jc1 (pv 0)) (fun _ _ _ _=>jao (i:=0) (show (["one"]:List Str).Nodup from by decide +kernel) rfl (Or.inl rfl)) (fun _ _ _ _=>ja0) (fun _ _ _ _=>(jah dE hr.m rfl jav (jaa (pv 0) jac jaf)))) jac jcd))))))),?_⟩;have k4:SqT K H r [.int p.x,.int p.y,.int p.z,.int p.w]:=hp.sq;walk_at "rf";refine⟨_,.tup hp.1,_,rfl,?_⟩;rw[if_pos (by decide)];refine⟨_,.inr k4,?_⟩;rw[if_pos (show (((([V.int p.x,V.int p.y,V.int p.z,V.int p.w]:List V).length:Nat):Int))=4 from rfl)];refine⟨⟨_,k4⟩,fun acc hacc=>?_⟩;refine jjw (fun _=>.bl true) (by show 4<1000;decide) hacc k4 (fun z J R hz s3 hR=>?_) fun J j2 e2=>?_
 ·obtain⟨i,rfl⟩:∃i,z=V.int i:=by
   simp only[xav,xbM,or_false] at hz;rcases hz with rfl | rfl | rfl | rfl<;>exact⟨_,rfl⟩
  walk_at "rf";exact⟨i,rfl,hR _ (Same.refl _)⟩
 ·exact⟨[true,true,true,true],SqL.of e2,q _ j2⟩
theorem jmu {rs:List Addr} (h:Sps H rs ps) (m:r∈rs):∃p,Is4 H r p:=by
  induction h with
  | nil=>cases m
  | cons h _ ih =>
    rcases xav.mp m with rfl | m
    . exact⟨_,h⟩
    . exact ih m
theorem jg4 (xs:List V):(xs.map fun _=>V.bl true)=(xs.map fun _=>true).map V.bl:=by rw[xa4];rfl
theorem jg5 (xs:List V):(xs.map fun _=>true).all id=true:=by
 induction xs with
 | nil=>rfl
 | cons _ _ ih=>exact ih
def spIP:Sp:=fun vs H Q _=>∃(r:Addr) (x:Int × List Pt),vs=[.ref r]/\PcAt H r x/\x.2.length<=100/\∀H',Same H H'->Q (.bl true) H'
theorem ok_ip (T:Tx K mg t1 t2) (F:At K mg "_law_is_piece" ja2 ["found"] []) (dE:jan P w K mg base CX0 1 "_law_whole" ["found"] [] spWh) (de:jan P w K mg base CX0 2 "_law_is_spot" ["found"] [] jol):jan P w K mg base CX0 3 "_law_is_piece" ["found"] [] spIP:=by
 refine F.ok jcf (fun vs H Q E h=>?_) (fun f cdv A outer s H vs Q E hr h=>?_)
 ·obtain⟨r,p,rfl,_⟩:=h;rfl
 obtain⟨r,⟨k,ps⟩,rfl,⟨b,e1,rs,e2,e3⟩,l100,q⟩:=h;have S:=jcf;refine⟨_,(jad (jaW (PW.pt (jfW (jcZ (jbH (jaw jbi rfl T.m_isinstance boot_isinstance (jaa (pv 0) (jaa (jcQ (v:=.ty "tuple") rfl T.m_tuple boot_tuple rfl) jac jaf) jaf)))) (jfW (jau jdP (jaw jaH rfl T.m_len PySem.boot_len (jaa (pv 0) jac jaf)) jab (jax _)) (jfh (jcZ (jbH (jah dE hr.m rfl jav (jaa (jaj jal (pv 0) jab) jac jaq))))))))
  (jai (jas jdD))
  jaz)
  (jai (jas (jdu (jaw jbi rfl T.m_isinstance boot_isinstance (jaa (jaj jal (pv 0) jab) (jaa (jcQ (v:=.ty "tuple") rfl T.m_tuple boot_tuple rfl) jac jaf) jaq)) (jeo (jaw (jbs rfl) rfl T.m_all boot_all (jaa (ja1 rfl (N':=["one"]) (ix:=[]) ⟨rfl,rfl,by decide +kernel,by decide +kernel,by decide +kernel,(show ∀y:Str × NameKind,y∈_->y.2=NameKind.free->(jae ja2).names.lookup y.1=some .cell\/(jae ja2).names.lookup y.1=some .free from by decide +kernel),.nil⟩ (jc1 (jaj jal (pv 0) jab)) (fun _ _ _ _=>jao (i:=0) (show (["one"]:List Str).Nodup from by decide +kernel) rfl (Or.inl rfl)) (fun _ _ _ _=>ja0) (fun _ _ _ _=>(jah de hr.m rfl jav (jaa (pv 0) jac jaf)))) jac jcd))))))),?_⟩
 have k1:SqT K H r [.int k,.ref b]:=SqT.of e1;walk_at "rf";have l100':ps.length<=100:=l100;have lrs:=e3.len;refine⟨_,.tup e1,_,rfl,?_⟩;rw[if_neg (by decide)];refine⟨_,.inr k1,?_⟩;rw[if_pos (show (((([V.int k,V.ref b]:List V).length:Nat):Int))=2 from rfl)];refine ixT k1 (i:=0) rfl ⟨k,rfl,_,rfl,?_⟩;rw[if_neg (by decide)];refine ixT k1 (i:=1) rfl ⟨_,.tup e2,_,rfl,?_⟩;rw[if_pos (by decide)];refine ixT k1 (i:=1) rfl ⟨b,rfl,⟨_,SqT.of e2⟩,fun acc hacc=>?_⟩;refine jjw (fun _=>.bl true) (by rw[xaa];show rs.length<1000;have:rs.length=ps.length:=lrs;omega) hacc (SqT.of e2) (fun z J R hz s3 hR=>?_) fun J j2 e4=>?_
 ·obtain⟨r',hr',rfl⟩:=xaz.mp hz;obtain⟨p,hp⟩:=jmu e3 hr';walk_at "rf";exact⟨r',p,rfl,hp.keep s3,fun H' s'=>hR _ s'⟩
 ·refine⟨(rs.map V.ref).map fun _=>true,SqL.of (e4.trans (congrArg (fun l=>some (HO.lst l)) (jg4 _))),?_⟩;rw[jg5];exact q _ j2
def jom (n:Nat):Sp:=fun vs H Q _=>∃(v:V) (T:Tr) (c:Nat),vs=[v]/\TrAt H v T/\T.ht<n/\T.Good c/\c<900/\∀H',Same H H'->Q (.bl true) H'
theorem jmv (T:Tx K mg t1 t2) (F:At K mg "_law_is_tree" jaV ["found"] []) (de:jan P w K mg base CX0 2 "_law_is_spot" ["found"] [] jol) (dh:jan P w K mg base CX0 3 "_law_is_piece" ["found"] [] spIP) (dk:jan P w K mg base CX0 (7+n) "_law_is_tree" ["found"] [] (jom n)):jan P w K mg base CX0 (7+n+1) "_law_is_tree" ["found"] [] (jom (n+1)):=by
 refine F.ok jbG (fun vs H Q E h=>?_) (fun f cdv Ar outer s H vs Q E hr h=>?_)
 ·obtain⟨v,T,c,rfl,_⟩:=h;rfl
 obtain⟨v,Tt,c,rfl,hT,hn,hG,c9,q⟩:=h;have S:=jbG;refine⟨_,(jad (jaW (jau jeq (pv 0) ja6 (jax _))
  (jai (jas jdD))
  jaz)
  (jad (jaW (PW.pt (jfW (jcZ (jbH (jaw jbi rfl T.m_isinstance boot_isinstance (jaa (pv 0) (jaa (jcQ (v:=.ty "tuple") rfl T.m_tuple boot_tuple rfl) jac jaf) jaf)))) (jfW (jau jdP (jaw jaH rfl T.m_len PySem.boot_len (jaa (pv 0) jac jaf)) jab (jax _)) (jfh (jcZ (jbH (jah de (hr.mono (by omega)) rfl jav (jaa (jaj jal (pv 0) jab) jac jaq))))))))
  (jai (jas jdD))
  jaz)
  (jad (jaW (PW.pt (jfW (jcZ (jbH (jaw jbi rfl T.m_isinstance boot_isinstance (jaa (jaj jal (pv 0) jab) (jaa (jcQ (v:=.ty "tuple") rfl T.m_tuple boot_tuple rfl) jac jaf) jaq)))) (jfh (jcZ (jbH (jaw (jbs rfl) rfl T.m_all boot_all (jaa (ja1 rfl (N':=["one"]) (ix:=[]) ⟨rfl,rfl,by decide +kernel,by decide +kernel,by decide +kernel,(show ∀y:Str × NameKind,y∈_->y.2=NameKind.free->(jae jaV).names.lookup y.1=some .cell\/(jae jaV).names.lookup y.1=some .free from by decide +kernel),.nil⟩ (jc1 (jaj jal (pv 0) jab)) (fun _ _ _ _=>jao (i:=0) (show (["one"]:List Str).Nodup from by decide +kernel) rfl (Or.inl rfl)) (fun _ _ _ _=>ja0) (fun _ _ _ _=>(jah dh (hr.mono (by omega)) rfl jav (jaa (pv 0) jac jaf)))) jac jcd)))))))
  (jai (jas jdD))
  jaz)
  (jai (jas (jdu (jah dk (hr.mono (by omega)) rfl jav (jaa (jaj jal (pv 0) jab) jac jaq)) (jeo (jah dk (hr.mono (by omega)) rfl jav (jaa (jaj jal (pv 0) jab) jac jaq))))))))),?_⟩
 walk_at "rf";refine jb2 (fun e=>?_) fun e=>?_
 ·exact q H (Same.refl _)
 cases hT with
 | nil=>exact absurd rfl e
 | @nd t g h rs vb va pl here B A h1 h2 h3 h4 h5 h6 =>
 obtain⟨g1,⟨g2,g3⟩,g4,g5⟩:=hG;have lh:=h4.len;have hh:max B.ht A.ht+1<n+1:=hn;have k1:SqT K H t [.ref g,.ref h,vb,va]:=SqT.of h1;refine⟨_,.tup h1,_,rfl,?_⟩;rw[if_neg (by decide)];refine⟨t,rfl,_,.inr k1,?_⟩;rw[if_pos (show (((([V.ref g,V.ref h,vb,va]:List V).length:Nat):Int))=4 from rfl)];refine ixT k1 (i:=0) rfl ⟨g,pl,rfl,h2,fun H1 s1=>⟨_,rfl,?_⟩⟩;rw[if_neg (by decide)];refine ixT (SqT.of (s1 _ _ h1)) (i:=1) rfl ⟨_,.tup (s1 _ _ h3),_,rfl,?_⟩;rw[if_neg (by decide)];refine ixT (SqT.of (s1 _ _ h1)) (i:=1) rfl ⟨h,rfl,⟨_,SqT.of (s1 _ _ h3)⟩,fun acc hacc=>?_⟩;refine jjw (fun _=>.bl true) (by rw[xaa];omega) hacc (SqT.of (s1 _ _ h3)) (fun z J R hz s3 hR=>?_) fun J j2 e4=>?_
 ·obtain⟨r',hr',rfl⟩:=xaz.mp hz;obtain⟨i,hi⟩:=List.getElem?_of_mem hr';obtain⟨x,hx,hp⟩:=h4.getA hi;obtain⟨Z,vs,_,_,l16,r16⟩:=g2 x (xaD hx);have lx:=r16.len;rw[xaa] at lx;walk_at "rf";exact⟨r',x,rfl,hp.keep (s1.trans s3).t,by omega,fun H' s'=>hR _ s'⟩
 ·refine⟨(rs.map V.ref).map fun _=>true,SqL.of (e4.trans (congrArg (fun l=>some (HO.lst l)) (jg4 _))),?_⟩;rw[jg5,if_neg (by decide)];have s2:=s1.trans j2;refine ixT (SqT.of (s2 _ _ h1)) (i:=2) rfl ⟨vb,B,c,rfl,h5.keep s2.t,by omega,g4,c9,fun H5 s5=>⟨_,rfl,?_⟩⟩;rw[if_pos rfl];exact ixT (SqT.of ((s2.trans s5) _ _ h1)) (i:=3) rfl ⟨va,A,c,rfl,h6.keep (s2.trans s5).t,by omega,g5,c9,fun H6 s6=>q H6 (s2.trans (s5.trans s6))⟩
theorem jlc (T:Tx K mg t1 t2) (F:At K mg "_law_is_tree" jaV ["found"] []) (de:jan P w K mg base CX0 2 "_law_is_spot" ["found"] [] jol) (dh:jan P w K mg base CX0 3 "_law_is_piece" ["found"] [] spIP):∀n:Nat,jan P w K mg base CX0 (7+n) "_law_is_tree" ["found"] [] (jom n)
 | 0=>F.ok (k:=6) jbG (fun vs H Q E ⟨_,_,_,_,_,z,_⟩=>absurd z (xbT _)) fun f cdv Ar outer s H vs Q E hr ⟨_,_,_,_,_,z,_⟩=>absurd z (xbT _)
 | n+1=>jmv T F de dh (jlc T F de dh n)
theorem ok_it (T:Tx K mg t1 t2) (F:At K mg "_law_is_tree" jaV ["found"] []) (de:jan P w K mg base CX0 2 "_law_is_spot" ["found"] [] jol) (dh:jan P w K mg base CX0 3 "_law_is_piece" ["found"] [] spIP):jan P w K mg base CX0 16 "_law_is_tree" ["found"] [] (jom 9):=by
 exact jlc T F de dh 9
def trD:Tr->PyData
 | .nil=>.none
 | .nd p h b a=>.tuple [.tuple [.int p.x,.int p.y,.int p.z,.int p.w],.tuple (h.map pcD),trD b,trD a]
theorem TrAt.rds {v:V} {T:Tr} (h:TrAt H v T):Rds K H v (trD T):=by
 induction h with
 | nil=>exact .non
 | nd h1 h2 h3 h4 _ _ i5 i6=>exact .tup (SqT.of h1) (.cons (.tup (SqT.of h2.1) (RdsAll.ints [_,_,_,_])) (.cons (.tup (SqT.of h3) (jge h4)) (.cons i5 (.cons i6 .nil))))
theorem jgf:∀T:Tr,PyData.canLay0 (trD T)=true/\PyData.depth (trD T)<=5+T.ht
  | .nil=>⟨rfl,by show PyData.depth .none<=5;decide⟩
  | .nd p h b a => by
    obtain⟨b1,b2⟩:=jgf b;obtain⟨a1,a2⟩:=jgf a;obtain⟨h1,h2⟩:=ji8 h;have hh:(Tr.nd p h b a).ht=max b.ht a.ht+1:=rfl;refine⟨?_,?_⟩
    . simp [trD,PyData.canLay0,PyData.canLayAll0,h1,b1,a1]
    . rw[hh]
      simp [trD,PyData.depth,PyData.depthAll];omega
def plP (ps:List Pt):Pt:=match pln (rgh (pt ps 0) (pt ps 1) (pt ps 2)) with
 | [a,b,c,d]=>⟨a,b,c,d⟩
 | _=>⟨0,0,0,0⟩
theorem jon {b:Int} (h:pln (rgh (pt ps 0) (pt ps 1) (pt ps 2))=[a,b,c,d]):plP ps=⟨a,b,c,d⟩:=by
 unfold plP;rw[h]
abbrev Dsc:=Int × Sht × List Tri
def dPc (x:Dsc):Int × List Pt:=(x.1,rgs x.2.1 x.2.2)
structure DOk (x:Dsc):Prop where
 z:SZ x.2.1
 f:VF x.2.2
 l6:x.2.2.length<=6
 c:∀p∈rgs x.2.1 x.2.2,Cn p
theorem jjc:∀xs:List (Int × List Pt),(∀x∈xs,OB x.2)->∃ds:List Dsc,xs=ds.map dPc/\∀d∈ds,DOk d
  | [],_=>⟨[],rfl,fun _ z=>nomatch z⟩
  | (k, ps) :: xs, h => by
    obtain⟨ds,e,hd⟩:=jjc xs fun x hx=>h x (.tail _ hx);obtain⟨⟨Z,ws,h1,h2,h3,h4⟩,h5⟩:=h _ (.head _);change ps=rgs Z ws at h4;subst h4;refine⟨(k,Z,ws)::ds,by rw[xaw,<- e];rfl,fun d hx=>?_⟩;rcases xav.mp hx with rfl | hx
    . exact⟨h1,h2,h3,h5⟩
    . exact hd d hx
theorem DOk.rr (x:Dsc):RR (x.2.2.map (spt x.2.1)) (rgs x.2.1 x.2.2):=jeC _ _
theorem DOk.n3 {x:Dsc} (h:DOk x):3<=(rgs x.2.1 x.2.2).length:=by
 have:=(DOk.rr x).len;rw[xaa] at this;have:=h.f.rg.n3;omega
theorem DOk.pl {x:Dsc} (h:DOk x):pln (rgh (pt (rgs x.2.1 x.2.2) 0) (pt (rgs x.2.1 x.2.2) 1) (pt (rgs x.2.1 x.2.2) 2))=[(plP (rgs x.2.1 x.2.2)).x,(plP (rgs x.2.1 x.2.2)).y,(plP (rgs x.2.1 x.2.2)).z,(plP (rgs x.2.1 x.2.2)).w]/\PlG (plP (rgs x.2.1 x.2.2)):=by
 have n3:=h.n3;obtain⟨pl,ep,gp⟩:=jmq (h.c _ (ja4 (i:=0) (by omega))) (h.c _ (ja4 (i:=1) (by omega))) (h.c _ (ja4 (i:=2) (by omega)));rw[jon ep];exact⟨ep,gp⟩
theorem DOk.na {x:Dsc} (h:DOk x):¬jbE (pt (rgs x.2.1 x.2.2) 0) (pt (rgs x.2.1 x.2.2) 1) (pt (rgs x.2.1 x.2.2) 2):=jl9 h.z.hw h.z.nz h.f.rg (by have:=h.l6;omega) (DOk.rr x)
noncomputable def grT (T:Tr) (x:Dsc):Tr:=grw x.2.1 x.1 (plP (rgs x.2.1 x.2.2)) T x.2.2
noncomputable def grs (ys:List Dsc):Tr:=ys.foldl grT .nil
theorem jfe (ys:List Dsc) (y:Dsc):grs (ys++[y])=grT (grs ys) y:=by
 unfold grs;rw[xch];rfl
theorem jeg:∀(n:Nat) (ys:List Dsc),ys.length=n->(∀y∈ys,DOk y)->n<=9->(grs ys).Good n/\(grs ys).ht<=n
  | 0, ys, e, _, _ => by
    rw[xbh.mp e];exact⟨trivial,xag _⟩
  | n + 1, ys, e, h, n9 => by
    obtain⟨zs,z,rfl⟩:∃zs z,ys=zs++[z]:=by
      rcases List.eq_nil_or_concat ys with rfl | ⟨zs,z,e⟩
      . cases e
      . exact⟨zs,z,by rw[e,List.concat_eq_append]⟩
    have lz:zs.length=n:=by simpa using e
    obtain⟨g1,g2⟩:=jeg n zs lz (fun y hy=>h y (xbs _ hy)) (by omega);have hz:=h z (xaB _ (.head _));have:=hz.l6;rw[jfe];exact⟨jfd hz.z hz.pl.2 g1 hz.f (by omega),xaA (ji2 ..) (by omega)⟩
def jjd:Sp:=fun vs H Q _=>∃(v:V) (r:Addr) (T:Tr) (c:Nat) (x:Dsc),vs=[v,.ref r]/\TrAt H v T/\T.ht<9/\T.Good c/\c<900/\PcAt H r (dPc x)/\DOk x/\∀(t:Addr) (H':Hp),Same H H'->TrAt H' (.ref t) (grT T x)->Q (.ref t) H'
theorem joo (T:Tx K mg t1 t2) (F:At K mg "grown_by" jdp ["tree","piece"] []) (Di:jan P w K mg base CX0 6 "plane_of" ["board"] [] jfH) (dz:jan P w K mg base CX0 16 "grown_with" ["tree","number","board","own"] [] (jmo 9)):jan P w K mg base CX0 17 "grown_by" ["tree","piece"] [] jjd:=by
 refine F.ok jd6 (fun vs H Q E h=>?_) (fun f cdv Ar outer s H vs Q E hr h=>?_)
 ·obtain⟨_,_,_,_,_,rfl,_⟩:=h;rfl
 obtain⟨v,r,Tt,c,x,rfl,hT,h9,hG,c9,⟨b,e1,rs,e2,e3⟩,hx,q⟩:=h;have S:=jd6;refine⟨_,(jai (jas (jah dz hr.m rfl jav (jaa (pv 0) (jaa (jaj jal (pv 1) jab) (jaa (jaj jal (pv 1) jab) (jaa (jah Di hr.m rfl jav (jaa (jaj jal (pv 1) jab) jac jaq)) jac jaI) jaq) jaq) jaf)))),?_⟩;have k1:SqT K H r [.int x.1,.ref b]:=SqT.of e1;have n3:=hx.n3;have l6:=hx.l6;obtain⟨ep,gp⟩:=hx.pl;walk_at "rf";refine ixT k1 (i:=0) rfl (ixT k1 (i:=1) rfl (ixT k1 (i:=1) rfl ⟨b,rs,rgs x.2.1 x.2.2,rfl,e2,e3,n3,hx.na,fun g H1 s1 eg=>?_⟩));rw[ep] at eg;exact⟨v,x.1,b,g,Tt,_,x.2.1,x.2.2,c,rfl,hT.keep s1.t,h9,hG,c9,⟨eg,gp.sm⟩,gp,hx.z,hx.f,by omega,⟨rs,s1 _ _ e2,e3.keep s1.t⟩,fun t H' s' t'=>q t H' (s1.trans s') t'⟩
theorem jmw {rs:List Addr} {xs:List (Int × List Pt)} (h:All2 (PcAt H) rs xs):∃ps:List (Key × V),rs.length=ps.length/\(∀(i:Nat) (r:Addr) (q:Key × V),rs[i]?=some r->ps[i]?=some q->H r=some (.tup [kV q.1,q.2]))/\ps.map (·.1)=xs.map (fun x=>(Sum.inl x.1:Key))/\∀x∈xs,∃b,BoAt H b x.2/\((Sum.inl x.1:Key),V.ref b)∈ps:=by
  induction h with
  | nil=>exact⟨[],rfl,(fun _ _ _ z=>nomatch z),rfl,fun _ z=>nomatch z⟩
  | @cons r x rs xs h _ ih =>
    obtain⟨b,e,bo⟩:=h;obtain⟨ps,i1,i2,i3,i4⟩:=ih;refine⟨(.inl x.1,.ref b)::ps,by rw[xaq,xaq,i1],fun i r' q h1 h2=>?_,by rw[xaw,xaw,i3],fun y hy=>?_⟩
    . cases i with
      | zero=>cases h1;cases h2;exact e
      | succ i=>exact i2 i r' q h1 h2
    . rcases xav.mp hy with rfl | hy
      . exact⟨b,bo,.head _⟩
      . obtain⟨b',h1,h2⟩:=i4 y hy
        exact⟨b',h1,.tail _ h2⟩
theorem jmx {ps:List (Key × V)} {k:Key} (h:k∉ps.map (·.1)):jia ps k=none:=by
  induction ps with
  | nil=>rfl
  | cons p ps ih =>
    rw[xaw,xav,not_or] at h;rw[jdH (fun z=>h.1 z.symm)];exact ih h.2
theorem jld:∀(ps acc:List (Key × V)),((acc++ps).map (·.1)).Nodup->ps.foldl (fun a q=>jhs a q.1 q.2) acc=acc++ps
  | [],acc,_=>(xbv acc).symm
  | p :: ps, acc, h => by
    have hn:p.1∉acc.map (·.1):=fun m=>by
      rw[xah,List.nodup_append] at h;exact h.2.2 _ m _ (.head _) rfl
    rw[xb6,jjF p.2 (jmx hn),jld ps (acc++[(p.1,p.2)]) (by rw[xbx];exact h),xbx];rfl
theorem jop {ps:List (Key × V)} (h:(ps.map (·.1)).Nodup):ofK ps=ps:=jld ps [] h
theorem jg6 {ps:List (Key × V)} {k:Key} {v:V} (h:(ps.map (·.1)).Nodup) (m:(k,v)∈ps):jia ps k=some v:=by
  induction ps with
  | nil=>cases m
  | cons p ps ih =>
    rw[xaw,xaJ] at h;rcases xav.mp m with rfl | m
    . exact jeS rfl
    . rw[jdH (fun z=>h.1 (by rw[z]; exact xbR m))]
      exact ih h.2 m
theorem jje {xs:List Int} (h:xs.Nodup):(xs.map fun x=>(Sum.inl x:Key)).Nodup:=by
  induction xs with
  | nil=>exact xbK
  | cons x xs ih =>
    rw[xaJ] at h;rw[xaw,xaJ];refine⟨fun m=>?_,ih h.2⟩;obtain⟨y,hy,e⟩:=xaz.mp m;exact h.1 (by rw[<- Sum.inl.inj e];exact hy)
def joq:Sp:=fun vs H Q _=>∃(S:Addr) (v:V) (rs:List Addr) (xs ys:List Dsc),vs=[.ref S,v]/\H S=some (.lst (rs.map V.ref))/\All2 (PcAt H) rs (xs.map dPc)/\(∀x∈xs,DOk x)/\(xs.map (·.1)).Nodup/\ys.length<=8/\(∀y∈ys,y∈xs)/\((v=.non/\ys=xs)\/∃R,v=.ref R/\H R=some (.lst (ys.map fun y=>V.int y.1)))/\∀(t:V) (H':Hp),Same H H'->TrAt H' t (grs ys)->Q t H'
theorem jle {ds:List V} (T:Tx K mg t1 t2) (F:At K mg "tree_of" jbo ["some","row"] ds) (dg:jan P w K mg base CX0 17 "grown_by" ["tree","piece"] [] jjd):jan P w K mg base CX0 18 "tree_of" ["some","row"] ds joq:=by
 refine F.ok jey (fun vs H Q E h=>?_) (fun f cdv Ar outer s H vs Q E hr h=>?_)
 ·obtain⟨_,_,_,_,_,rfl,_⟩:=h;rfl
 obtain⟨S0,v,rs,xs,ys,rfl,eS,aS,ok,nd,l8,sub,hv,q⟩:=h;have S:=jey;refine⟨_,(jad (jat (i:=2) S.nd rfl (Or.inl rfl) (jaS (jdU rfl) rfl T.m_dict boot_dict (jaa (pv 0) jac jaf)))
  (jad (jat (i:=3) S.nd rfl (Or.inl rfl) (jeG (jau jeq (pv 1) ja6 (jax _)) (jaS (jem rfl) rfl T.m_list boot_list (jaa (pv 2) jac jaf)) (pv 1)))
  (jad (jat (i:=4) S.nd rfl (Or.inl rfl) ja6)
  (jad (jbx PassesOwn.never rfl (jbN (pv 3)) (jao (i:=5) S.nd rfl (Or.inl rfl))
  (jai (jat (i:=4) S.nd rfl (Or.inl rfl) (jah dg hr.m rfl jav (jaa (pv 4) (jaa (jaG (jaa (pv 5) (jaa (jaj jlC (pv 2) (pv 5)) jac jaq) jaf)) jac jaE) jaf)))))
  (jai (jas (pv 4))))))),?_⟩
 walk_at "rf";obtain⟨ps,lp,hp,km,hps⟩:=jmw aS;have kn:(ps.map (·.1)).Nodup:=by
  rw[km,xa4];have:=jje nd;rw[xa4] at this;exact this
 have eo:=jop kn;have em:ps.map (fun q=>kV q.1)=xs.map fun y=>V.int y.1:=by
  have z:ps.map (fun q=>kV q.1)=(ps.map (·.1)).map kV:=by rw[xa4];rfl
  rw[z,km,xa4,xa4];rfl
 refine⟨rs,eS,ps,lp,hp,fun d hd=>?_⟩;have jd:=Same.new hd (.dK (ofK ps));have ed0:upd H d (.dK (ofK ps)) d=some (.dK ps):=by rw[jag,eo]
 generalize upd H d (.dK (ofK ps))=H1 at jd ed0 |-
 unfold L2.tIf;walk_at "rf";rcases hv with ⟨rfl,rfl⟩ | ⟨R,rfl,eR⟩
 ·refine jb2 (fun _=>?_) fun z=>absurd rfl z;refine⟨ps,ed0,fun N hN=>?_⟩;have jN:=Same.new hN (.lst (ps.map fun q=>kV q.1));have eN:upd H1 N (.lst (ps.map fun q=>kV q.1)) N=some (.lst (ys.map fun y=>V.int y.1)):=by rw[jag,em]
  have ed:=jN _ _ ed0;have sJ:=jd.trans jN;generalize upd H1 N (.lst (ps.map fun q=>kV q.1))=J at eN ed sJ |-
  refine⟨⟨_,SqL.of eN⟩,jb0 (K:=K) (a:=N) (xs:=ys.map fun y=>V.int y.1) (fun i σ Hh=>∃(o5:Option V) (t:V),σ=[some (.ref S0),some .non,some (.ref d),some (.ref N),some t,o5]/\Same J Hh/\TrAt Hh t (grs (ys.take i))) ⟨_,_,rfl,Same.refl _,.nil⟩ (fun i σ Hh _ ⟨_,_,_,sx,_⟩=>sx.seq (SqL.of eN)) ?_ ?_⟩
  ·rintro i w σ Hh hi ⟨o5,t,rfl,sx,tT⟩;rw[xal] at hi;obtain⟨x,hx,rfl⟩:=xbA.mp hi;have xm:=sub x (xaD hx);have il:=(xaf.mp hx).1;obtain⟨b,bo,hget⟩:=hps (dPc x) (xbR xm);have hget:=jg6 kn hget;obtain⟨g1,g2⟩:=jeg i (ys.take i) (by rw[xay];omega) (fun y hy=>ok y (sub y (xbu hy))) (by omega);walk_at "rf";refine⟨d,ps,.inl x.1,.ref b,rfl,rfl,sx _ _ ed,hget,by decide,fun p hp=>?_⟩;have j:=Same.new hp (.tup [.int x.1,.ref b]);refine⟨t,p,grs (ys.take i),i,x,rfl,tT.keep j.t,by omega,g1,by omega,⟨b,jag,(bo.keep sJ.t).keep (sx.trans j).t⟩,ok x xm,fun t' H' s' tT'=>⟨sx.trans (j.trans s'),?_⟩⟩;rw[xaV,hx];rw[show grs (List.take i ys++(some x).toList)=grT (grs (ys.take i)) x from jfe _ _];exact tT'
  ·rintro σ Hh ⟨o5,t,rfl,sx,tT⟩;rw[xaa,xa0] at tT;walk_at "rf";exact q t Hh (sJ.trans sx) tT
 ·refine jb2 (fun z=>nomatch z) fun _=>?_;have eN:=jd _ _ eR;have ed:=ed0;have sJ:=jd
  revert eN ed sJ
  generalize H1=J;generalize R=N;intro eN ed sJ;refine⟨N,rfl,⟨_,SqL.of eN⟩,jb0 (K:=K) (a:=N) (xs:=ys.map fun y=>V.int y.1) (fun i σ Hh=>∃(o5:Option V) (t:V),σ=[some (.ref S0),some (.ref N),some (.ref d),some (.ref N),some t,o5]/\Same J Hh/\TrAt Hh t (grs (ys.take i))) ⟨_,_,rfl,Same.refl _,.nil⟩ (fun i σ Hh _ ⟨_,_,_,sx,_⟩=>sx.seq (SqL.of eN)) ?_ ?_⟩
  ·rintro i w σ Hh hi ⟨o5,t,rfl,sx,tT⟩;rw[xal] at hi;obtain⟨x,hx,rfl⟩:=xbA.mp hi;have xm:=sub x (xaD hx);have il:=(xaf.mp hx).1;obtain⟨b,bo,hget⟩:=hps (dPc x) (xbR xm);have hget:=jg6 kn hget;obtain⟨g1,g2⟩:=jeg i (ys.take i) (by rw[xay];omega) (fun y hy=>ok y (sub y (xbu hy))) (by omega);walk_at "rf";refine⟨d,ps,.inl x.1,.ref b,rfl,rfl,sx _ _ ed,hget,by decide,fun p hp=>?_⟩;have j:=Same.new hp (.tup [.int x.1,.ref b]);refine⟨t,p,grs (ys.take i),i,x,rfl,tT.keep j.t,by omega,g1,by omega,⟨b,jag,(bo.keep sJ.t).keep (sx.trans j).t⟩,ok x xm,fun t' H' s' tT'=>⟨sx.trans (j.trans s'),?_⟩⟩;rw[xaV,hx];rw[show grs (List.take i ys++(some x).toList)=grT (grs (ys.take i)) x from jfe _ _];exact tT'
  ·rintro σ Hh ⟨o5,t,rfl,sx,tT⟩;rw[xaa,xa0] at tT;walk_at "rf";exact q t Hh (sJ.trans sx) tT
theorem ok_to (T:Tx K mg t1 t2) (F:At K mg "tree_of" jbo ["some","row"] []) (dg:jan P w K mg base CX0 17 "grown_by" ["tree","piece"] [] jjd):jan P w K mg base CX0 18 "tree_of" ["some","row"] [] joq:=by
 exact jle T F dg
theorem jor (T:Tx K mg t1 t2) (F:At K mg "tree_of" jbo ["some","row"] [.non]) (dg:jan P w K mg base CX0 17 "grown_by" ["tree","piece"] [] jjd):jan P w K mg base CX0 18 "tree_of" ["some","row"] [.non] joq:=by
 exact jle T F dg
theorem jjf (hk:k<=vs.length) (hi:i<vs.length):tr (vs.drop k++vs.take k) i=if k+i<vs.length then tr vs (k+i) else tr vs (k+i-vs.length):=by
 unfold tr;rw[xab];have ld:(vs.drop k).length=vs.length-k:=xat;by_cases c:k+i<vs.length
 ·rw[if_pos c,xaF (by omega),xcb,xab]
 ·rw[if_neg c,xau (by omega),ld,xcc,if_pos (by omega),xab,show i-(vs.length-k)=k+i-vs.length by omega]
theorem jmy (R:Rng vs) (hk:k<=vs.length):Rng (vs.drop k++vs.take k):=by
 have ln:(vs.drop k++vs.take k).length=vs.length:=by rw[xad,xat,xay];omega
 refine⟨by rw[ln];exact R.n3,fun i j l ij jl ll=>?_,fun v hv=>?_⟩
 ·rw[ln] at ll;rw[jjf hk (by omega),jjf hk (by omega),jjf hk ll];by_cases c1:k+i<vs.length
  ·rw[if_pos c1];by_cases c2:k+j<vs.length
   ·rw[if_pos c2];by_cases c3:k+l<vs.length
    ·rw[if_pos c3];exact R.tp _ _ _ (by omega) (by omega) c3
    ·rw[if_neg c3,<- jcy];exact R.tp _ _ _ (by omega) (by omega) c2
   ·rw[if_neg c2,if_neg (by omega),jcy];exact R.tp _ _ _ (by omega) (by omega) c1
  ·rw[if_neg c1,if_neg (by omega),if_neg (by omega)];exact R.tp _ _ _ (by omega) (by omega) (by omega)
 ·rcases xaO.mp hv with h | h
  ·exact R.hz v (List.mem_of_mem_drop h)
  ·exact R.hz v (xbu h)
def sw3 (v:Tri):Tri:=⟨v.y,v.x,v.z⟩
def Sht.sw (Z:Sht):Sht:=⟨Z.s,Z.w,Z.d,Z.c⟩
theorem jos (Z:Sht) (v:Tri):spt Z.sw (sw3 v)=spt Z v:=by
 have e1:rX Z.sw (sw3 v)=rX Z v:=by
  show Z.s.x*v.z+Z.w*(v.y*Z.d.x+v.x*Z.c.x)=Z.s.x*v.z+Z.w*(v.x*Z.c.x+v.y*Z.d.x);rw[Int.add_comm (v.y*Z.d.x)]
 have e2:rY Z.sw (sw3 v)=rY Z v:=by
  show Z.s.y*v.z+Z.w*(v.y*Z.d.y+v.x*Z.c.y)=Z.s.y*v.z+Z.w*(v.x*Z.c.y+v.y*Z.d.y);rw[Int.add_comm (v.y*Z.d.y)]
 have e3:rZ Z.sw (sw3 v)=rZ Z v:=by
  show Z.s.z*v.z+Z.w*(v.y*Z.d.z+v.x*Z.c.z)=Z.s.z*v.z+Z.w*(v.x*Z.c.z+v.y*Z.d.z);rw[Int.add_comm (v.y*Z.d.z)]
 have e4:rW Z.sw (sw3 v)=rW Z v:=rfl;have e5:rG Z.sw (sw3 v)=rG Z v:=by unfold rG;rw[e1,e2,e3,e4]
 unfold spt;rw[e1,e2,e3,e4,e5]
theorem sw_nz (h:Z.u.nz):Z.sw.u.nz:=fun z=>h (by
 obtain⟨z1,z2,z3⟩:=z;have e1:Z.sw.u.x=-Z.u.x:=by show Z.d.y*Z.c.z-Z.d.z*Z.c.y=-(Z.c.y*Z.d.z-Z.c.z*Z.d.y);grind
 have e2:Z.sw.u.y=-Z.u.y:=by show Z.d.z*Z.c.x-Z.d.x*Z.c.z=-(Z.c.z*Z.d.x-Z.c.x*Z.d.z);grind
 have e3:Z.sw.u.z=-Z.u.z:=by show Z.d.x*Z.c.y-Z.d.y*Z.c.x=-(Z.c.x*Z.d.y-Z.c.y*Z.d.x);grind
 omega)
theorem dt_sw (a b c:Tri):dt (sw3 c) (sw3 b) (sw3 a)=dt a b c:=by
 unfold dt jby sw3;grind
theorem jjg (h:i<vs.length):tr vs.reverse i=tr vs (vs.length-1-i):=by
 unfold tr;rw[xab,xab,xbD h]
theorem jmz (R:Rng vs):Rng (vs.reverse.map sw3):=by
 have ln:(vs.reverse.map sw3).length=vs.length:=by rw[xaa,xaM]
 refine⟨by rw[ln];exact R.n3,fun i j l ij jl ll=>?_,fun v hv=>?_⟩
 ·rw[ln] at ll;rw[jeD (by rw[xaM];omega),jeD (by rw[xaM];omega),jeD (by rw[xaM];omega),jjg (by omega),jjg (by omega),jjg ll,dt_sw];exact R.tp _ _ _ (by omega) (by omega) (by omega)
 ·obtain⟨u,hu,rfl⟩:=xaz.mp hv;exact R.hz u (List.mem_reverse.mp hu)
theorem jmA {m:List Pt} (hw:1<=Z.w) (nz:Z.u.nz) (R:Rng vs) (h:RR (vs.map (spt Z)) m):∃(Z':Sht) (us:List Tri),1<=Z'.w/\Z'.u.nz/\Rng us/\us.length=vs.length/\m=us.map (spt Z'):=by
  generalize el:vs.map (spt Z)=l at h;induction h with
  | refl=>exact⟨Z,vs,hw,nz,R,rfl,el.symm⟩
  | @rot m k h ih =>
    obtain⟨Z',us,h1,h2,h3,h4,rfl⟩:=ih;by_cases c:k<=us.length
    . exact⟨Z',us.drop k++us.take k,h1,h2,jmy h3 c,by rw[xad,xat,xay];omega,by rw[xah,xcj,xck]⟩
    . refine⟨Z',us,h1,h2,h3,h4,?_⟩
      rw[List.drop_eq_nil_of_le (by rw[xaa];omega),xaZ (by rw[xaa];omega),List.nil_append]
  | rev h ih =>
    obtain⟨Z',us,h1,h2,h3,h4,rfl⟩:=ih;refine⟨Z'.sw,us.reverse.map sw3,h1,sw_nz h2,jmz h3,by rw[xaa,xaM];exact h4,?_⟩;rw[xa4,<- List.map_reverse];exact xbO fun v _=>(jos Z' v).symm
theorem jot {m:List Pt} (hw:1<=Z.w) (nz:Z.u.nz) (R:Rng vs) (n8:vs.length<=8) (h:RR (vs.map (spt Z)) m):Brd m:=by
 obtain⟨Z',us,h1,h2,h3,h4,rfl⟩:=jmA hw nz R h;exact jgW h1 h2 h3 (by omega)
def smP (sg:Int) (p:Pt):Pt:=⟨sg*p.x,sg*p.y,sg*p.z,sg*p.w⟩
def hs (sg:Int) (pl p:Pt):Int:=hgt pl.x pl.y pl.z pl.w p*sg
theorem jcP (sg:Int) (pl p:Pt):hgt (smP sg pl).x (smP sg pl).y (smP sg pl).z (smP sg pl).w p=hs sg pl p:=by
 unfold hs hgt smP;grind
noncomputable def jeE (sg:Int) (pl:Pt) (ps:List Pt) (n:Nat):List Pt:=kHi (sdd (smP sg pl).x (smP sg pl).y (smP sg pl).z (smP sg pl).w ps n)
theorem sgn_mul_neg {b:Int}:sgn a*sgn b<0↔a*b<0:=by
 have n1:∀{a:Int},0<a->sgn a=1:=fun h=>jlK h;have n2:∀{a:Int},a<0->sgn a=-1:=fun {a} h=>by unfold sgn;rw[if_neg (by omega),if_pos h]
 have n3:sgn 0=0:=by unfold sgn;rw[if_neg (by omega),if_neg (by omega)]
 rcases xbX a 0 with ha | ha | ha<;>rcases xbX b 0 with hb | hb | hb
 ·rw[n2 ha,n2 hb];exact⟨fun h=>absurd h (by decide),fun h=>absurd h (by have:=Int.mul_pos_of_neg_of_neg ha hb;omega)⟩
 ·subst hb;rw[n3,xa6,xa6]
 ·rw[n2 ha,n1 hb];exact⟨fun _=>xaN ha hb,fun _=>by decide⟩
 ·subst ha;rw[n3,xaP,xaP]
 ·subst ha hb;rw[n3]
 ·subst ha;rw[n3,xaP,xaP]
 ·rw[n1 ha,n2 hb];exact⟨fun _=>xar ha hb,fun _=>by decide⟩
 ·subst hb;rw[n3,xa6,xa6]
 ·rw[n1 ha,n1 hb];exact⟨fun h=>absurd h (by decide),fun h=>absurd h (by have:=xak ha hb;omega)⟩
def jhq (sg:Int) (pl one other:Pt):Pt:=⟨other.x*hs sg pl one-one.x*hs sg pl other,other.y*hs sg pl one-one.y*hs sg pl other,other.z*hs sg pl one-one.z*hs sg pl other,other.w*hs sg pl one-one.w*hs sg pl other⟩
theorem jjh {pl:Pt} (i:Nat) (hw:1<=(pt ps ((i+(ps.length-1)) % ps.length)).w/\1<=(pt ps i).w):jeE sg pl ps (i+1)=(jeE sg pl ps i++(if hs sg pl (pt ps ((i+(ps.length-1)) % ps.length))*hs sg pl (pt ps i)<0 then [jde (jhq sg pl (pt ps ((i+(ps.length-1)) % ps.length)) (pt ps i))] else []))++(if 0<=hs sg pl (pt ps i) then [pt ps i] else []):=by
 unfold jeE;rw[jdJ];unfold kHi;rw[xap,xah,xbx]
 congr 1
 generalize pt ps ((i+(ps.length-1)) % ps.length)=p at hw |-
 generalize pt ps i=o at hw |-
 unfold jht;rw[jcP,jcP,xap,xah];have s0:(0<=sgn (hs sg pl o))↔0<=hs sg pl o:=by
  unfold sgn;split
  ·omega
  ·split<;>omega
 congr 1
 ·by_cases c:hs sg pl p*hs sg pl o<0
  ·rw[if_pos (sgn_mul_neg.mpr c),if_pos c];have e:jhq sg pl p o=⟨-(jcH (smP sg pl).x (smP sg pl).y (smP sg pl).z (smP sg pl).w p o).x,-(jcH (smP sg pl).x (smP sg pl).y (smP sg pl).z (smP sg pl).w p o).y,-(jcH (smP sg pl).x (smP sg pl).y (smP sg pl).z (smP sg pl).w p o).z,-(jcH (smP sg pl).x (smP sg pl).y (smP sg pl).z (smP sg pl).w p o).w⟩:=by
    unfold jcH jhq;simp only[jcP,Pt.mk.injEq];refine⟨?_,?_,?_,?_⟩<;>grind
   rw[e,jkV (jgN hw.1 hw.2 (by rw[jcP,jcP];exact sgn_mul_neg.mpr c))];rfl
  ·rw[if_neg (fun z=>c (sgn_mul_neg.mp z)),if_neg c];rfl
 ·by_cases c:0<=hs sg pl o
  ·rw[if_pos c];simp [s0.mpr c]
  ·rw[if_neg c];have:¬0<=sgn (hs sg pl o):=fun z=>c (s0.mp z);simp [this]
def jki (sg:Int) (pl:Pt) (l:List Pt):Bool:=l.any fun p=>decide (0<hs sg pl p)
theorem anyP_iff {pl:Pt} :jki sg pl l=true↔∃p∈l,0<hs sg pl p:=by
 unfold jki;rw[List.any_eq_true];exact⟨fun ⟨p,h,k⟩=>⟨p,h,of_decide_eq_true k⟩,fun ⟨p,h,k⟩=>⟨p,h,decide_eq_true k⟩⟩
def jji:Sp:=fun vs H Q _=>∃(b g:Addr) (sg:Int) (rs:List Addr) (ps:List Pt) (pl:Pt),vs=[.ref b,.ref g,.int sg]/\(sg=1\/sg=-1)/\H b=some (.tup (rs.map V.ref))/\Sps H rs ps/\3<=ps.length/\ps.length<=7/\(∀p∈ps,Cn p)/\Is4 H g pl/\PlG pl/\((∀p∈ps,hs sg pl p<=0)->∀H',Same H H'->Q .non H')/\((∃p∈ps,0<hs sg pl p)->Brd (jeE sg pl ps ps.length)/\∀(t:Addr) (H':Hp) (rs':List Addr),Same H H'->H' t=some (.tup (rs'.map V.ref))->Sps H' rs' (frm (jeE sg pl ps ps.length) (jeE sg pl ps ps.length))->Q (.ref t) H')
theorem jmB (T:Tx K mg t1 t2) (F:At K mg "_law_part" jbD ["corners","plane","sign"] []) (dw:jan P w K mg base CX0 1 "_law_height" ["plane","spot"] [] spHg) (dm:jan P w K mg base CX0 3 "made_spot" ["x","y","z","w"] [] jjZ) (dF:jan P w K mg base CX0 6 "made_board" ["corners"] [] jf5):jan P w K mg base CX0 7 "_law_part" ["corners","plane","sign"] [] jji:=by
 refine F.ok jdC (fun vs H Q E h=>?_) (fun f cdv A outer s H vs Q E hr h=>?_)
 ·obtain⟨_,_,_,_,_,_,rfl,_⟩:=h;rfl
 obtain⟨b,g,sg,rs,ps,pl,rfl,hsg,eb,sb,n3,n7,hc,hg,gp,qn,qb⟩:=h;have S:=jdC;refine⟨_,(jad (jat (i:=3) S.nd rfl (Or.inl rfl) (jbk jac))
  (jad (jat (i:=4) S.nd rfl (Or.inl rfl) jdD)
  (jad (jbx PassesOwn.never rfl (jaN rfl T.m_range (jaa (jaw jaH rfl T.m_len PySem.boot_len (jaa (pv 0) jac jaf)) jac jaI)) (jao (i:=5) S.nd rfl (Or.inl rfl))
  (jad (jat (i:=6) S.nd rfl (Or.inr rfl) (jaj jal (pv 0) (jap jaZ (pv 5) jab)))
  (jad (jat (i:=7) S.nd rfl (Or.inr rfl) (jaj jal (pv 0) (pv 5)))
  (jad (jat (i:=8) S.nd rfl (Or.inr rfl) (jap jar (jah dw hr.m rfl jav (jaa (pv 1) (jaa (pv 6) jac jaf) jaf)) (pv 2)))
  (jad (jat (i:=9) S.nd rfl (Or.inr rfl) (jap jar (jah dw hr.m rfl jav (jaa (pv 1) (jaa (pv 7) jac jaf) jaf)) (pv 2)))
  (jad (jaW (jau jfk (jap jar (pv 8) (pv 9)) jab (jax _))
  (jad (jbr (i:=10) rfl S.nd rfl rfl (N':=["at","other","here","one","there"]) (ix:=[7,8,6,9]) ⟨rfl,rfl,by decide +kernel,by decide +kernel,by decide +kernel,(show ∀y:Str × NameKind,y∈_->y.2=NameKind.free->(jae jbD).names.lookup y.1=some .cell\/(jae jbD).names.lookup y.1=some .free from by decide +kernel),(.cons rfl (.inl rfl) rfl (.cons rfl (.inl rfl) rfl (.cons rfl (.inl rfl) rfl (.cons rfl (.inl rfl) rfl .nil))))⟩ (jaN rfl T.m_range (jaa jab jac jam)) (fun _ _ _ _=>jao (i:=0) (show (["at","other","here","one","there"]:List Str).Nodup from by decide +kernel) rfl (Or.inl rfl)) (fun _ _ _ _=>ja0) (fun _ _ _ _=>(jap jaZ (jap jar (jaj (jaR (K:=K) rfl) (pv 1) (pv 0)) (pv 2)) (jap jar (jaj (jaR (K:=K) rfl) (pv 3) (pv 0)) (pv 4)))))
  (jai (jbY (jeL PySem.F.plainAttrs_list PySem.F.slot_list_append PySem.F.type_list_append jba (pv 3) (jaa (jah dm hr.m rfl jav (jaa (jaj ix_list (pv 10) jab) (jaa (jaj ix_list (pv 10) jab) (jaa (jaj ix_list (pv 10) jab) (jaa (jaj ix_list (pv 10) jab) jac jaq) jaq) jaq) jaq)) jac jaI)))))
  jaz)
  (jad (jaW (jau jjp (pv 9) jab (jax _))
  (jai (jbY (jeL PySem.F.plainAttrs_list PySem.F.slot_list_append PySem.F.type_list_append jba (pv 3) (jaa (pv 7) jac jaf))))
  jaz)
  (jai (jat (i:=4) S.nd rfl (Or.inl rfl) (pe_or (pv 4) (jeo (jch jfY (pv 9) jab (jax _)))))))))))))
  (jad (jaW (jcZ (jbH (pv 4)))
  (jai (jas ja6))
  jaz)
  (jai (jas (jah dF hr.m rfl jav (jaa (pv 3) jac jaf)))))))),?_⟩
 walk_at "rf";have hsm:sg.natAbs=1:=by rcases hsg with rfl | rfl<;>rfl
 have lr:=sb.len;refine⟨xaQ _,fun fl hfl=>?_⟩;refine jeh hfl fun H0 j0 e0=>?_;have kb:=SqT.of (K:=K) (j0 _ _ eb);have lrs:(rs.map V.ref).length=ps.length:=by rw[xaa];exact lr
 refine⟨_,.inr kb,by rw[lrs];omega,by rw[lrs];omega,?_⟩;rw[lrs];have fG:∀p,p∈ps->Bd 128 (hgt pl.x pl.y pl.z pl.w p):=fun p hp=>by
  obtain⟨⟨c1,c2,c3⟩,c4,_⟩:=hc p hp;obtain⟨⟨g1,g2,g3⟩,g4⟩:=gp;unfold hgt;exact Bd.mono (Bd.sub (n:=97) (Bd.mono (Bd.add (n:=96) (Bd.add (n:=95) (Bd.mono (Bd.mul g1 c1)) (Bd.mono (Bd.mul g2 c2))) (Bd.mono (Bd.mul g3 c3)))) (Bd.mono (Bd.mul g4 c4)))
 have fH:∀p,p∈ps->Bd 128 (hs sg pl p):=fun p hp=>by
  have:=fG p hp;unfold Bd hs at *
  rw[xbZ,hsm,Nat.mul_one];exact this
 have fs:Fit sg:=Bd.fit (n:=61) (by unfold Bd;omega);refine jbt (lo:=0) (n:=(((ps.length:Nat):Int)).toNat) (fun i σ H2=>Same H H2/\∃(rsF:List Addr) (o5 o6 o7 o8 o9 o10:Option V),σ=[some (.ref b),some (.ref g),some (.int sg),some (.ref fl),some (.bl (jki sg pl (ps.take i))),o5,o6,o7,o8,o9,o10]/\H2 fl=some (.lst (rsF.map V.ref))/\Sps H2 rsF (jeE sg pl ps i)) ⟨j0,[],_,_,_,_,_,_,rfl,e0,.nil⟩ ?_ ?_
 ·rintro i σ H2 hi ⟨s2,rsF,o5,o6,o7,o8,o9,o10,rfl,eF,sF⟩;have hi:i<ps.length:=by simpa using hi
  walk_at "rf";have hpr:(i+(ps.length-1)) % ps.length<ps.length:=xaC _ (by omega);have hi1:=sb.get hi;have hp1:=sb.get hpr;have mi:=ja4 hi;have mp:=ja4 hpr;have hsucc:=jjh (sg:=sg) (pl:=pl) (ps:=ps) i ⟨(hc _ mp).2.2,(hc _ mi).2.2⟩;have a1:atI (rs.map V.ref) (0+(i:Int)-1)=some (.ref (ad rs ((i+(ps.length-1)) % ps.length))):=by
   rcases Nat.eq_zero_or_pos i with rfl | ip
   ·have e:(0+(ps.length-1)) % ps.length=ps.length-1:=by rw[xbi,xae (by omega)]
    rw[e] at hp1 |-
    exact jb9 (n:=ps.length-1) (by omega) hp1.1
   ·have e:(i+(ps.length-1)) % ps.length=i-1:=by rw[show i+(ps.length-1)=i-1+ps.length by omega,xaS,xae (by omega)]
    rw[e] at hp1 |-
    rw[show (0+(i:Int)-1)=((i-1:Nat):Int) by omega];exact jaJ hp1.1
  have a2:atI (rs.map V.ref) (0+(i:Int))=some (.ref (ad rs i)):=by
   rw[xb2];exact jaJ hi1.1
  have b1:=fH _ mp;have b2:=fH _ mi;have G1:=fG _ mp;have G2:=fG _ mi;have tk:(∃p,p∈ps.take (i+1)/\0<hs sg pl p)↔(∃p,p∈ps.take i/\0<hs sg pl p)\/0<hs sg pl (pt ps i):=by
   have e:ps.take (i+1)=ps.take i++[pt ps i]:=by
    rw[xaV,xac hi];unfold pt;rw[xab,xac hi];rfl
   rw[e];constructor
   ·rintro⟨p,hp,h⟩;rcases xaO.mp hp with hp | hp
    ·exact .inl ⟨p,hp,h⟩
    ·rw[xas.mp hp] at h;exact .inr h
   ·rintro (⟨p,hp,h⟩ | h)
    ·exact⟨p,xbs _ hp,h⟩
    ·exact⟨_,xaB _ (.head _),h⟩
  have lK:∀m,(jeE sg pl ps m).length<=2*m:=fun m=>by
   unfold jeE kHi;rw[xaa];exact xaA (xbp _ _) (je1 _ _ _ _ _ m)
  have lF:=sF.len;have lKi:=lK i;have kb2:=SqT.of (K:=K) (s2 _ _ eb);have hs1:hs sg pl (pt ps ((i+(ps.length-1)) % ps.length))=hgt pl.x pl.y pl.z pl.w (pt ps ((i+(ps.length-1)) % ps.length))*sg:=rfl;have hs2:hs sg pl (pt ps i)=hgt pl.x pl.y pl.z pl.w (pt ps i)*sg:=rfl;have fin:∀(H5:Hp) (rs5:List Addr),Same H H5->H5 fl=some (.lst (rs5.map V.ref))->Sps H5 rs5 (jeE sg pl ps (i+1))->(if jki sg pl (ps.take i)=true then Same H H5/\true=jki sg pl (ps.take (i+1))/\∃x:List Addr,H5 fl=some (HO.lst (List.map V.ref x))/\Sps H5 x (jeE sg pl ps (i+1)) else Same H H5/\decide (0<hgt pl.x pl.y pl.z pl.w (pt ps i)*sg)=jki sg pl (ps.take (i+1))/\∃x:List Addr,H5 fl=some (HO.lst (List.map V.ref x))/\Sps H5 x (jeE sg pl ps (i+1))):=fun H5 rs5 s5 e5 p5=>by
   by_cases c:jki sg pl (ps.take i)=true
   ·rw[if_pos c];exact⟨s5,(anyP_iff.mpr (tk.mpr (.inl (anyP_iff.mp c)))).symm,rs5,e5,p5⟩
   ·rw[if_neg c];refine⟨s5,?_,rs5,e5,p5⟩;rw[<- hs2];refine xbC.mpr ⟨fun h=>anyP_iff.mpr (tk.mpr (.inr (of_decide_eq_true h))),fun h=>decide_eq_true ((tk.mp (anyP_iff.mp h)).resolve_left fun z=>c (anyP_iff.mpr z))⟩
  refine ixT kb2 a1 (ixT kb2 a2 ⟨g,_,pl.x,pl.y,pl.z,pl.w,_,rfl,(hg.keep s2).1,⟨(Bd.mono gp.1.1:Bd 650 _).fit,(Bd.mono gp.1.2.1:Bd 650 _).fit,(Bd.mono gp.1.2.2:Bd 650 _).fit,(Bd.mono gp.2:Bd 650 _).fit⟩,hp1.2.keep s2,_,rfl,G1.fit,fs,⟨g,_,pl.x,pl.y,pl.z,pl.w,_,rfl,(hg.keep s2).1,⟨(Bd.mono gp.1.1:Bd 650 _).fit,(Bd.mono gp.1.2.1:Bd 650 _).fit,(Bd.mono gp.1.2.2:Bd 650 _).fit,(Bd.mono gp.2:Bd 650 _).fit⟩,hi1.2.keep s2,_,rfl,G2.fit,fs,b1.fit,b2.fit,?_⟩⟩);refine jb2 (fun c1=>?_) fun c1=>?_
  ·have hY:jeE sg pl ps (i+1)=(jeE sg pl ps i++[jde (jhq sg pl (pt ps ((i+(ps.length-1)) % ps.length)) (pt ps i))])++(if 0<=hs sg pl (pt ps i) then [pt ps i] else []):=by
    rw[hsucc,if_pos (show hs sg pl (pt ps ((i+(ps.length-1)) % ps.length))*hs sg pl (pt ps i)<0 from c1)]
   have hw0:(jhq sg pl (pt ps ((i+(ps.length-1)) % ps.length)) (pt ps i)).w≠0:=by
    have:=jgN (x:=(smP sg pl).x) (y:=(smP sg pl).y) (z:=(smP sg pl).z) (v:=(smP sg pl).w) (hc _ mp).2.2 (hc _ mi).2.2 (by rw[jcP,jcP];exact sgn_mul_neg.mpr c1);have e:(jhq sg pl (pt ps ((i+(ps.length-1)) % ps.length)) (pt ps i)).w=-(jcH (smP sg pl).x (smP sg pl).y (smP sg pl).z (smP sg pl).w (pt ps ((i+(ps.length-1)) % ps.length)) (pt ps i)).w:=by
     unfold jcH jhq;simp only[jcP];grind
    omega
   obtain⟨⟨o1,o2,o3⟩,o4,_⟩:=hc _ mi;obtain⟨⟨q1,q2,q3⟩,q4,_⟩:=hc _ mp;refine⟨by decide,by decide,fun acc hacc=>jf1 (n:=4) (fun k=>.int ([(jhq sg pl (pt ps ((i+(ps.length-1)) % ps.length)) (pt ps i)).x,(jhq sg pl (pt ps ((i+(ps.length-1)) % ps.length)) (pt ps i)).y,(jhq sg pl (pt ps ((i+(ps.length-1)) % ps.length)) (pt ps i)).z,(jhq sg pl (pt ps ((i+(ps.length-1)) % ps.length)) (pt ps i)).w].getD k 0)) (by decide) hacc (fun k H3 R hk s3 hR=>?_) fun H3 s3 e3=>?_⟩
   ·walk_at "rf";have t1:=(hi1.2.keep (s2.trans s3)).sq (K:=K);have t2:=(hp1.2.keep (s2.trans s3)).sq (K:=K)
    match k,hk with
    | 0,_=>exact ixT t1 (i:=0) rfl ⟨_,rfl,o1.fit,b1.fit,ixT t2 (i:=0) rfl ⟨_,rfl,q1.fit,b2.fit,hR _ (Same.refl _)⟩⟩
    | 1,_=>exact ixT t1 (i:=1) rfl ⟨_,rfl,o2.fit,b1.fit,ixT t2 (i:=1) rfl ⟨_,rfl,q2.fit,b2.fit,hR _ (Same.refl _)⟩⟩
    | 2,_=>exact ixT t1 (i:=2) rfl ⟨_,rfl,o3.fit,b1.fit,ixT t2 (i:=2) rfl ⟨_,rfl,q3.fit,b2.fit,hR _ (Same.refl _)⟩⟩
    | 3,_=>exact ixT t1 (i:=3) rfl ⟨_,rfl,o4.fit,b1.fit,ixT t2 (i:=3) rfl ⟨_,rfl,q4.fit,b2.fit,hR _ (Same.refl _)⟩⟩
   have s23:=s2.trans s3;refine⟨.inl ⟨_,SqL.of (s3 _ _ eF)⟩,ixL (SqL.of e3) (i:=0) rfl (ixL (SqL.of e3) (i:=1) rfl (ixL (SqL.of e3) (i:=2) rfl (ixL (SqL.of e3) (i:=3) rfl ?_)))⟩;refine⟨jhq sg pl (pt ps ((i+(ps.length-1)) % ps.length)) (pt ps i),rfl,⟨Bd.mono (Bd.sub (n:=156) (Bd.mul o1 b1) (Bd.mul q1 b2)),Bd.mono (Bd.sub (n:=156) (Bd.mul o2 b1) (Bd.mul q2 b2)),Bd.mono (Bd.sub (n:=156) (Bd.mul o3 b1) (Bd.mul q3 b2)),Bd.mono (Bd.sub (n:=130) (Bd.mul o4 b1) (Bd.mul q4 b2))⟩,hw0,fun g' H3' s3' hg'=>?_⟩;have eF3:=(s3.trans s3') _ _ eF;have s24:=s23.trans s3';refine⟨fl,_,_,rfl,rfl,eF3,jaF (by rw[xaa];omega),?_⟩;have e4:upd H3' fl (.lst (rsF.map V.ref++[V.ref g'])) fl=some (.lst ((rsF++[g']).map V.ref)):=by rw[jag,xah];rfl
   have s4:=Same.keepN s24 hfl (.lst (rsF.map V.ref++[V.ref g']));have su:=SameT.upd (ys:=rsF.map V.ref++[V.ref g']) eF3;have p4:Sps (upd H3' fl (.lst (rsF.map V.ref++[V.ref g']))) (rsF++[g']) (jeE sg pl ps i++[jde (jhq sg pl (pt ps ((i+(ps.length-1)) % ps.length)) (pt ps i))]):=((sF.keep (s3.trans s3').t).keep su).app (.cons ⟨su _ _ hg'.1,hg'.2⟩ .nil);have l4:(rsF++[g']).length<=2*i+1:=by rw[xad];show rsF.length+1<=_;omega
   generalize upd H3' fl (.lst (rsF.map V.ref++[V.ref g']))=H4 at e4 s4 p4 |-
   generalize rsF++[g']=rs4 at e4 p4 l4;refine jb2 (fun c2=>?_) fun c2=>?_
   ·refine⟨.inl ⟨_,SqL.of e4⟩,fl,_,_,rfl,rfl,e4,jaF (by rw[xaa];omega),?_⟩;exact fin _ (rs4++[ad rs i]) (Same.keepN s4 hfl _) (by rw[jag,xah];try rfl) (by rw[hY,if_pos (show 0<=hs sg pl (pt ps i) from c2)];exact (p4.keep (SameT.upd e4)).app (.cons (hi1.2.keep (Same.keepN s4 hfl _)) .nil))
   ·exact fin _ rs4 s4 e4 (by rw[hY,if_neg (show ¬0<=hs sg pl (pt ps i) from c2),xbv];exact p4)
  ·have hY:jeE sg pl ps (i+1)=jeE sg pl ps i++(if 0<=hs sg pl (pt ps i) then [pt ps i] else []):=by
    rw[hsucc,if_neg (show ¬hs sg pl (pt ps ((i+(ps.length-1)) % ps.length))*hs sg pl (pt ps i)<0 from c1),xbv]
   have e4:=eF;have s4:=s2;have p4:=sF;have l4:rsF.length<=2*i+1:=by omega
   revert e4 s4 p4 l4
   generalize rsF=rs4;generalize H2=H4;intro e4 s4 p4 l4;refine jb2 (fun c2=>?_) fun c2=>?_
   ·refine⟨.inl ⟨_,SqL.of e4⟩,fl,_,_,rfl,rfl,e4,jaF (by rw[xaa];omega),?_⟩;exact fin _ (rs4++[ad rs i]) (Same.keepN s4 hfl _) (by rw[jag,xah];try rfl) (by rw[hY,if_pos (show 0<=hs sg pl (pt ps i) from c2)];exact (p4.keep (SameT.upd e4)).app (.cons (hi1.2.keep (Same.keepN s4 hfl _)) .nil))
   ·exact fin _ rs4 s4 e4 (by rw[hY,if_neg (show ¬0<=hs sg pl (pt ps i) from c2),xbv];exact p4)
 ·rintro σ H2 ⟨s2,rsF,o5,o6,o7,o8,o9,o10,rfl,eF,sF⟩;walk_at "rf";have en:(((ps.length:Nat):Int)).toNat=ps.length:=xcg _;rw[en] at sF |-
  rw[xa0];refine jb2 (fun c=>?_) fun c=>?_
  ·exact qn (fun p hp=>Int.not_lt.mp fun h=>by rw[anyP_iff.mpr ⟨p,hp,h⟩] at c;cases c) H2 s2
  ·have c:jki sg pl ps=true:=by
    cases h:jki sg pl ps with
    | true=>rfl
    | false=>exact absurd h c
   obtain⟨hB,qq⟩:=qb (anyP_iff.mp c);exact⟨fl,rsF,_,rfl,⟨eF,sF⟩,hB,fun t H' s' e'=>qq t H' _ (s2.trans s') e' (Sps.frm (sF.keep s'.t))⟩
theorem jmC (p:Pt):smP 1 p=p:=by
 unfold smP;rw[xbQ,xbQ,xbQ,xbQ]
theorem jmD (p:Pt):smP (-1) p=⟨-p.x,-p.y,-p.z,-p.w⟩:=by
 unfold smP;simp only[xbN,xbQ]
theorem jou {pl:Pt} (hw:1<=Z.w) (nz:Z.u.nz) (R:Rng ws) (l7:ws.length<=7):((∃p∈rgs Z ws,0<hs sg pl p)↔UP (hf (jdf Z (smP sg pl))) ws≠[])/\((∃p∈rgs Z ws,0<hs sg pl p)->Brd (jeE sg pl (rgs Z ws) (rgs Z ws).length)/\frm (jeE sg pl (rgs Z ws) (rgs Z ws).length) (jeE sg pl (rgs Z ws) (rgs Z ws).length)=rgs Z (UP (hf (jdf Z (smP sg pl))) ws)):=by
 have r:RR (ws.map (spt Z)) (rgs Z ws):=jeC _ _;have ex:(∃p∈rgs Z ws,0<hs sg pl p)↔∃u∈ws,0<hf (jdf Z (smP sg pl)) u:=by
  constructor
  ·rintro⟨p,hp,h⟩;obtain⟨u,hu,rfl⟩:=xaz.mp (r.mem.mp hp);rw[<- jcP] at h;exact⟨u,hu,(jcC hw (R.hz u hu)).1.mp h⟩
  ·rintro⟨u,hu,h⟩;refine⟨spt Z u,r.mem.mpr (xbR hu),?_⟩;rw[<- jcP];exact (jcC hw (R.hz u hu)).1.mpr h
 refine⟨ex.trans ⟨fun h z=>?_,fun h=>jgd h⟩,fun h=>?_⟩
 ·have:=(jcD R h).1.n3;rw[z] at this;exact absurd this (by decide)
 ·have up:=ex.mp h;have F1:=(jcD R up).1;have l8:=jfQ (l:=jdf Z (smP sg pl)) R;have k:=jeb (x:=(smP sg pl).x) (y:=(smP sg pl).y) (z:=(smP sg pl).z) (v:=(smP sg pl).w) (X:=bt (hL Z (smP sg pl).x (smP sg pl).y (smP sg pl).z (smP sg pl).w)) hw R.hz (fun a b ha hb o=>jfM (R.hz a ha) (R.hz b hb) o) r;have e:UP (hf (jdf Z (smP sg pl))) ws=upL (hL Z (smP sg pl).x (smP sg pl).y (smP sg pl).z (smP sg pl).w) (bt (hL Z (smP sg pl).x (smP sg pl).y (smP sg pl).z (smP sg pl).w)) ws:=jbL up;rw[<- e] at k;exact⟨jot hw nz F1 (by omega) k,jfa F1 (by omega) hw nz k⟩
def jmE:Sp:=fun vs H Q _=>∃(v:V) (k:Int) (g:Addr),vs=[v,.int k,.ref g]/\((v=.non/\∀H',Same H H'->Q .non H')\/∃b,v=.ref b/\∀(p1 p2 p3:Addr) (H':Hp),Same H H'->H' p1=some (.tup [.int k,.ref b])->H' p2=some (.tup [.ref p1])->H' p3=some (.tup [.ref g,.ref p2,.non,.non])->Q (.ref p3) H')
theorem jov (T:Tx K mg t1 t2) (F:At K mg "_law_beneath" jbT ["part","number","plane"] []):jan P w K mg base CX0 1 "_law_beneath" ["part","number","plane"] [] jmE:=by
 refine F.ok jcw (fun vs H Q E h=>?_) (fun f cdv A outer s H vs Q E hr h=>?_)
 ·obtain⟨_,_,_,rfl,_⟩:=h;rfl
 obtain⟨v,k,g,rfl,h⟩:=h;have S:=jcw;refine⟨_,(jad (jaW (jau jeq (pv 0) ja6 (jax _))
  (jai (jas ja6))
  jaz)
  (jai (jas (jaG (jaa (pv 2) (jaa (jaG (jaa (jaG (jaa (pv 1) (jaa (pv 0) jac jaf) jaf)) jac jaE)) (jaa ja6 (jaa ja6 jac jam) jam) jaE) jaf))))),?_⟩
 walk_at "rf";rcases h with ⟨rfl,q⟩ | ⟨b,rfl,q⟩
 ·rw[if_pos rfl];exact q H (Same.refl _)
 ·rw[if_neg (fun z=>nomatch z)];refine⟨by decide,fun p1 h1=>⟨by decide,fun p2 h2=>⟨by decide,fun p3 h3=>?_⟩⟩⟩;have j1:=Same.new h1 (.tup [.int k,.ref b]);have j2:=Same.new h2 (.tup [.ref p1]);have j3:=Same.new h3 (.tup [.ref g,.ref p2,.non,.non]);exact q p1 p2 p3 _ (j1.trans (j2.trans j3)) (j3 _ _ (j2 _ _ jag)) (j3 _ _ jag) jag
def jow:Sp:=fun vs H Q _=>∃(r1 r2:Addr) (x y:Dsc),vs=[.ref r1,.ref r2]/\PcAt H r1 (dPc x)/\PcAt H r2 (dPc y)/\DOk x/\DOk y/\∀(t:Addr) (H':Hp),Same H H'->TrAt H' (.ref t) (grs [x,y])->Q (.ref t) H'
theorem jox (T:Tx K mg t1 t2) (F:At K mg "_law_due" jbX ["one","other"] []) (dN:jan P w K mg base CX0 2 "_law_plane" ["corners"] [] joi) (dw:jan P w K mg base CX0 1 "_law_height" ["plane","spot"] [] spHg) (dO:jan P w K mg base CX0 7 "_law_part" ["corners","plane","sign"] [] jji) (dL:jan P w K mg base CX0 1 "_law_beneath" ["part","number","plane"] [] jmE):jan P w K mg base CX0 8 "_law_due" ["one","other"] [] jow:=by
 refine F.ok jd8 (fun vs H Q E h=>?_) (fun f cdv A outer s H vs Q E hr h=>?_)
 ·obtain⟨_,_,_,_,rfl,_⟩:=h;rfl
 obtain⟨r1,r2,x,y,rfl,⟨b1,e1,t1',c1,d1⟩,⟨b2,e2,t2',c2,d2⟩,hx,hy,q⟩:=h;have S:=jd8;refine⟨_,(jad (jat (i:=2) S.nd rfl (Or.inr rfl) (jah dN hr.m rfl jav (jaa (jaj jal (pv 0) jab) jac jaq)))
  (jad (jaW (jbH (jaw (jbs rfl) rfl T.m_all boot_all (jaa (ja1 rfl (N':=["corner","plane"]) (ix:=[2]) ⟨rfl,rfl,by decide +kernel,by decide +kernel,by decide +kernel,(show ∀y:Str × NameKind,y∈_->y.2=NameKind.free->(jae jbX).names.lookup y.1=some .cell\/(jae jbX).names.lookup y.1=some .free from by decide +kernel),(.cons rfl (.inl rfl) rfl .nil)⟩ (jc1 (jaj jal (pv 1) jab)) (fun _ _ _ _=>jao (i:=0) (show (["corner","plane"]:List Str).Nodup from by decide +kernel) rfl (Or.inl rfl)) (fun _ _ _ _=>ja0) (fun _ _ _ _=>(jch jdO (jah dw hr.m rfl jav (jaa (pv 1) (jaa (pv 0) jac jaf) jaf)) jab (jax _)))) jac jcd)))
  (jai (jas (jaG (jaa (pv 2) (jaa (jaG (jaa (pv 0) (jaa (pv 1) jac jaf) jaf)) (jaa ja6 (jaa ja6 jac jam) jam) jaE) jaf))))
  jaz)
  (jad (jat (i:=3) S.nd rfl (Or.inl rfl) (jah dN hr.m rfl jav (jaa (jaj jal (pv 1) jab) jac jaq)))
  (jai (jas (jaG (jaa (pv 2) (jaa (jaG (jaa (pv 0) jac jaf)) (jaa (jah dL hr.m rfl jav (jaa (jah dO hr.m rfl jav (jaa (jaj jal (pv 1) jab) (jaa (pv 2) (jaa (jdE jcb jab) jac jhe) jaf) jaq)) (jaa (jaj jal (pv 1) jab) (jaa (pv 3) jac jaf) jaq) jaI)) (jaa (jah dL hr.m rfl jav (jaa (jah dO hr.m rfl jav (jaa (jaj jal (pv 1) jab) (jaa (pv 2) (jaa jab jac jam) jaf) jaq)) (jaa (jaj jal (pv 1) jab) (jaa (pv 3) jac jaf) jaq) jaI)) jac jaI) jaI) jaE) jaf))))))),?_⟩
 walk_at "rf";have n3:=hy.n3;have l6:=hy.l6;have lr:(rgs y.2.1 y.2.2).length=y.2.2.length:=by
  have:=(DOk.rr y).len
  rwa [xaa] at this
 obtain⟨ex,gx⟩:=hx.pl;obtain⟨ey,gy⟩:=hy.pl;change Sps H t2' (rgs y.2.1 y.2.2) at d2;refine ixT (SqT.of e1) (i:=1) rfl ⟨b1,t1',rgs x.2.1 x.2.2,rfl,.inr c1,d1,hx.n3,fun p hp=>jok (hx.c p hp),hx.na,fun g H1 a b c d s1 eg lp eq=>?_⟩;obtain⟨z1,z2,z3,z4⟩:a=(plP (rgs x.2.1 x.2.2)).x/\b=(plP (rgs x.2.1 x.2.2)).y/\c=(plP (rgs x.2.1 x.2.2)).z/\d=(plP (rgs x.2.1 x.2.2)).w:=by
  have:=eq.trans ex;simpa using this
 subst z1 z2 z3 z4;have hg:Is4 H1 g (plP (rgs x.2.1 x.2.2)):=⟨eg,gx.sm⟩;have pcx:PcAt H1 r1 (dPc x):=PcAt.keep ⟨b1,e1,t1',c1,d1⟩ s1.t;clear lp eq eg ex;generalize hpx:plP (rgs x.2.1 x.2.2)=px at hg gx;have e0:grs [x,y]=grT (.nd px [dPc x] .nil .nil) y:=by rw[<- hpx];rfl
 refine ixT (SqT.of (s1 _ _ e2)) (i:=1) rfl ⟨b2,rfl,⟨_,SqT.of (s1 _ _ c2)⟩,fun acc hacc=>?_⟩;have lt2:=d2.len;refine jkv (zs:=t2'.map V.ref) (fun i v _=>∀p,(rgs y.2.1 y.2.2)[i]?=some p->v=.bl (decide (hgt px.x px.y px.z px.w p=0))) (fun _ _ _ _ h _=>h) (by rw[xaa];omega) hacc (SqT.of (s1 _ _ c2)) (fun i z H9 R hz s9 hR=>?_) fun ys H2 s2 e9 l9 p9=>?_
 ·have hi:i<(rgs y.2.1 y.2.2).length:=by
   have:=(xaf.mp hz).1;rw[xaa] at this;omega
  obtain⟨k1,k2⟩:=d2.get hi;rw[k1] at hz;cases hz;walk_at "rf";refine⟨g,_,px.x,px.y,px.z,px.w,_,rfl,(hg.keep s9).1,⟨(Bd.mono gx.1.1:Bd 650 _).fit,(Bd.mono gx.1.2.1:Bd 650 _).fit,(Bd.mono gx.1.2.2:Bd 650 _).fit,(Bd.mono gx.2:Bd 650 _).fit⟩,k2.keep (s1.trans s9),?_⟩;refine⟨rfl,hR _ _ (Same.refl _) fun p hp=>?_⟩;have ep:pt (rgs y.2.1 y.2.2) i=p:=by
   unfold pt;rw[xab,hp];rfl
  rw[ep];exact congrArg V.bl (decide_eq_decide.mpr ⟨fun h=>by injection h,fun h=>by rw[h]⟩)
 have s12:=s1.trans s2;have l9':ys.length=(rgs y.2.1 y.2.2).length:=by rw[l9,xaa,lt2]
 have ey':ys=((rgs y.2.1 y.2.2).map fun p=>decide (hgt px.x px.y px.z px.w p=0)).map V.bl:=by
  apply xbW;intro i;rw[xal,xal];by_cases c:i<ys.length
  ·rw[xac c,xac (show i<(rgs y.2.1 y.2.2).length by omega)];exact congrArg some (p9 i _ (xac c) _ (xac (show i<(rgs y.2.1 y.2.2).length by omega)))
  ·rw[xaT (by omega),xaT (by omega)];rfl
 rw[ey'] at e9;refine⟨_,SqL.of e9,?_⟩;have allz:((rgs y.2.1 y.2.2).map fun p=>decide (hgt px.x px.y px.z px.w p=0)).all id=true↔∀p∈rgs y.2.1 y.2.2,hgt px.x px.y px.z px.w p=0:=by
  rw[List.all_map,xbf];exact⟨fun h p hp=>of_decide_eq_true (h p hp),fun h p hp=>decide_eq_true (h p hp)⟩
 have cut:=fun sg:Int=>jou (Z:=y.2.1) (ws:=y.2.2) (pl:=px) (sg:=sg) hy.z.hw hy.z.nz hy.f.rg (by omega);have e1u:UP (hf (jdf y.2.1 (smP 1 px))) y.2.2=upX y.2.1 px y.2.2:=by rw[jmC];rfl
 have e1d:UP (hf (jdf y.2.1 (smP (-1) px))) y.2.2=dnX y.2.1 px y.2.2:=by rw[jmD];rfl
 have both:(∀p∈rgs y.2.1 y.2.2,hgt px.x px.y px.z px.w p=0)↔dnX y.2.1 px y.2.2=[]/\upX y.2.1 px y.2.2=[]:=by
  rw[<- e1u,<- e1d];have c1:=(cut 1).1;have c2:=(cut (-1)).1;constructor
  ·intro h;refine⟨xai fun z=>?_,xai fun z=>?_⟩
   ·obtain⟨p,hp,k⟩:=c2.mpr z;unfold hs at k;rw[h p hp] at k;exact absurd k (by decide)
   ·obtain⟨p,hp,k⟩:=c1.mpr z;unfold hs at k;rw[h p hp] at k;exact absurd k (by decide)
  ·rintro⟨z1,z2⟩ p hp;have k1:¬0<hs 1 px p:=fun h=>c1.mp ⟨p,hp,h⟩ z2;have k2:¬0<hs (-1) px p:=fun h=>c2.mp ⟨p,hp,h⟩ z1;unfold hs at k1 k2;omega
 have pcx2:=pcx.keep s2.t;have pcy2:PcAt H2 r2 (dPc y):=PcAt.keep ⟨b2,e2,t2',c2,d2⟩ s12.t;have hg2:=hg.keep s2;have er2:=s12 _ _ e2;have ec2:=s12 _ _ c2;have ed2:=d2.keep s12.t;refine jb2 (fun c=>?_) fun c=>?_
 ·have bo:=both.mp (allz.mp c);refine⟨by decide,fun p hp=>⟨by decide,fun p1 hp1=>?_⟩⟩;have j1:=Same.new hp (.tup [.ref r1,.ref r2]);have j2:=Same.new hp1 (.tup [.ref g,.ref p,.non,.non]);have jj:=j1.trans j2;refine q p1 _ (s12.trans jj) ?_;rw[e0];unfold grT;rw[jgY bo];exact .nd (rs:=[r1,r2]) jag (hg2.keep jj) (j2 _ _ jag) (.cons (pcx2.keep jj.t) (.cons (pcy2.keep jj.t) .nil)) .nil .nil
 ·have bo:¬(dnX y.2.1 px y.2.2=[]/\upX y.2.1 px y.2.2=[]):=fun z=>c (allz.mpr (both.mpr z));refine ixT (SqT.of er2) (i:=1) rfl ⟨b2,t2',rgs y.2.1 y.2.2,rfl,.inr ec2,ed2,hy.n3,fun p hp=>jok (hy.c p hp),hy.na,fun g2 H3 a b c' d s3 eg2 lp eq=>?_⟩;obtain⟨z1,z2,z3,z4⟩:a=(plP (rgs y.2.1 y.2.2)).x/\b=(plP (rgs y.2.1 y.2.2)).y/\c'=(plP (rgs y.2.1 y.2.2)).z/\d=(plP (rgs y.2.1 y.2.2)).w:=by
   have:=eq.trans ey;simpa using this
  subst z1 z2 z3 z4;refine⟨by decide,fun p hp=>?_⟩;have j3:=Same.new hp (.tup [.ref r1]);have s34:=s3.trans j3;have hgy:Is4 (upd H3 p (.tup [.ref r1])) g2 (plP (rgs y.2.1 y.2.2)):=Is4.keep ⟨eg2,gy.sm⟩ j3;have hg4:=hg2.keep s34;have er4:=s34 _ _ er2;have ec4:=s34 _ _ ec2;have ed4:=ed2.keep s34.t;have pcx4:=pcx2.keep s34.t;have ep4:upd H3 p (.tup [.ref r1]) p=some (.tup [.ref r1]):=jag;have s04:=s12.trans s34;generalize upd H3 p (.tup [.ref r1])=H4 at hgy hg4 er4 ec4 ed4 pcx4 ep4 s04 |-
  have side:∀(sg:Int) (J:Hp) (R':VK),(sg=1\/sg=-1)->Same H4 J->(∀(w:V) (J':Hp),Same J J'->TrAt J' w (if UP (hf (jdf y.2.1 (smP sg px))) y.2.2=[] then .nil else .nd (plP (rgs y.2.1 y.2.2)) [(y.1,rgs y.2.1 (UP (hf (jdf y.2.1 (smP sg px))) y.2.2))] .nil .nil)->R' w J')->jji [.ref b2,.ref g,.int sg] J (fun x_6 H1=>jek K (V.ref r2) (V.int 0) H1 fun x_7 H1=>jmE [x_6,x_7,.ref g2] H1 R' E0) E0:=fun sg J R' hsg sJ k=>by
   have cs:=cut sg;refine⟨b2,g,sg,t2',rgs y.2.1 y.2.2,px,rfl,hsg,sJ _ _ ec4,ed4.keep sJ.t,n3,by omega,hy.c,hg4.keep sJ,gx,fun z J1 s1=>?_,fun z=>?_⟩
   ·have e:UP (hf (jdf y.2.1 (smP sg px))) y.2.2=[]:=xai fun n=>by
     obtain⟨p,hp,h⟩:=cs.1.mpr n;have:=z p hp;omega
    refine ixT (SqT.of ((sJ.trans s1) _ _ er4)) (i:=0) rfl ⟨.non,y.1,g2,rfl,.inl ⟨rfl,fun J2 s2=>k _ _ (s1.trans s2) ?_⟩⟩;rw[if_pos e];exact .nil
   ·obtain⟨hB,hfm⟩:=cs.2 z;refine⟨hB,fun t J1 rs' s1 et ps'=>?_⟩;rw[hfm] at ps';refine ixT (SqT.of ((sJ.trans s1) _ _ er4)) (i:=0) rfl ⟨.ref t,y.1,g2,rfl,.inr ⟨t,rfl,fun p1 p2 p3 J2 s2 h1 h2 h3=>k _ _ (s1.trans s2) ?_⟩⟩;rw[if_neg (cs.1.mp z)];exact .nd (rs:=[p1]) h3 (hgy.keep (sJ.trans (s1.trans s2))) h2 (.cons ⟨t,h1,rs',s2 _ _ et,ps'.keep s2.t⟩ .nil) .nil .nil
  refine ixT (SqT.of er4) (i:=1) rfl (side (-1) H4 _ (.inr rfl) (Same.refl _) fun w0 H5 s5 t0=>?_);refine ixT (SqT.of (s5 _ _ er4)) (i:=1) rfl (side 1 H5 _ (.inl rfl) s5 fun w1 H6 s6 t1=>⟨by decide,fun p1 hp1=>?_⟩);have j:=Same.new hp1 (.tup [.ref g,.ref p,w0,w1]);have s46:=s5.trans (s6.trans j);refine q p1 _ (s04.trans s46) ?_;rw[e0];unfold grT;rw[jgZ bo];rw[e1d] at t0;rw[e1u] at t1;exact .nd (rs:=[r1]) jag (hg4.keep s46) (s46 _ _ ep4) (.cons (pcx4.keep s46.t) .nil) (t0.keep (s6.trans j).t) (t1.keep j.t)
variable {Q:VK}
theorem jlf {n:Bool} {u v:V} {T:Tr} (hu:TrAt H u T) (hv:TrAt H v T) (l:T.ht<=50) (q:Q (.bl (!n)) H):jks K n u v H Q:=by
 obtain⟨a,b⟩:=jgf T;have sh:SeqAt.shaped (trD T)=true:=by
  unfold SeqAt.shaped;rw[a,decide_eq_true (by omega)];rfl
 refine⟨_,_,hu.rds,hv.rds,sh,sh,?_⟩;rw[SeqAt.eqv_refl _ (SeqAt.canLay_of_shaped sh)];cases n
 ·exact q
 ·exact q
theorem jmF {n:Bool} {l m:Addr} {rs rs':List Addr} {xs:List (Int × List Pt)} (e1:H l=some (.lst (rs.map V.ref))) (a1:All2 (PcAt H) rs xs) (e2:H m=some (.lst (rs'.map V.ref))) (a2:All2 (PcAt H) rs' xs) (q:Q (.bl (!n)) H):jks K n (.ref l) (.ref m) H Q:=by
 obtain⟨a,b⟩:=ji8 xs;have sh:SeqAt.shaped (.list (xs.map pcD))=true:=by
  unfold SeqAt.shaped;simp [PyData.canLay0,PyData.depth,a];omega
 refine⟨_,_,.lst (SqL.of e1) (jge a1),.lst (SqL.of e2) (jge a2),sh,sh,?_⟩;rw[SeqAt.eqv_refl _ (SeqAt.canLay_of_shaped sh)];cases n
 ·exact q
 ·exact q
theorem jjj {α:Type}:∀{l:List α},l.length=2->∃a b,l=[a,b]
 | [a,b],_=>⟨a,b,rfl⟩
structure B40 (H:Hp) (S r1 r2:Addr) (x y:Dsc):Prop where
 eS:H S=some (.lst [.ref r1,.ref r2])
 p1:PcAt H r1 (dPc x)
 p2:PcAt H r2 (dPc y)
 kx:DOk x
 ky:DOk y
 nd:x.1≠y.1
theorem B40.keep {S r1 r2:Addr} {x y:Dsc} (h:B40 H S r1 r2 x y) (s:Same H H'):B40 H' S r1 r2 x y:=⟨s _ _ h.eS,h.p1.keep s.t,h.p2.keep s.t,h.kx,h.ky,h.nd⟩
def lQ1 (H:Hp) (a:Addr):L2.St->Hp->Prop:=fun σ H'=>∃(S R r1 r2:Addr) (x y:Dsc) (o5:Option V),σ=[some (.ref a),some (.ref S),some (.ref R),some (.ref r1),some (.ref r2),o5,none,none,none]/\Same H H'/\B40 H' S r1 r2 x y
theorem joy {e:Addr} {ed:FuncData} (T:Tx K mg t1 t2) (F:FunD K "law" "law" jeV e ed .none) (dZ:jan P w K mg base CX0 2 "_law_folded" ["script","many"] [] (jk3 K)) (Dg:jan P w K mg base CX0 7 "_law_some" ["cells"] [] (jla K)) (dR:jan P w K mg base CX0 18 "tree_of" ["some","row"] [] joq) (dQ:jan P w K mg base CX0 18 "tree_of" ["some","row"] [.non] joq) (dg:jan P w K mg base CX0 17 "grown_by" ["tree","piece"] [] jjd) (dk:jan P w K mg base CX0 16 "_law_is_tree" ["found"] [] (jom 9)) (dP:jan P w K mg base CX0 8 "_law_due" ["one","other"] [] jow):FnOk P w K mg base CX0 19 e ed ["script"] (jjJ K):=by
 refine F.ok jkD (fun vs H Q E h=>?_) (fun cdv A outer s H vs Q E hr h=>?_)
 ·obtain⟨a,ns,rfl,_⟩:=h;rfl
 obtain⟨a,ns,rfl,ha,hn,q⟩:=h;have S:=jkD;refine⟨_,(jad (jc0 (jah Dg hr.m rfl jav (jaa (jah dZ hr.m rfl jav (jaa (pv 0) (jaa jab jac jam) jaf)) jac jaI)) (jep rfl (jaC (jao (i:=1) S.nd rfl (Or.inl rfl)) (jaC (jao (i:=2) S.nd rfl (Or.inl rfl)) jbZ))))
  (ja8 (lQ1 H a) (jc0 (pv 1) (jkz rfl (jaC (jao (i:=3) S.nd rfl (Or.inl rfl)) (jaC (jao (i:=4) S.nd rfl (Or.inl rfl)) jbZ))))
  (ja8 (lQ1 H a) (jbx PassesOwn.never rfl (jbN (jbk (jaa (jah dQ hr.m rfl jav (jaa (jaS jbJ rfl T.m_list boot_list (jaa (pv 1) jac jaf)) jac jaI)) (jaa (jah dR hr.m rfl jav (jaa (jbk (jaa (pv 4) (jaa (pv 3) jac jaf) jaf)) (jaa (jbk (jaa (jaj jal (pv 3) jab) (jaa (jaj jal (pv 4) jab) jac jaq) jaq)) jac jc4) jc4)) (jaa (jah dg hr.m rfl jav (jaa (jah dQ hr.m rfl jav (jaa (jbk (jaa (pv 3) jac jaf)) jac jc4)) (jaa (pv 4) jac jaf) jaI)) jac jaI) jaI) jaI))) (jao (i:=5) S.nd rfl (Or.inl rfl))
  (jai (jaW (PW.pt (jfW (jcZ (jbH (jah dk hr.m rfl jav (jaa (pv 5) jac jaf)))) (jfh (jau (jgo (jju hr)) (pv 5) (jah dP hr.m rfl jav (jaa (pv 3) (jaa (pv 4) jac jaf) jaf)) (jax _)))))
  (jai (jas jdD))
  jaz)))
  (jad (jat (i:=6) S.nd rfl (Or.inl rfl) (jaS jbJ rfl T.m_list boot_list (jaa (pv 1) jac jaf)))
  (jad (jat (i:=7) S.nd rfl (Or.inl rfl) (jbk (jaa (jaj jal (pv 4) jab) (jaa (jaj jal (pv 3) jab) jac jaq) jaq)))
  (jad (jat (i:=8) S.nd rfl (Or.inl rfl) (jah dR hr.m rfl jav (jaa (pv 6) (jaa (pv 7) jac jaf) jaf)))
  (jai (jas (jdu (jah dk hr.m rfl jav (jaa (pv 8) jac jaf)) (jdu (jch (jfu (jju hr)) (pv 8) (jah dP hr.m rfl jav (jaa (pv 4) (jaa (pv 3) jac jaf) jaf)) (jax _)) (jdu (jch (jfu (jju hr)) (pv 6) (pv 1) (jax _)) (jeo (jch (jfu (jju hr)) (pv 7) (jbk (jaa (jaj jal (pv 4) jab) (jaa (jaj jal (pv 3) jab) jac jaq) jaq)) (jax _)))))))))))))),?_⟩
 walk_at "rf";refine⟨a,ns,2,rfl,ha,hn,by decide,by decide,fun l H1 cs n1 s1 e1 l2=>⟨l,cs,rfl,SqL.of e1,by omega,fun t S R H2 xs s2 nS nR et hS hR=>⟨t,rfl,_,SqT.of et,rfl,_,_,rfl,_,_,rfl,rfl,?_⟩⟩⟩;refine⟨?_,?_⟩
 ·obtain⟨rs,eS,aS,ob,lx,nd⟩:=hS;rw[l2] at lx;obtain⟨ds,rfl,okd⟩:=jjc xs ob;rw[xaa] at lx;obtain⟨x,y,rfl⟩:=jjj lx;have lr:=aS.len;obtain⟨r1,r2,rfl⟩:=jjj (show rs.length=2 from lr);have h1:PcAt H2 r1 (dPc x):=by
   obtain⟨z,hz,p⟩:=aS.getA (show [r1,r2][0]?=some r1 from rfl);cases hz;exact p
  have h2:PcAt H2 r2 (dPc y):=by
   obtain⟨z,hz,p⟩:=aS.getA (show [r1,r2][1]?=some r2 from rfl);cases hz;exact p
  have nxy:x.1≠y.1:=by
   have z:[x.1,y.1].Nodup:=nd;rw[xaJ] at z;exact fun h=>z.1 (by rw[h];exact .head _)
  simp only[L2.gLst];exact⟨S,_,rfl,SqL.of eS,rfl,_,_,rfl,_,_,rfl,rfl,S,R,r1,r2,x,y,none,rfl,s1.trans s2,eS,h1,h2,okd x (.head _),okd y (.tail _ (.head _)),nxy⟩
 clear hS hR et nR nS s2 n1 s1 e1 l2;rintro σ1 H1 ⟨S0,R0,r1,r2,x,y,o5,rfl,s1,B⟩;walk_at "rf";obtain⟨b1,e1,bo1⟩:=id B.p1;obtain⟨b2,e2,bo2⟩:=id B.p2;have k2:∀z∈[x,y],DOk z:=fun z hz=>by
  rcases xav.mp hz with rfl | hz
  ·exact B.kx
  ·rw[xas.mp hz];exact B.ky
 have k2':∀z∈[y,x],DOk z:=fun z hz=>k2 z (by simpa [or_comm] using hz);have n2:(([x,y]:List Dsc).map (·.1)).Nodup:=xaJ.mpr ⟨fun h=>B.nd (xas.mp h),xaJ.mpr ⟨(fun h=>nomatch h),xbK⟩⟩;have n2':(([y,x]:List Dsc).map (·.1)).Nodup:=xaJ.mpr ⟨fun h=>B.nd (xas.mp h).symm,xaJ.mpr ⟨(fun h=>nomatch h),xbK⟩⟩;obtain⟨g2,t2ht⟩:=jeg 2 [x,y] rfl k2 (by decide);obtain⟨g2',t2ht'⟩:=jeg 2 [y,x] rfl k2' (by decide);obtain⟨g1,t1ht⟩:=jeg 1 [x] rfl (fun z hz=>by rw[xas.mp hz];exact B.kx) (by decide);refine⟨⟨_,.inl (SqL.of B.eS),fun l hl=>?_⟩,?_⟩
 ·refine jeh hl fun J1 j1 el=>?_;refine⟨l,.non,[r1,r2],[x,y],[x,y],rfl,el,.cons (B.p1.keep j1.t) (.cons (B.p2.keep j1.t) .nil),k2,n2,by show 2<=8;decide,fun _ h=>h,.inl ⟨rfl,rfl⟩,fun v1 H2 s2 t1=>⟨by decide,fun p hp=>?_⟩⟩;have j2:=Same.new hp (.lst [.ref r2,.ref r1]);have ep:upd H2 p (.lst [.ref r2,.ref r1]) p=some (.lst [.ref r2,.ref r1]):=jag;have s12:=j1.trans (s2.trans j2);have t1:=t1.keep j2.t;generalize upd H2 p (.lst [.ref r2,.ref r1])=H3 at ep s12 t1 |-
  refine ixT (SqT.of (s12 _ _ e1)) (i:=0) rfl (ixT (SqT.of (s12 _ _ e2)) (i:=0) rfl ⟨by decide,fun p1 hp1=>?_⟩);have j3:=Same.new hp1 (.lst [.int (dPc x).1,.int (dPc y).1]);have s13:=s12.trans j3;refine⟨p,.ref p1,[r2,r1],[y,x],[x,y],rfl,j3 _ _ ep,.cons (B.p2.keep s13.t) (.cons (B.p1.keep s13.t) .nil),k2',n2',by show 2<=8;decide,fun z hz=>by simpa [or_comm] using hz,.inr ⟨p1,rfl,jag⟩,fun v2 H4 s4 t2=>⟨by decide,fun p2 hp2=>?_⟩⟩;have j4:=Same.new hp2 (.lst [.ref r1]);have s14:=s13.trans (s4.trans j4);refine⟨p2,.non,[r1],[x],[x],rfl,jag,.cons (B.p1.keep s14.t) .nil,fun z hz=>by rw[xas.mp hz];exact B.kx,xaJ.mpr ⟨(fun h=>nomatch h),xbK⟩,by show 1<=8;decide,fun _ h=>h,.inl ⟨rfl,rfl⟩,fun v3 H5 s5 t3=>?_⟩;have s15:=s14.trans s5;refine⟨v3,r2,grs [x],1,y,rfl,t3,by omega,g1,by decide,B.p2.keep s15.t,B.ky,fun t4 H6 s6 t4'=>⟨by decide,fun l2 hl2=>?_⟩⟩;have j6:=Same.new hl2 (.lst [v1,v2,.ref t4]);have el2:upd H6 l2 (.lst [v1,v2,.ref t4]) l2=some (.lst [v1,v2,.ref t4]):=jag;have sA:=s15.trans (s6.trans j6);have all:∀z∈[v1,v2,V.ref t4],TrAt (upd H6 l2 (.lst [v1,v2,.ref t4])) z (grs [x,y]):=fun z hz=>by
   simp only[xav,xbM,or_false] at hz;rcases hz with rfl | rfl | rfl
   ·exact t1.keep (j3.trans (s4.trans (j4.trans (s5.trans (s6.trans j6))))).t
   ·exact t2.keep (j4.trans (s5.trans (s6.trans j6))).t
   ·exact t4'.keep j6.t
  generalize upd H6 l2 (.lst [v1,v2,.ref t4])=H7 at el2 sA all |-
  have B:=B.keep sA;refine⟨⟨_,SqL.of el2⟩,jb0 (K:=K) (a:=l2) (xs:=[v1,v2,.ref t4]) (fun i σ Hh=>∃o5:Option V,σ=[some (.ref a),some (.ref S0),some (.ref R0),some (.ref r1),some (.ref r2),o5,none,none,none]/\Same H7 Hh) ⟨_,rfl,Same.refl _⟩ (fun i σ Hh _ ⟨_,_,sx⟩=>sx.seq (SqL.of el2)) ?_ ?_⟩
  ·rintro i z σ Hh hi ⟨o5,rfl,sx⟩;have tx:=(all z (xaD hi)).keep sx.t;walk_at "rf";refine⟨z,grs [x,y],2,rfl,tx,by omega,g2,by decide,fun H' s'=>⟨true,rfl,?_⟩⟩;rw[if_neg (by decide)];have B:=B.keep (sx.trans s');refine⟨r1,r2,x,y,rfl,B.p1,B.p2,B.kx,B.ky,fun t Hd sd td=>jlf (n:=true) ((tx.keep s'.t).keep sd.t) td (by omega) ⟨_,rfl,?_⟩⟩;rw[if_neg (by decide)];exact sx.trans (s'.trans sd)
  ·rintro σ Hh ⟨o5,rfl,sx⟩;exact⟨S0,R0,r1,r2,x,y,o5,rfl,s1.trans (sA.trans sx),B.keep sx⟩
 clear g1 g2 g2' t1ht t2ht t2ht' n2 n2' k2 k2' e1 e2 bo1 bo2 B s1;rintro σ2 H2 ⟨S0,R0,r1,r2,x,y,o5,rfl,s2,B⟩;walk_at "rf";obtain⟨b1,e1,bo1⟩:=id B.p1;obtain⟨b2,e2,bo2⟩:=id B.p2;have k2:∀z∈[x,y],DOk z:=fun z hz=>by
  rcases xav.mp hz with rfl | hz
  ·exact B.kx
  ·rw[xas.mp hz];exact B.ky
 have k2':∀z∈[y,x],DOk z:=fun z hz=>k2 z (by simpa [or_comm] using hz);have n2:(([x,y]:List Dsc).map (·.1)).Nodup:=xaJ.mpr ⟨fun h=>B.nd (xas.mp h),xaJ.mpr ⟨(fun h=>nomatch h),xbK⟩⟩;obtain⟨g2',t2ht'⟩:=jeg 2 [y,x] rfl k2' (by decide);refine⟨_,.inl (SqL.of B.eS),fun l hl=>?_⟩;refine jeh hl fun H3 j1 el=>?_;refine ixT (SqT.of (j1 _ _ e2)) (i:=0) rfl (ixT (SqT.of (j1 _ _ e1)) (i:=0) rfl ⟨by decide,fun p hp=>?_⟩);have j2:=Same.new hp (.lst [.int (dPc y).1,.int (dPc x).1]);have ep:upd H3 p (.lst [.int (dPc y).1,.int (dPc x).1]) p=some (.lst [.int (dPc y).1,.int (dPc x).1]):=jag;have el4:=j2 _ _ el;have s24:=j1.trans j2;generalize upd H3 p (.lst [.int (dPc y).1,.int (dPc x).1])=H4 at ep el4 s24 |-
 have B4:=B.keep s24;refine⟨l,.ref p,[r1,r2],[x,y],[y,x],rfl,el4,.cons B4.p1 (.cons B4.p2 .nil),k2,n2,by show 2<=8;decide,fun z hz=>by simpa [or_comm] using hz,.inr ⟨p,rfl,ep⟩,fun v H5 s5 tv=>?_⟩;refine⟨v,grs [y,x],2,rfl,tv,by omega,g2',by decide,fun H6 s6=>⟨true,rfl,?_⟩⟩;rw[if_pos rfl];have B6:=B4.keep (s5.trans s6);refine⟨r2,r1,y,x,rfl,B6.p2,B6.p1,B6.ky,B6.kx,fun t H7 s7 t7=>jlf (n:=false) ((tv.keep s6.t).keep s7.t) t7 (by omega) ⟨true,rfl,?_⟩⟩;rw[if_pos rfl];have s47:=s5.trans (s6.trans s7);have B7:=B4.keep s47;refine jmF (n:=false) (rs:=[r1,r2]) (rs':=[r1,r2]) (xs:=[dPc x,dPc y]) (s47 _ _ el4) (.cons B7.p1 (.cons B7.p2 .nil)) B7.eS (.cons B7.p1 (.cons B7.p2 .nil)) ⟨true,rfl,?_⟩;rw[if_pos rfl];have s27:=s24.trans s47;refine ixT (SqT.of (s27 _ _ e2)) (i:=0) rfl (ixT (SqT.of (s27 _ _ e1)) (i:=0) rfl ⟨by decide,fun p1 hp1=>?_⟩);have j8:=Same.new hp1 (.lst [.int (dPc y).1,.int (dPc x).1]);have sh:SeqAt.shaped (.list [.int (dPc y).1,.int (dPc x).1])=true:=by
  unfold SeqAt.shaped;simp [PyData.canLay0,PyData.canLayAll0,PyData.depth,PyData.depthAll]
 refine⟨_,_,.lst (SqL.of ((s47.trans j8) _ _ ep)) (.cons (.int _) (.cons (.int _) .nil)),.lst (SqL.of jag) (.cons (.int _) (.cons (.int _) .nil)),sh,sh,?_⟩;rw[SeqAt.eqv_refl _ (SeqAt.canLay_of_shaped sh)];exact q _
end
@[elab_as_elim] theorem len1 {P:List Value->Prop} (us:List Value) (hl:us.length=1) (h:∀a,P [a]):P us:=by
  cases us with
  | nil=>exact absurd hl (by decide)
  | cons a r =>
    cases r with
    | nil=>exact h a
    | cons b r=>exact absurd (Nat.succ.inj hl) (Nat.succ_ne_zero _)
@[elab_as_elim] theorem len2 {P:List Value->Prop} (us:List Value) (hl:us.length=2) (h:∀a0 a1,P [a0,a1]):P us:=by
 cases us with
 | nil=>exact absurd hl (by decide)
 | cons a0 r=>exact len1 (P:=fun r=>P (a0::r)) r (Nat.succ.inj hl) fun a1=>h a0 a1
@[elab_as_elim] theorem len3 {P:List Value->Prop} (us:List Value) (hl:us.length=3) (h:∀a0 a1 a2,P [a0,a1,a2]):P us:=by
 cases us with
 | nil=>exact absurd hl (by decide)
 | cons a0 r=>exact len2 (P:=fun r=>P (a0::r)) r (Nat.succ.inj hl) fun a1 a2=>h a0 a1 a2
@[elab_as_elim] theorem len4 {P:List Value->Prop} (us:List Value) (hl:us.length=4) (h:∀a0 a1 a2 a3,P [a0,a1,a2,a3]):P us:=by
 cases us with
 | nil=>exact absurd hl (by decide)
 | cons a0 r=>exact len3 (P:=fun r=>P (a0::r)) r (Nat.succ.inj hl) fun a1 a2 a3=>h a0 a1 a2 a3
@[elab_as_elim] theorem len5 {P:List Value->Prop} (us:List Value) (hl:us.length=5) (h:∀a0 a1 a2 a3 a4,P [a0,a1,a2,a3,a4]):P us:=by
 cases us with
 | nil=>exact absurd hl (by decide)
 | cons a0 r=>exact len4 (P:=fun r=>P (a0::r)) r (Nat.succ.inj hl) fun a1 a2 a3 a4=>h a0 a1 a2 a3 a4
inductive AtK (K:PySem.W.Frag) (x:Str) (st:Stmt):Prop
 | mk (f:Addr) (oc kV dc pm cd ct:Value) (od an:Option Addr) (sl:Array (Option Value)) (a:PySem.W.nsIn K mainGlobals x=some (some (.ref f))) (l:K.lookup f=some ⟨oc,od,.func (PySem.W.fnOf x x (jbq st) (ja7 st) (jae st) .none kV dc pm an cd ct),sl⟩) (c:PySem.W.codeIn K cd x=true) (k:PySem.W.keepIn K (.ref f)=true)
local macro_rules | `(tactic| walk_at "bn") => `(tactic| first | exact fun _ _ _ _ _ _ us hl => len1 us hl fun _ => rfl | exact fun _ _ _ _ _ _ us hl => len2 us hl fun _ _ => rfl | exact fun _ _ _ _ _ _ us hl => len3 us hl fun _ _ _ => rfl | exact fun _ _ _ _ _ _ us hl => len4 us hl fun _ _ _ _ => rfl | exact fun _ _ _ _ _ _ us hl => len5 us hl fun _ _ _ _ _ => rfl)
theorem AtK.go {K:PySem.W.Frag} {h:Heap} {mg:Str->Option Value} {x:Str} {st:Stmt} {ps:List Str} (H:AtK K x st) (X:K.In h) (G:h.Ns mainGlobals mg) (hb:∀(kV doc pm:Value) (an:Option Addr) (cdv ct:Value) (us:List Value),us.length=ps.length->bindArgs (PySem.W.fnOf x x (jbq st) (ja7 st) (jae st) .none kV doc pm an cdv ct) ⟨us,[]⟩=pure (ps.zip us):=by walk_at "bn"):At K mg x st ps [] :=
 let ⟨_,_,_,_,_,_,_,_,_,_,a,l,c,k⟩:=H
 at_mk X G hb a l c k
theorem joz {l:PySem.W.OpenLaw} {w:World} {K:PySem.W.Frag} {h:Heap} {mg:Str->Option Value} {fa fF D fG E:Addr} {t1 t2:Tok} {tD:Tok} (X:K.In h) (G:h.Ns mainGlobals mg) (hfa:mg "law"=some (.ref fa))
  {f47:Addr} {odF anF odG anG od47 an47:Option Addr} {slF slG sl47:Array (Option Value)} {ocF kVF dcF pmF cdF ctF ocG kVG dcG pmG cdG ctG oc47 kV47 dc47 pm47 cd47 ct47:Value} {oD:Obj} {nD:Nat} {oE:Obj} {nE:Nat}
  (aS0:PySem.W.nsIn K mainGlobals "SHORT_BITS"=some (some (.int 2000 t1)))
  (aS1:PySem.W.nsIn K mainGlobals "MOST_CORNERS"=some (some (.int 8 t2)))
  (aF:PySem.W.nsIn K mainGlobals "made_spot"=some (some (.ref fF))) (lF:K.lookup fF=some ⟨ocF,odF,.func (PySem.W.fnOf "made_spot" "made_spot" (jbq jbj) (ja7 jbj) (jae jbj) (.ref D) kVF dcF pmF anF cdF ctF),slF⟩) (cF:PySem.W.codeIn K cdF "made_spot"=true) (kF:PySem.W.keepIn K (.ref fF)=true) (lD:K.lookup D=some oD) (hD:oD.data=.seq #[.int 1 tD] nD)
  (aG:PySem.W.nsIn K mainGlobals "tree_of"=some (some (.ref fG))) (lG:K.lookup fG=some ⟨ocG,odG,.func (PySem.W.fnOf "tree_of" "tree_of" (jbq jbo) (ja7 jbo) (jae jbo) (.ref E) kVG dcG pmG anG cdG ctG),slG⟩) (cG:PySem.W.codeIn K cdG "tree_of"=true) (kG:PySem.W.keepIn K (.ref fG)=true) (lE:K.lookup E=some oE) (hE:oE.data=.seq #[.none] nE)
  (a0:AtK K "_law_cell_at" jbQ)
  (a1:AtK K "_law_folded" jbp)
  (a2:AtK K "_law_state" jcm)
  (a3:AtK K "_law_next" jcX)
  (a4:AtK K "_law_arrow" jbv)
  (a5:AtK K "_law_upright" jbR)
  (a6:AtK K "_law_raw" jbW)
  (a7:AtK K "greatest_divisor" jbn)
  (a8:AtK K "in_lowest_terms" jaX)
  (a9:AtK K "_law_corners" jaU)
  (a10:AtK K "without" jcj)
  (a11:AtK K "crossed" jdX)
  (a12:AtK K "determinant" jb4)
  (a13:AtK K "minor_of" jdm)
  (a14:AtK K "in_line" jdY)
  (a15:AtK K "rough_plane" jb5)
  (a16:AtK K "made_plane" jck)
  (a17:AtK K "is_plain" jdn)
  (a18:AtK K "turned_about" jbd)
  (a19:AtK K "plane_through" jbC)
  (a20:AtK K "sign_of" jdW)
  (a21:AtK K "height_over" jb6)
  (a22:AtK K "side_of" jdZ)
  (a23:AtK K "flat_axis" jcV)
  (a24:AtK K "side_of_edge" jbP)
  (a25:AtK K "is_convex" jcW)
  (a26:AtK K "stands_first" jbO)
  (a27:AtK K "formed" jeU)
  (a28:AtK K "made_board" jcl)
  (a29:AtK K "_law_some" jcY)
  (a30:AtK K "plane_of" jdo)
  (a31:AtK K "edges_of" jbV)
  (a32:AtK K "met_at" jeT)
  (a33:AtK K "sided_round" jb7)
  (a34:AtK K "cut_by" jbA)
  (a35:AtK K "grown_with" jbu)
  (a36:AtK K "grown_by" jdp)
  (a37:AtK K "_law_whole" jcn)
  (a38:AtK K "_law_is_spot" jbe)
  (a39:AtK K "_law_is_piece" ja2)
  (a40:AtK K "_law_is_tree" jaV)
  (a41:AtK K "_law_divisor" jbS)
  (a42:AtK K "_law_plane" jaB)
  (a43:AtK K "_law_height" jb8)
  (a44:AtK K "_law_part" jbD)
  (a45:AtK K "_law_beneath" jbT)
  (a46:AtK K "_law_due" jbX)
  (a47:PySem.W.nsIn K mainGlobals "law"=some (some (.ref f47))) (l47:K.lookup f47=some ⟨oc47,od47,.func (PySem.W.fnOf "law" "law" (jbq jeV) (ja7 jeV) (jae jeV) .none kV47 dc47 pm47 an47 cd47 ct47),sl47⟩) (c47:PySem.W.codeIn K cd47 "law"=true) (k47:PySem.W.keepIn K (.ref f47)=true)
  (z0:PySem.W.nsIn K mainGlobals "sum"=some none) (z1:PySem.W.nsIn K mainGlobals "dict"=some none) (z2:PySem.W.nsIn K mainGlobals "all"=some none) (z3:PySem.W.nsIn K mainGlobals "isinstance"=some none) (z4:PySem.W.nsIn K mainGlobals "bool"=some none) (z5:PySem.W.nsIn K mainGlobals "int"=some none) (z6:PySem.W.nsIn K mainGlobals "abs"=some none) (z7:PySem.W.nsIn K mainGlobals "max"=some none) (z8:PySem.W.nsIn K mainGlobals "min"=some none) (z9:PySem.W.nsIn K mainGlobals "len"=some none) (z10:PySem.W.nsIn K mainGlobals "range"=some none) (z11:PySem.W.nsIn K mainGlobals "tuple"=some none) (z12:PySem.W.nsIn K mainGlobals "list"=some none) (z13:PySem.W.nsIn K mainGlobals "reversed"=some none) :
  ∃fd:FuncData,(∀(s:Shared) (v:Value),BindsTo s fd ⟨[v],[]⟩ [("script",v)])/\∀base:Heap,K.In base->base.Ns mainGlobals mg->FnOk l.prog w K mg base CX0 19 fa fd ["script"] (jjJ K):=by
 have e:=hfa.symm.trans (PySem.W.mg_of X G a47);cases e;have T:Tx K mg t1 t2:=⟨PySem.W.mg_none_of X G z0,PySem.W.mg_none_of X G z1,PySem.W.mg_none_of X G z2,PySem.W.mg_none_of X G z3,PySem.W.mg_none_of X G z4,PySem.W.mg_none_of X G z5,PySem.W.mg_none_of X G z6,PySem.W.mg_none_of X G z7,PySem.W.mg_none_of X G z8,PySem.W.mg_none_of X G z9,PySem.W.mg_none_of X G z10,PySem.W.mg_none_of X G z11,PySem.W.mg_none_of X G z12,PySem.W.mg_none_of X G z13,PySem.W.mg_of X G aS0,PySem.W.mg_of X G aS1⟩;have AF:At K mg "made_spot" jbj ["x","y","z","w"] []:=jgp (ds:=[]) X G (fun _ _ _ _ _ _ us hl=>match us,hl with | [_,_,_,_],_=>⟨_,rfl,rfl⟩) aF lF cF kF lD hD .nil;have AF1:At K mg "made_spot" jbj ["x","y","z","w"] [.int 1]:=jgp (ds:=[.int 1 tD]) X G (fun _ _ _ _ _ _ us hl=>by
  rw[xad] at hl;have hl2:us.length=3:=by simpa using hl
  match us,hl2 with
  | [u0,u1,u2],_=>exact⟨_,rfl,rfl⟩) aF lF cF kF lD hD (.cons ⟨_,rfl⟩ .nil)
 have AG:At K mg "tree_of" jbo ["some","row"] []:=jgp (ds:=[]) X G (fun _ _ _ _ _ _ us hl=>match us,hl with | [_,_],_=>⟨_,rfl,rfl⟩) aG lG cG kG lE hE .nil;have AG1:At K mg "tree_of" jbo ["some","row"] [.non]:=jgp (ds:=[.none]) X G (fun _ _ _ _ _ _ us hl=>by
  rw[xad] at hl;have hl2:us.length=1:=by simpa using hl
  match us,hl2 with
  | [u0],_=>exact⟨_,rfl,rfl⟩) aG lG cG kG lE hE (.cons rfl .nil)
 have FL:=jf0 (st:=jeV) l47 c47 k47;refine⟨PySem.W.fnOf "law" "law" (jbq jeV) (ja7 jeV) (jae jeV) .none kV47 dc47 pm47 an47 cd47 ct47,fun s v=>.of_eq rfl,fun base _ _=>?_⟩;have D0:=jmf (P:=l.prog) (w:=w) (base:=base) T (a0.go X G);have D1:=jmg (P:=l.prog) (w:=w) (base:=base) T (a1.go X G) D0;have D2:=jnW (P:=l.prog) (w:=w) (base:=base) T (a2.go X G);have D3:=ok_nx (P:=l.prog) (w:=w) (base:=base) T (a3.go X G);have D4:=jn1 (P:=l.prog) (w:=w) (base:=base) T (a4.go X G) D3;have D5:=jnX (P:=l.prog) (w:=w) (base:=base) T (a5.go X G);have D6:=jn5 (P:=l.prog) (w:=w) (base:=base) T (a6.go X G) D3 D4 D5;have D7:=ok_gd (P:=l.prog) (w:=w) (base:=base) T (a7.go X G);have D8:=jno (P:=l.prog) (w:=w) (base:=base) T (a8.go X G) D7;have D9:=jnA (P:=l.prog) (w:=w) (base:=base) T AF D8;have D10:=jmm (P:=l.prog) (w:=w) (base:=base) T (a9.go X G) D9;have D11:=jhl (P:=l.prog) (w:=w) (base:=base) T (a10.go X G);have D12:=jhk (P:=l.prog) (w:=w) (base:=base) T (a11.go X G);have D13:=jnp (P:=l.prog) (w:=w) (base:=base) T (a12.go X G) D12;have D14:=jjK (P:=l.prog) (w:=w) (base:=base) T (a13.go X G) D11 D13;have D15:=jlF (P:=l.prog) (w:=w) (base:=base) T (a14.go X G) D14;have D16:=jjN (P:=l.prog) (w:=w) (base:=base) T (a15.go X G) D14;have D17:=jjO (P:=l.prog) (w:=w) (base:=base) T (a16.go X G) D8;have D18:=jjM (P:=l.prog) (w:=w) (base:=base) T (a17.go X G);have D19:=jil (P:=l.prog) (w:=w) (base:=base) T (a18.go X G);have D20:=jhm (P:=l.prog) (w:=w) (base:=base) T (a19.go X G) D16 D17 D18 D19;have D21:=jlG (P:=l.prog) (w:=w) (base:=base) T (a20.go X G);have D22:=ok_ht (P:=l.prog) (w:=w) (base:=base) T (a21.go X G);have D23:=jlH (P:=l.prog) (w:=w) (base:=base) T (a22.go X G) D21 D22;have D24:=jlI (P:=l.prog) (w:=w) (base:=base) T (a23.go X G);have D25:=jlJ (P:=l.prog) (w:=w) (base:=base) T (a24.go X G) D21 D14;have D26:=jnq (P:=l.prog) (w:=w) (base:=base) T (a25.go X G) D25;have D27:=jjP (P:=l.prog) (w:=w) (base:=base) T (a26.go X G);have D28:=jim (P:=l.prog) (w:=w) (base:=base) T (a27.go X G) D27;have D29:=jjR (P:=l.prog) (w:=w) (base:=base) T (a28.go X G) D15 D20 D23 D24 D26 D28;have D30:=jmt (P:=l.prog) (w:=w) (base:=base) T (a29.go X G) D2 D6 D3 D10 D29;have D31:=jhn (P:=l.prog) (w:=w) (base:=base) T (a30.go X G) D20;have D32:=jjV (P:=l.prog) (w:=w) (base:=base) T (a31.go X G);have D33:=jnC (P:=l.prog) (w:=w) (base:=base) T (a32.go X G) D22 D9;have D34:=jj0 (P:=l.prog) (w:=w) (base:=base) T (a33.go X G) D32 D23 D33;have D35:=jlP (P:=l.prog) (w:=w) (base:=base) T (a34.go X G) D23 D34 D28;have D36:=ok_gx (P:=l.prog) (w:=w) (base:=base) T (a35.go X G) D35;have D37:=joo (P:=l.prog) (w:=w) (base:=base) T (a36.go X G) D31 D36;have D38:=ok_to (P:=l.prog) (w:=w) (base:=base) T AG D37;have D39:=jor (P:=l.prog) (w:=w) (base:=base) T AG1 D37;have D40:=ok_wh (P:=l.prog) (w:=w) (base:=base) T (a37.go X G);have D41:=ok_is (P:=l.prog) (w:=w) (base:=base) T (a38.go X G) D40;have D42:=ok_ip (P:=l.prog) (w:=w) (base:=base) T (a39.go X G) D40 D41;have D43:=ok_it (P:=l.prog) (w:=w) (base:=base) T (a40.go X G) D41 D42;have D44:=joe (P:=l.prog) (w:=w) (base:=base) T (a41.go X G);have D45:=joj (P:=l.prog) (w:=w) (base:=base) T (a42.go X G) D5 D44;have D46:=ok_hg (P:=l.prog) (w:=w) (base:=base) T (a43.go X G);have D47:=jmB (P:=l.prog) (w:=w) (base:=base) T (a44.go X G) D46 D9 D29;have D48:=jov (P:=l.prog) (w:=w) (base:=base) T (a45.go X G);have D49:=jox (P:=l.prog) (w:=w) (base:=base) T (a46.go X G) D45 D46 D47 D48;exact joy T FL D1 D30 D38 D39 D37 D43 D49
theorem walk {l:PySem.W.OpenLaw} {q:Program} {loose:List Str} {XP:(Str->Option Value)->Heap->Prop} {YP:World->Heap->Prop} {d:DefRec} {K:Params->PySem.W.Frag} (hn:l.most=some 63) (hdf:d.params.defaults=[])
  (hY:∀(w:World) (h:Heap),YP w h->(K w.params).In h)
  (F:∀(w:World) (mg:Str->Option Value) (fa:Addr) (h:Heap),(K w.params).In h->h.Ns mainGlobals mg->mg d.name=some (.ref fa) ->
   ∃fd:FuncData,(∀(s:Shared) (u:Value),BindsTo s fd ⟨[u],[]⟩ [("script",u)])/\∀base:Heap,(K w.params).In base->base.Ns mainGlobals mg->FnOk l.prog w (K w.params) mg base CX0 19 fa fd ["script"] (jjJ (K w.params))) :
  PySem.W.WalkO q loose XP YP l.row.toRowW d [] (fun f vs=>PySem.call f vs) :=
 L2.jls (n:=63) (k:=19) (x:="script") (CX:=fun _=>CX0) (sp:=fun w=>jjJ (K w.params)) hn (by decide) hdf ⟨rfl,by decide,by decide⟩ hY F (fun _ _ a ns hl _ hS=>⟨a,ns,rfl,hS,hl,fun _=>rfl⟩) fun _ _ _ _ _ z=>z
end My
namespace PySem.W.Fast
def tw10034557168765073982:=0
def tw10072911026694081655:=0
def tw10262958235322877728:=0
def tw10273678232830733608:=0
def tw10633430079696860769:=0
def tw10659755597621078362:=0
def tw10706662075598357934:=0
def tw1073638791439952815:=0
def tw10879338230792171537:=0
def tw10893538507650385046:=0
def tw10903256477863964967:=0
def tw10956386192326468997:=0
def tw110243957369679874:=0
def tw11081211381581703340:=0
def tw11306365579387886728:=0
def tw11306616848406254021:=0
def tw11351595650968298157:=0
def tw11379389702257130366:=0
def tw1139765754876032096:=0
def tw11423709113723131997:=0
def tw1155828485579647336:=0
def tw11705871265467585951:=0
def tw11717777440664393109:=0
def tw11917691621984899254:=0
def tw12020322879464006394:=0
def tw12112848168370146830:=0
def tw1211421201011606008:=0
def tw12138602945601561238:=0
def tw1227911474349941286:=0
def tw12280703597174510617:=0
def tw12420315940439084597:=0
def tw12566045300670249236:=0
def tw12936207185881694357:=0
def tw13338992835388997460:=0
def tw13363327432442267769:=0
def tw13400475750344873624:=0
def tw13413537507421297610:=0
def tw13591724901911654363:=0
def tw13825856185250701833:=0
def tw13840807889969889494:=0
def tw13858271317070743470:=0
def tw1421000523249608093:=0
def tw14506687844474474921:=0
def tw1467932903717710387:=0
def tw14730768994890477576:=0
def tw14868404316923884830:=0
def tw14995432588115475063:=0
def tw15168351368392226537:=0
def tw15178253990088505195:=0
def tw15185794384535936578:=0
def tw15326055704835275753:=0
def tw15529270933731940085:=0
def tw15570032544641586464:=0
def tw15593172449163318131:=0
def tw15613236518552573451:=0
def tw15656540701787656284:=0
def tw15695216176794369518:=0
def tw15760555847421974217:=0
def tw15883002188458642425:=0
def tw16315295417188276369:=0
def tw16483628275969601361:=0
def tw16849571535475013336:=0
def tw17022678246770774431:=0
def tw17162120760956852615:=0
def tw17490185952529028491:=0
def tw17556872940351460872:=0
def tw18199931629922187377:=0
def tw18250348060912765311:=0
def tw18373202557447823500:=0
def tw1922749523479393947:=0
def tw1925101532211600110:=0
def tw2051959228667833872:=0
def tw2146190739127833258:=0
def tw214763342193767851:=0
def tw2513574691004194767:=0
def tw2870888009483810424:=0
def tw2916692091785397223:=0
def tw3157535109267295900:=0
def tw3218011966855416354:=0
def tw3320257289066607830:=0
def tw3427087990304511605:=0
def tw3453386577170353410:=0
def tw3683218077296057823:=0
def tw3741484424862164591:=0
def tw404862319581470095:=0
def tw4120506848507480951:=0
def tw412929639800479044:=0
def tw4267149998523632586:=0
def tw4275425992165182409:=0
def tw4314188949595324574:=0
def tw4611050403687492168:=0
def tw5554333369722031854:=0
def tw5580361109372307078:=0
def tw5694383664064058371:=0
def tw578081065281995373:=0
def tw5977129970642828759:=0
def tw6117170957509459042:=0
def tw6195940265943314058:=0
def tw6201109593949086669:=0
def tw6291100573009474024:=0
def tw6485337770181812063:=0
def tw6640735281375628335:=0
def tw6658214233989648725:=0
def tw6789973973193978327:=0
def tw6866293302110500374:=0
def tw7136088422442590962:=0
def tw7223054193992637212:=0
def tw7329084454367918262:=0
def tw759949940036803249:=0
def tw7668793354268312557:=0
def tw7679376172362586025:=0
def tw7723386722508119527:=0
def tw8461008489843942179:=0
def tw8639515577976455462:=0
def tw867788005913514992:=0
def tw8746363919158413635:=0
def tw9093520122138287963:=0
def tw9151318708060691911:=0
def tw9165815183609508411:=0
def tw9384239848911182345:=0
def tw9544797361841554494:=0
def tw9552083710266466086:=0
def tw9569316785525378430:=0
def tw9887181712334409858:=0
end PySem.W.Fast
open PySem PySem.W PyProof.Rows
set_option maxRecDepth 100000 in
set_option maxHeartbeats 0 in
theorem PySem.Challenge.cw_boardsight_k40_two_boards_cut_holds : PySem.Challenge.rw_boardsight_k40_two_boards_cut.Holds := by
  w_on;o_law;k_head;(case hw=>w_witness2)
  k_fill
  refine My.walk (l:=PySem.Challenge.rw_boardsight_k40_two_boards_cut) rfl rfl (fun w h Y=>PySem.W.kIn_of Y) ?F
  case F =>
    intro w mg fa h KX G hmg
    refine' My.joz KX G hmg ?aS0 ?aS1 ?aF ?lF ?cF ?kF ?lD ?hD ?aG ?lG ?cG ?kG ?lE ?hE ?a0 ?a1 ?a2 ?a3 ?a4 ?a5 ?a6 ?a7 ?a8 ?a9 ?a10 ?a11 ?a12 ?a13 ?a14 ?a15 ?a16 ?a17 ?a18 ?a19 ?a20 ?a21 ?a22 ?a23 ?a24 ?a25 ?a26 ?a27 ?a28 ?a29 ?a30 ?a31 ?a32 ?a33 ?a34 ?a35 ?a36 ?a37 ?a38 ?a39 ?a40 ?a41 ?a42 ?a43 ?a44 ?a45 ?a46 ?a47 ?l47 ?c47 ?k47 ?z0 ?z1 ?z2 ?z3 ?z4 ?z5 ?z6 ?z7 ?z8 ?z9 ?z10 ?z11 ?z12 ?z13
    (case aS0=>k_is)
    (case aS1=>k_is)
    (case aF=>k_is)
    (case lF=>k_is)
    (case cF=>k_is)
    (case kF=>k_is)
    (case lD=>k_is)
    (case hD=>first | rfl | k_is)
    (case aG=>k_is)
    (case lG=>k_is)
    (case cG=>k_is)
    (case kG=>k_is)
    (case lE=>k_is)
    (case hE=>first | rfl | k_is)
    (case a47=>k_is)
    (case l47=>k_is)
    (case c47=>k_is)
    (case k47=>k_is)
    (case z0=>k_is)
    (case z1=>k_is)
    (case z2=>k_is)
    (case z3=>k_is)
    (case z4=>k_is)
    (case z5=>k_is)
    (case z6=>k_is)
    (case z7=>k_is)
    (case z8=>k_is)
    (case z9=>k_is)
    (case z10=>k_is)
    (case z11=>k_is)
    (case z12=>k_is)
    (case z13=>k_is)
    all_goals (apply My.AtK.mk;k_is;k_is;k_is;k_is)

import PyProof.Rows.All
import Wide.All
import OpenK.AllK
import Wide.FinOn
import Lean
import PyProof.EqAt
import PyProof.EqKinds
import PyProof.TupleCall
import PySem.Challenge.RW_boardsight_k86_yards_written_and_read
set_option Elab.async false
set_option linter.all false
set_option maxRecDepth 100000
def xaa:=@List.length_map
def xab:=@List.getElem?_eq_getElem
def xac:=@List.mem_cons
def xad:=@List.getElem?_map
def xae:=@Nat.le_refl
def xaf:=@List.length_append
def xag:=@List.getD_eq_getElem?_getD
def xah:=@Nat.lt_of_lt_of_le
def xai:=@List.size_toArray
def xaj:=@List.getElem?_eq_some_iff
def xak:=@List.mem_singleton
def xal:=@List.map_append
def xam:=@List.length_cons
def xan:=@Nat.le_trans
def xao:=@List.not_mem_nil
def xap:=@Classical.byContradiction
def xaq:=@List.mem_cons_of_mem
def xar:=@Bool.false_ne_true
def xas:=@List.mem_of_getElem?
def xat:=@List.length_take
def xau:=@Option.map_eq_some_iff
def xav:=@List.mem_cons_self
def xaw:=@List.lookup_cons
def xax:=@Int.ediv_mul_cancel
def xay:=@List.mem_append
def xaz:=@Nat.ne_of_lt
def xaA:=@List.mem_map
def xaB:=@Int.emod_lt_of_pos
def xaC:=@Nat.mod_eq_of_lt
def xaD:=@List.mem_append_right
def xaE:=@List.length_drop
def xaF:=@Int.emod_nonneg
def xaG:=@Nat.zero_le
def xaH:=@List.take_add_one
def xaI:=@List.getElem?_append_right
def xaJ:=@Bool.and_eq_true
def xaK:=@List.getElem?_eq_none
def xaL:=@List.take_length
def xaM:=@List.take_of_length_le
def xaN:=@List.mem_range
def xaO:=@List.getElem?_append_left
def xaP:=@Int.mul_pos
def xaQ:=@List.length_replicate
def xaR:=@Nat.mod_lt
def xaS:=@Nat.lt_irrefl
def xaT:=@List.map_cons
def xaU:=@Nat.lt_of_le_of_lt
def xaV:=@List.length_reverse
def xaW:=@List.map_map
def xaX:=@Int.mul_le_mul_of_nonneg_right
def xaY:=@List.all_eq_true
def xaZ:=@Int.eq_ofNat_of_zero_le
def xa0:=@List.head_eq_of_cons_eq
def xa1:=@Nat.le_of_lt
def xa2:=@List.length_range
def xa3:=@List.length_zip
def xa4:=@Int.zero_mul
def xa5:=@Int.natAbs_ediv_le_natAbs
def xa6:=@List.pairwise_iff_getElem
def xa7:=@Bool.and_eq_true_iff
def xa8:=@List.mem_filter
def xa9:=@Int.toNat_natCast
def xba:=@List.reverse_cons
def xbb:=@Int.zero_add
def xbc:=@List.dropWhile_cons
def xbd:=@List.cons_ne_nil
def xbe:=@Nat.lt_or_gt_of_ne
def xbf:=@List.nodup_cons
def xbg:=@List.range_succ
def xbh:=@List.length_filter_le
def xbi:=@List.getElem?_reverse
def xbj:=@Nat.lt_succ_of_lt
def xbk:=@List.mem_append_left
def xbl:=@Nat.pow_le_pow_right
def xbm:=@Int.mul_ediv_cancel'
def xbn:=@List.getElem?_eq_none_iff
def xbo:=@List.getElem_mem
def xbp:=@List.filterMap_cons
def xbq:=@Bool.eq_iff_iff
def xbr:=@List.filter_append
def xbs:=@List.getElem?_cons_succ
def xbt:=@List.tail_eq_of_cons_eq
def xbu:=@List.length_eq_zero_iff
def xbv:=@List.any_eq_false
def xbw:=@List.ext_getElem?
def xbx:=@List.filter_cons
def xby:=@Nat.le_add_right
def xbz:=@List.take_nil
def xbA:=@List.append_nil
def xbB:=@Nat.le_succ
def xbC:=@Int.mul_eq_zero
def xbD:=@List.getElem?_range
def xbE:=@List.takeWhile_cons
def xbF:=@List.mem_filterMap
def xbG:=@List.zip_cons_cons
def xbH:=@Int.natAbs_neg
def xbI:=@Int.mul_nonneg
def xbJ:=@Int.mul_assoc
def xbK:=@List.drop_nil
def xbL:=@List.map_drop
def xbM:=@List.map_take
namespace L2
open PySem PySem.Spec PyProof.Rows
abbrev Key:=Sum Int Str
def jmI:Key->Value->Bool
 | .inl k,v=>Value.isInt k v
 | .inr x,v=>Value.isStrOf x v
def keyH (w:World):Key->Int
 | .inl k=>hashInt k
 | .inr x=>hashStr w x
theorem jaY:∀{k:Key} {v:Value},jmI k v=true->(∃i t,k=Sum.inl i/\v=Value.int i t)\/(∃x t,k=Sum.inr x/\v=Value.str x t)
  | .inl i, v, h => by
    obtain⟨t,e⟩:=Value.isInt_shape (k:=i) (v:=v) h;exact .inl ⟨i,t,rfl,e⟩
  | .inr x, v, h => by
    obtain⟨t,e⟩:=Value.isStrOf_shape (x:=x) (v:=v) h;exact .inr ⟨x,t,rfl,e⟩
theorem jmJ (a b:Int):decide ((Sum.inl a:Key)=Sum.inl b)=(a==b):=by
 by_cases e:a=b
 ·subst e;simp
 ·have h:¬(Sum.inl a:Key)=Sum.inl b:=fun q=>e (Sum.inl.inj q);rw[decide_eq_false h];exact (beq_eq_false_iff_ne.mpr e).symm
theorem jmK (a b:Str):decide ((Sum.inr a:Key)=Sum.inr b)=decide (a=b):=by
 by_cases e:a=b
 ·subst e;simp
 ·have h:¬(Sum.inr a:Key)=Sum.inr b:=fun q=>e (Sum.inr.inj q);rw[decide_eq_false h,decide_eq_false e]
theorem jmL (a:Int) (b:Str):decide ((Sum.inl a:Key)=Sum.inr b)=false:=decide_eq_false (fun q=>nomatch q)
theorem jmM (a:Str) (b:Int):decide ((Sum.inr a:Key)=Sum.inl b)=false:=decide_eq_false (fun q=>nomatch q)
def jgg (prog:Program) (w:World):PySem.KeyKind prog w Key where
 is:=jmI
 hash:=keyH w
 inj:=fun v a b ha hb=>by
  rcases jaY ha with ⟨i,t,rfl,rfl⟩ | ⟨x,t,rfl,rfl⟩
  ·rcases jaY hb with ⟨j,u,rfl,e⟩ | ⟨y,u,rfl,e⟩
   ·injection e with e1 _;rw[e1]
   ·exact nomatch e
  ·rcases jaY hb with ⟨j,u,rfl,e⟩ | ⟨y,u,rfl,e⟩
   ·exact nomatch e
   ·injection e with e1 _;rw[e1]
 byValue:=fun k v h=>by
  rcases jaY h with ⟨i,t,rfl,rfl⟩ | ⟨x,t,rfl,rfl⟩<;>rfl
 pyHash:=fun hv h=>by
  rcases jaY hv with ⟨i,t,rfl,rfl⟩ | ⟨x,t,rfl,rfl⟩
  ·exact wpAny_pyHash_int h
  ·exact wpAny_pyHash_str h
 eqBool:=fun hu hv h=>by
  rcases jaY hu with ⟨i,t,rfl,rfl⟩ | ⟨x,t,rfl,rfl⟩
  ·rcases jaY hv with ⟨j,u,rfl,rfl⟩ | ⟨y,u,rfl,rfl⟩
   ·rw[jmJ] at h;exact wpAny_eqBool_int h
   ·rw[jmL] at h;exact SeqAt.EqAt.int_str i t y u _ _ _ _ h
  ·rcases jaY hv with ⟨j,u,rfl,rfl⟩ | ⟨y,u,rfl,rfl⟩
   ·rw[jmM] at h;exact SeqAt.EqAt.str_int x t j u _ _ _ _ h
   ·rw[jmK] at h;exact wpAny_eqBool_str h
 «strs»:=fun k x t v h=>by
  rcases jaY h with ⟨i,u,rfl,e⟩ | ⟨y,u,rfl,e⟩
  ·exact nomatch e
  ·injection e with e1 _
   subst e1
   cases v<;>rfl
inductive V where
 | non | bl (b:Bool) | int (i:Int) | str (x:Str) | byt (b:Array UInt8) | flt (b:UInt64) | ref (a:Addr) | ty (n:String)
 deriving DecidableEq
def RelV:V->Value->Prop
 | .non,u=>u=Value.none
 | .bl b,u=>u=Value.bool b
 | .int i,u=>∃t,u=Value.int i t
 | .str x,u=>∃t,u=Value.str x t
 | .byt b,u=>∃t,u=Value.bytes b t
 | .flt b,u=>∃t,u=Value.float b t
 | .ref a,u=>u=Value.ref a
 | .ty n,u=>u=Value.type n
abbrev Vals:List V->List Value->Prop:=Paired RelV
theorem Vals.length {xs:List V} {us:List Value} (r:Vals xs us):xs.length=us.length:=Paired.length r
theorem Vals.get:∀{xs:List V} {us:List Value} {i:Nat} {x:V},Vals xs us->xs[i]?=some x->∃u,us[i]?=some u/\RelV x u
  | _,_,_,_,.nil,e=>by simp at e
  | _,_,0,_,.cons r _,e=>by simp at e;subst e;exact⟨_,rfl,r⟩
  | _, _, i + 1, x, .cons _ t, e => by
    obtain⟨u,h1,h2⟩:=Vals.get (i:=i) (x:=x) t (by simpa using e);exact⟨u,by simpa using h1,h2⟩
theorem Vals.set {x:V} {u:Value} (r:RelV x u):∀{xs:List V} {us:List Value} (i:Nat),Vals xs us->Vals (xs.set i x) (us.set i u)
 | _,_,_,.nil=>.nil
 | _,_,0,.cons _ t=>.cons r t
 | _,_,i+1,.cons q t=>.cons q (Vals.set r i t)
theorem Vals.append:∀{xs ys:List V} {us ws:List Value},Vals xs us->Vals ys ws->Vals (xs++ys) (us++ws)
 | _,_,_,_,.nil,s=>s
 | _,_,_,_,.cons r t,s=>.cons r (Vals.append t s)
theorem Vals.take:∀{xs:List V} {us:List Value} (n:Nat),Vals xs us->Vals (xs.take n) (us.take n)
 | _,_,0,_=>.nil
 | _,_,_+1,.nil=>.nil
 | _,_,n+1,.cons r t=>.cons r (Vals.take n t)
theorem Vals.drop:∀{xs:List V} {us:List Value} (n:Nat),Vals xs us->Vals (xs.drop n) (us.drop n)
 | _,_,0,r=>r
 | _,_,_+1,.nil=>.nil
 | _,_,n+1,.cons _ t=>Vals.drop n t
theorem Vals.none_of:∀{xs:List V} {us:List Value} {i:Nat},Vals xs us->xs[i]?=none->us[i]?=none:=fun {xs us i} r e=>by
 have h1:=r.length;have h2:xs.length<=i:=xbn.mp e;exact xbn.mpr (by omega)
def RelO:Option V->Option Value->Prop
 | some v,some u=>RelV v u
 | none,none=>True
 | _,_=>False
def KV {κ:Type}:List (κ × V)->List (κ × Value)->Prop:=Paired fun (p:κ × V) (q:κ × Value)=>p.1=q.1/\RelV p.2 q.2
def kV:Key->V
 | .inl i=>.int i
 | .inr x=>.str x
inductive HO where
 | lst (xs:List V)
 | tup (xs:List V)
 | dK (kvs:List (Key × V)) | dT (kvs:List (List Key × V))
 | set (S:Int->Bool) (n:Nat)
 | ins (C dx:Addr) (fs:List (Str × V))
 | own (x:Addr)
 | xd (fs:List (Str × V))
 | met (f x:Addr)
 | rng (lo hi:Int)
 | frz (o:Obj) (u:HO)
 | tbl (ps:Array Value)
 | ext (φ:Heap->Prop)
abbrev Hp:=Addr->Option HO
def upd (H:Hp) (a:Addr) (o:HO):Hp:=fun b=>if b=a then some o else H b
theorem jaf {H:Hp} {a:Addr} {o:HO}:upd H a o a=some o:=by unfold upd;rw[if_pos rfl]
theorem jak {H:Hp} {a b:Addr} {o:HO} (h:b≠a):upd H a o b=H b:=by unfold upd;rw[if_neg h]
theorem jlm {H:Hp} {a:Addr} {o u:HO}:upd (upd H a o) a u=upd H a u:=by
 funext b;unfold upd;split<;>rfl
theorem ne_of {H:Hp} {a b:Addr} {o u:HO} (h:H a=some o) (h':H b=some u) (d:o≠u):a≠b:=by
 intro e;subst e;rw[h] at h';exact d (Option.some.inj h')
theorem jal {H:Hp} {a b:Addr} {o:HO} (h:H a=some o) (h':H b=none):a≠b:=by
 intro e;subst e;rw[h] at h';cases h'
section
variable (P:Program) (w:World)
def ObjOk (H:Hp) (h:Heap) (a:Addr):HO->Prop
 | .lst xs=>xs.length<=sizeLine/\∃(its:List Value) (n:Nat),Vals xs its/\h.get? a=some { cls:=.type "list",data:=.seq its.toArray n }
 | .tup xs=>xs.length<=sizeLine/\∃its:List Value,Vals xs its/\IsTup h a its.toArray
 | .dK kvs=>kvs.length<=sizeLine/\(a==sysModules)=false/\∃vs,KV kvs vs/\h.DictOf (jgg P w) a vs
 | .dT kvs=>kvs.length <= sizeLine /\ (a==sysModules)=false /\ ∃xs:List (List Key × Addr × Value),
   Paired (fun (p:List Key × V) (q:List Key × Addr × Value)=>p.1=q.1/\H q.2.1=some (.tup (p.1.map kV))/\RelV p.2 q.2.2) kvs xs /\
   ∃o es ep,h.get? a=some o/\o.ExactDict/\o.data=.dict es ep/\es.toList=xs.map (entryOfKey (tupleKind (jgg P w)))/\(xs.map (·.1)).Nodup
 | .set S n=>h.SetOf (intKind P w) a S n
 | .ins C dx fs=>H dx=some (.own a) /\ fs.length <= 1000 /\ dx≠a /\ h.get? a=some (PySem.W.instObj C dx) /\
   ∃mA,h.Ns1 dx mA/\(∀f,RelO (fs.lookup f) (mA f))/\PySem.Within mA (fs.map (·.1))
 | .own _=>∃o,h.get? a=some o
 | .xd fs=>∃mA,h.Ns1 a mA/\∀f,RelO (fs.lookup f) (mA f)
 | .rng lo hi=>∃t u v,h.get? a=some { cls:=.type "range",data:=.fields #[.int lo t,.int hi u,.int 1 v] }
 | .frz o u=>h.get? a=some o/\ObjOk H h a u
 | .tbl ps=>h.get? a=some { cls:=.none,data:=.fields ps }
 | .met f x=>h.get? a=some (PySem.W.methodObj (.ref f) (.ref x))
 | .ext φ=>φ h/\(∃o,h.get? a=some o)/\∀h1 h2:Heap,φ h1->(∀o,h1.get? a=some o->h2.get? a=some o)->φ h2
def HOk (H:Hp) (h:Heap):Prop:=∀a o,H a=some o->ObjOk P w H h a o
end
section
variable {P:Program} {w:World} {H H':Hp} {h h':Heap} {a:Addr} {o:HO}
theorem ObjOk.lt (x:ObjOk P w H h a o):a<h.objs.size:=by
 cases o with
 | lst xs=>obtain⟨_,_,_,_,e⟩:=x;exact Heap.lt_size e
 | tup xs=>obtain⟨_,_,_,p⟩:=x;exact p.lt
 | dK kvs=>obtain⟨_,_,_,_,o,_,_,e,_⟩:=x;exact Heap.lt_size e
 | dT kvs=>obtain⟨_,_,_,_,o,_,_,e,_⟩:=x;exact Heap.lt_size e
 | set S n=>obtain⟨o,_,_,_,e,_⟩:=x;exact Heap.lt_size e
 | ins C dx fs=>obtain⟨_,_,_,e,_⟩:=x;exact Heap.lt_size e
 | own y=>obtain⟨_,e⟩:=x;exact Heap.lt_size e
 | xd fs=>obtain⟨_,⟨_,_,_,e,_⟩,_⟩:=x;exact Heap.lt_size e
 | rng lo hi=>obtain⟨_,_,_,e⟩:=x;exact Heap.lt_size e
 | frz ob u=>obtain⟨e,_⟩:=x;exact Heap.lt_size e
 | tbl ps=>exact Heap.lt_size (show h.get? a=some _ from x)
 | met f y=>exact Heap.lt_size (show h.get? a=some _ from x)
 | ext φ=>obtain⟨_,⟨_,e⟩,_⟩:=x;exact Heap.lt_size e
theorem Paired.mapP {α β:Type} {F G:α->β->Prop}:∀{l₁:List α} {l₂:List β},Paired F l₁ l₂->(∀a b,F a b->G a b)->Paired G l₁ l₂
 | _,_,.nil,_=>.nil
 | _,_,.cons r t,f=>.cons (f _ _ r) (Paired.mapP t f)
theorem ObjOk.stay (x:ObjOk P w H h a o) (k:∀b u,(b=a\/H b=some (.own a))->h.get? b=some u->h'.get? b=some u)
    (ho:∀b,H b=some (.own a)->H' b=some (.own a)) (ht:∀b xs,H b=some (.tup xs)->H' b=some (.tup xs)):ObjOk P w H' h' a o:=by
  induction o with
  | lst xs=>obtain⟨z,its,n,r,e⟩:=x;exact⟨z,its,n,r,k _ _ (.inl rfl) e⟩
  | tup xs=>obtain⟨z,its,r,ob,e,c⟩:=x;exact⟨z,its,r,ob,k _ _ (.inl rfl) e,c⟩
  | dK kvs=>obtain⟨z,y,vs,r,ob,es,ep,e,c⟩:=x;exact⟨z,y,vs,r,ob,es,ep,k _ _ (.inl rfl) e,c⟩
  | dT kvs =>
    obtain⟨z,y,xs,r,ob,es,ep,e,c⟩:=x;exact⟨z,y,xs,Paired.mapP r fun p q z=>⟨z.1,ht _ _ z.2.1,z.2.2⟩,ob,es,ep,k _ _ (.inl rfl) e,c⟩
  | set S n=>obtain⟨ob,es,ep,t,e,c⟩:=x;exact⟨ob,es,ep,t,k _ _ (.inl rfl) e,c⟩
  | ins C dx fs =>
    obtain⟨d,z,ne,e,mA,⟨od,es,ep,e2,c⟩,r⟩:=x;exact⟨ho _ d,z,ne,k _ _ (.inl rfl) e,mA,⟨od,es,ep,k _ _ (.inr d) e2,c⟩,r⟩
  | own y=>obtain⟨ob,e⟩:=x;exact⟨ob,k _ _ (.inl rfl) e⟩
  | xd fs=>obtain⟨mA,⟨od,es,ep,e,c⟩,r⟩:=x;exact⟨mA,⟨od,es,ep,k _ _ (.inl rfl) e,c⟩,r⟩
  | rng lo hi=>obtain⟨t,u,v,e⟩:=x;exact⟨t,u,v,k _ _ (.inl rfl) e⟩
  | frz ob u ih=>obtain⟨e,q⟩:=x;exact⟨k _ _ (.inl rfl) e,ih q⟩
  | tbl ps =>
    have e:h.get? a=some { cls:=.none,data:=.fields ps }:=x;show h'.get? a=some { cls:=.none,data:=.fields ps };exact k a _ (.inl rfl) e
  | met f y =>
    have e:h.get? a=some (PySem.W.methodObj (.ref f) (.ref y)):=x;show h'.get? a=some (PySem.W.methodObj (.ref f) (.ref y));exact k a _ (.inl rfl) e
  | ext φ=>obtain⟨p,⟨o,e⟩,st⟩:=x;exact⟨st _ _ p fun o q=>k _ _ (.inl rfl) q,⟨o,k _ _ (.inl rfl) e⟩,st⟩
theorem HOk.lt (x:HOk P w H h) (e:H a=some o):a<h.objs.size:=(x a o e).lt
theorem HOk.fresh (x:HOk P w H h) (e:h.objs.size<=a):H a=none:=by
 cases q:H a with
 | none=>rfl
 | some u=>exact absurd (xah (x.lt q) e) (xaS _)
theorem HOk.kept (x:HOk P w H h) (k:∀b u,h.get? b=some u->h'.get? b=some u):HOk P w H h':=fun a o e =>
 (x a o e).stay (fun b u _ q=>k b u q) (fun _ q=>q) fun _ _ q=>q
theorem HOk.laid (x:HOk P w H h) (k:∀b u,h.get? b=some u->h'.get? b=some u) (hp:h.objs.size<=a) (new:ObjOk P w (upd H a o) h' a o):HOk P w (upd H a o) h':=fun b u e=>by
 have hn:=x.fresh hp;by_cases hb:b=a
 ·subst hb;rw[jaf] at e;cases e;exact new
 ·rw[jak hb] at e;exact (x b u e).stay (fun c v _ q=>k c v q) (fun c q=>by rw[jak (jal q hn)];exact q) fun c xs q=>by rw[jak (jal q hn)];exact q
end
def Rd (H:Hp) (a:Addr) (u:HO):Prop:=H a=some u\/∃o,H a=some (.frz o u)
theorem Rd.of {H:Hp} {a:Addr} {u:HO} (h:H a=some u):Rd H a u:=.inl h
theorem Rd.ok {P:Program} {w:World} {H:Hp} {h:Heap} {a:Addr} {u:HO} (r:Rd H a u) (x:HOk P w H h):ObjOk P w H h a u:=by
 rcases r with r | ⟨o,r⟩
 ·exact x a u r
 ·obtain⟨_,q⟩:=x a _ r;exact q
def Mut:Option HO->Prop
 | some (.lst _)=>True
 | some (.dK _)=>True
 | some (.dT _)=>True
 | some (.set _ _)=>True
 | some (.ins _ _ _)=>True
 | some (.ext _)=>True
 | _=>False
section
variable {P:Program} {w:World} {H:Hp} {h h':Heap} {x e:Addr} {o':HO}
theorem HOk.write (ok:HOk P w H h) (mu:Mut (H x)) (he:e=x\/H e=some (.own x)) (k:∀b u,b≠e->h.get? b=some u->h'.get? b=some u) (heo:∃u,h'.get? e=some u)
  (new:ObjOk P w (upd H x o') h' x o'):HOk P w (upd H x o') h':=fun b u q=>by
 have nown:∀c y,H c=some (.own y)->c≠x:=fun c y r z=>by subst z;rw[r] at mu;exact mu
 have ntup:∀c xs,H c=some (.tup xs)->c≠x:=fun c xs r z=>by subst z;rw[r] at mu;exact mu
 by_cases hb:b=x
 ·subst hb;rw[jaf] at q;cases q;exact new
 ·rw[jak hb] at q;by_cases hbe:b=e
  ·have q':H b=some (.own x):=by
    rcases he with z | z
    ·exact absurd (hbe.trans z) hb
    ·rw[hbe];exact z
   rw[q] at q';cases q';obtain⟨v,hv⟩:=heo;exact⟨v,by rw[hbe];exact hv⟩
  ·refine (ok b u q).stay (fun c v hc r=>k c v ?_ r) (fun c r=>by rw[jak (nown c b r)];exact r) fun c xs r=>by rw[jak (ntup c xs r)];exact r
   rcases hc with rfl | hc
   ·exact hbe
   ·rintro rfl;rcases he with z | z
    ·exact nown c b hc z
    ·rw[hc] at z;cases z;exact hb rfl
end
structure Un (fs ex:List Addr) (H H':Hp) (h h':Heap):Prop where
 keep:∀b o,h.get? b=some o->H b=none->b∉fs->b∉ex->h'.get? b=some o
 slot:∀b o,h.get? b=some o->H b=none->b∈fs->b∉ex->∃sl,h'.get? b=some { o with slots:=sl }
 free:∀b o,h.get? b=some o->H b=none->b∉ex->H' b=none
 there:∀b o,h.get? b=some o->b∉ex->∃o',h'.get? b=some o'
 tups:∀b xs,H b=some (.tup xs)->H' b=some (.tup xs)
 frzs:∀b o u,H b=some (.frz o u)->H' b=some (.frz o u)
 tbls:∀b ps,H b=some (.tbl ps)->∃more,H' b=some (.tbl (ps++more))
section
variable {fs fs' ex ex':List Addr} {H H1 H2:Hp} {h h1 h2 h':Heap} {a x e:Addr} {o:HO}
theorem Un.any (u:Un fs ex H H1 h h1) {b:Addr} {ob:Obj} (q:h.get? b=some ob) (n:H b=none) (hx:b∉ex):∃sl,h1.get? b=some { ob with slots:=sl }:=by
 by_cases hb:b∈fs
 ·exact u.slot b ob q n hb hx
 ·exact⟨ob.slots,u.keep b ob q n hb hx⟩
theorem Un.trans (a:Un fs ex H H1 h h1) (b:Un fs ex H1 H2 h1 h2):Un fs ex H H2 h h2 where
 keep:=fun c ob q n hc hx=>b.keep c ob (a.keep c ob q n hc hx) (a.free c ob q n hx) hc hx
 slot:=fun c ob q n hc hx=>by
  obtain⟨sl,e1⟩:=a.slot c ob q n hc hx;obtain⟨sl',e2⟩:=b.slot c _ e1 (a.free c ob q n hx) hc hx;exact⟨sl',e2⟩
 free:=fun c ob q n hx=>by
  obtain⟨o',e1⟩:=a.there c ob q hx;exact b.free c o' e1 (a.free c ob q n hx) hx
 there:=fun c ob q hx=>by
  obtain⟨o',e1⟩:=a.there c ob q hx;exact b.there c o' e1 hx
 tups:=fun c xs q=>b.tups c xs (a.tups c xs q)
 frzs:=fun c ob xs q=>b.frzs c ob xs (a.frzs c ob xs q)
 tbls:=fun c ps q=>by
  obtain⟨m1,e1⟩:=a.tbls c ps q;obtain⟨m2,e2⟩:=b.tbls c _ e1;exact⟨m1++m2,by rw[e2,Array.append_assoc]⟩
theorem Un.kept (k:∀b u,h.get? b=some u->h'.get? b=some u):Un fs ex H H h h' :=
 ⟨fun b ob q _ _ _=>k b ob q,fun b ob q _ _ _=>⟨ob.slots,k b ob q⟩,fun _ _ _ n _=>n,fun b ob q _=>⟨ob,k b ob q⟩,fun _ _ q=>q,fun _ _ _ q=>q,fun _ ps q=>⟨#[],by rw[q];simp⟩⟩
theorem Un.refl:Un fs ex H H h h:=Un.kept fun _ _ q=>q
theorem Un.laid (k:∀b u,h.get? b=some u->h'.get? b=some u) (hp:h.objs.size<=a) (hn:H a=none):Un fs ex H (upd H a o) h h' where
 keep:=fun b u q _ _ _=>k b u q
 slot:=fun b u q _ _ _=>⟨u.slots,k b u q⟩
 free:=fun b u q n _=>by rw[jak (xaz (xah (Heap.lt_size q) hp))];exact n
 there:=fun b u q _=>⟨u,k b u q⟩
 tups:=fun b xs q=>by rw[jak (jal q hn)];exact q
 frzs:=fun b u xs q=>by rw[jak (jal q hn)];exact q
 tbls:=fun b ps q=>⟨#[],by rw[jak (jal q hn),q];simp⟩
theorem Un.write (mu:Mut (H x)) (he:e=x\/H e=some (.own x)) (k:∀b u,b≠e->h.get? b=some u->h'.get? b=some u) (heo:∃u,h'.get? e=some u):Un fs ex H (upd H x o) h h':=by
 have hx:∀b,H b=none->b≠x:=fun b n z=>by subst z;rw[n] at mu;exact mu
 have hb:∀b,H b=none->b≠e:=fun b n z=>by
  subst z;rcases he with r | r
  ·exact hx b n r
  ·rw[n] at r;cases r
 have hm:∀b u,H b=some u->¬Mut (some u)->b≠x:=fun b u q nm z=>by subst z;rw[q] at mu;exact nm mu
 refine⟨fun b u q n _ _=>k b u (hb b n) q,fun b u q n _ _=>⟨u.slots,k b u (hb b n) q⟩,fun b u q n _=>by rw[jak (hx b n)];exact n,fun b u q _=>?_,
  fun b xs q=>by rw[jak (hm b _ q fun z=>z)];exact q,fun b u xs q=>by rw[jak (hm b _ q fun z=>z)];exact q,fun b ps q=>⟨#[],by rw[jak (hm b _ q fun z=>z),q];simp⟩⟩
 by_cases hbe:b=e
 ·subst hbe;exact heo
 ·exact⟨u,k b u hbe q⟩
theorem Un.mono (u:Un fs ex H H1 h h1) (hs:∀b∈fs,b∈fs') (hx:∀b∈ex,b∈ex'):Un fs' ex' H H1 h h1 :=
 ⟨fun b ob q n hb he=>u.keep b ob q n (fun z=>hb (hs b z)) fun z=>he (hx b z),fun _ _ q n _ he=>u.any q n fun z=>he (hx _ z),fun b ob q n he=>u.free b ob q n fun z=>he (hx b z),fun b ob q he=>u.there b ob q fun z=>he (hx b z),u.tups,u.frzs,u.tbls⟩
end
def trk (h:Heap) (H:Hp):List Addr:=(List.range h.objs.size).filter fun a=>(H a).isSome
def jjr (h:Heap) (H:Hp):Heap:=PySem.W.hideAll h (trk h H)
theorem jhR (h:Heap) (H:Hp):(jjr h H).objs.size=h.objs.size:=PySem.W.hideAll_size _ _
theorem jjs {h:Heap} {H:Hp} {b:Addr} {o:Obj} (e:h.get? b=some o) (n:H b=none):(jjr h H).get? b=some o :=
 PySem.W.hideAll_get _ e fun hm=>by
  have q:(H b).isSome=true:=(xa8.mp hm).2;rw[n] at q;simp at q
theorem jln {h:Heap} {H:Hp} {b:Addr} {o:Obj} (e:(jjr h H).get? b=some o):h.get? b=some o/\H b=none:=by
  have e':h.get? b=some o:=PySem.W.of_hideAll (trk h H) e;refine⟨e',?_⟩;cases q:H b with
  | none=>rfl
  | some x =>
    have hm:b∈trk h H:=xa8.mpr ⟨xaN.mpr (Heap.lt_size e'),by simp [q]⟩;have z:(jjr h H).get? b=none:=PySem.W.hideAll_none (trk h H) hm;rw[z] at e;cases e
def jlo (g h:Heap) (L:Addr):List (Addr × Obj):=(List.range h.objs.size).filterMap fun a=>if a=L\/(g.get? a).isSome=true then none else (h.get? a).map fun o=>(a,o)
def jba (g h:Heap) (L d:Addr):List (Addr × Obj):=(jlo g h L).filter fun p=>decide (p.1≠d)
structure Mod (K:PySem.W.Frag) (mg:Str->Option Value) (base:Heap):Prop where
 kin:K.In base
 glob:base.Ns mainGlobals mg
 blt:∃mb,base.Ns builtinsNs mb/\∀x:Str,x≠"__name__"->mb x=bootBuiltins x
 nolimit:base.NoLimit
structure Cx where
 prog:Program
 w:World
 K:PySem.W.Frag
 mg:Str->Option Value
 base:Heap
 A:Around
 N:List Str
 s₀:Shared
 H₀:Hp
 env:Env
 outer:List Env
 stack:List Env
 ex:List Addr
 fn:Str->Bool
 calm:Bool
 pn:List (Addr × Obj)
 xe:Value->Shared->Prop
def frs (l:List Env):List Addr:=l.filterMap (·.frame)
abbrev Cx.fs (X:Cx):List Addr:=frs X.outer
def Vis (sc:Scope) (x:Str):Prop:=sc.names.lookup x=some .local\/sc.names.lookup x=some .cell\/sc.names.lookup x=some .free
def Loc (sc:Scope) (x:Str):Prop:=sc.names.lookup x=some .local\/sc.names.lookup x=some .cell
def Look (env:Env) (h:Heap) (m:Str->Option Value) (x:Str) (u:Value):Prop :=
 (env.kindOf x=some .local/\m x=some u)\/((env.kindOf x=some .cell\/env.kindOf x=some .free)/\∃c,env.cells.lookup x=some c/\h.IsCell c (some u))
structure Cx.Ok (X:Cx):Prop where
 mod:Mod X.K X.mg X.base
 kind:X.env.scope.kind=.function
 glob:X.env.globals=mainGlobals
 blt:X.env.builtins=builtinsNs
 above:X.s₀.heap.objs.size<=X.env.locals
 inj:∀x y c,X.env.cells.lookup x=some c->X.env.cells.lookup y=some c->x=y
 has:∀x,(X.env.kindOf x=some .cell\/X.env.kindOf x=some .free)->∃c,X.env.cells.lookup x=some c
 cab:∀x c,X.fn x=true->X.env.cells.lookup x=some c->X.s₀.heap.objs.size<=c
 hd:X.calm=true->X.A.handled=none
 frames:X.A.frames=some X.stack
 stk:X.stack=X.outer\/(X.stack=X.env::X.outer/\X.env.frame=some X.env.locals)
 exf:∀b∈X.ex,b≠X.env.locals/\∀x c,X.env.cells.lookup x=some c->c≠b
 bs:∀b o,X.base.get? b=some o->X.s₀.heap.get? b=some o/\X.H₀ b=none
 bsz:X.base.objs.size<=X.s₀.heap.objs.size
 noex:∀b o,X.base.get? b=some o->b∉X.ex
 exfs:∀b∈X.ex,b∉X.fs
 funs:X.s₀.heap.FunFrames X.base X.outer
 frf:∀b∈X.fs,X.H₀ b=none
structure Inv (X:Cx) (pins:List (Addr × Obj)) (σ:List (Option V)) (H:Hp) (s:Shared):Prop where
 ok:X.Ok
 os:s.os=X.s₀.os
 bare:AllBare s.gens
 base:Un X.fs X.ex X.H₀ H X.s₀.heap s.heap
 loc:∃m,s.heap.Ns X.env.locals m/\∀(i:Nat) (x:Str) (v:V),X.N[i]?=some x->σ[i]?=some (some v)->Vis X.env.scope x->∃u,RelV v u/\Look X.env s.heap m x u
 cell:∀x c,X.env.cells.lookup x=some c->∃v,s.heap.IsCell c v
 free:H X.env.locals=none
 freeC:∀x c,X.env.cells.lookup x=some c->H c=none
 pin:∀p∈X.pn++pins,s.heap.get? p.1=some p.2/\H p.1=none/\p.1≠X.env.locals/\p.1∉X.fs/\∀v,p.2.data≠.cell v
 hok:HOk X.prog X.w H s.heap
 len:σ.length=X.N.length
section
variable {X:Cx} {pins:List (Addr × Obj)} {σ:List (Option V)} {H H':Hp} {s:Shared} {h':Heap}
theorem Cx.Ok.nofr (ok:X.Ok) {b:Addr} {o:Obj} (e:X.base.get? b=some o):b∉X.fs:=fun hb=>by
 have:=(ok.funs.mem hb).1;rw[e] at this;cases this
theorem Inv.bs (I:Inv X pins σ H s):∀b o,X.base.get? b=some o->s.heap.get? b=some o/\H b=none:=fun b o e =>
 ⟨I.base.keep b o (I.ok.bs b o e).1 (I.ok.bs b o e).2 (I.ok.nofr e) (I.ok.noex b o e),I.base.free b o (I.ok.bs b o e).1 (I.ok.bs b o e).2 (I.ok.noex b o e)⟩
theorem Inv.bk (I:Inv X pins σ H s):∀b o,X.base.get? b=some o->s.heap.get? b=some o:=fun b o e=>(I.bs b o e).1
theorem Inv.mod (I:Inv X pins σ H s):Mod X.K X.mg X.base:=I.ok.mod
theorem Inv.kIn (I:Inv X pins σ H s):X.K.In s.heap:=I.ok.mod.kin.keeps I.bk
theorem Inv.nolimit (I:Inv X pins σ H s):s.heap.NoLimit:=I.ok.mod.nolimit.keeps I.bk
theorem Inv.fr (I:Inv X pins σ H s):∃m,Fr X.base X.env.locals s.heap m :=
 let ⟨m,hn,_⟩:=I.loc
 ⟨m,hn,I.bk,xan I.ok.bsz I.ok.above⟩
theorem Inv.lt (I:Inv X pins σ H s):X.env.locals<s.heap.objs.size:=let ⟨_,hn,_⟩:=I.loc;hn.lt
theorem Inv.sz (I:Inv X pins σ H s):X.s₀.heap.objs.size<=s.heap.objs.size:=xan I.ok.above (xa1 I.lt)
theorem Inv.nofs (I:Inv X pins σ H s) {a:Addr} (h:s.heap.objs.size<=a):a∉X.fs:=fun hb=>by
 obtain⟨_,o,ho,_⟩:=I.ok.funs.mem hb;exact absurd (xah (Heap.lt_size ho) (xan I.sz h)) (xaS _)
theorem Inv.cne (I:Inv X pins σ H s):∀x c,X.env.cells.lookup x=some c->c≠X.env.locals:=fun x c e z=>by
 obtain⟨v,o,ho,hd⟩:=I.cell x c e;obtain⟨m,⟨o',es,ep,ho',hd',_⟩,_⟩:=I.loc;rw[z,ho'] at ho;cases ho;rw[hd'] at hd;cases hd
theorem Inv.funs (I:Inv X pins σ H s):s.heap.FunFrames X.base X.outer:=by
  have all:∀(l:List Env),(∀b∈frs l,b∈X.fs)->X.s₀.heap.FunFrames X.base l->s.heap.FunFrames X.base l:=by
    intro l;induction l with
    | nil=>intro _ _;trivial
    | cons env r ih =>
      intro hs hl;obtain⟨hk,⟨L,o,hf,hn,ho,hd⟩,hr⟩:=hl;have hL:L∈X.fs:=hs L (by unfold frs;rw[xbp,hf];exact xav);obtain⟨sl,e⟩:=I.base.slot L o ho (I.ok.frf L hL) hL fun z=>I.ok.exfs L z hL;exact⟨hk,⟨L,_,hf,hn,e,hd⟩,ih (fun b hb=>hs b (by unfold frs;rw[xbp,hf];exact xaq _ hb)) hr⟩
  exact all X.outer (fun _ hb=>hb) I.ok.funs
theorem Inv.stack (I:Inv X pins σ H s):s.heap.FunFrames X.base X.stack:=by
 rcases I.ok.stk with e | ⟨e,hf⟩
 ·rw[e];exact I.funs
 ·rw[e];obtain⟨m,hn,_⟩:=I.loc;refine .cons (by rw[I.ok.kind];decide) hf hn ?_ I.funs;exact Heap.get?_none_of_le (xan I.ok.bsz I.ok.above)
theorem Inv.stkSub (I:Inv X pins σ H s):∀b∈frs X.stack,b∈X.env.locals::X.fs:=fun b hb=>by
 rcases I.ok.stk with e | ⟨e,hf⟩
 ·rw[e] at hb;exact xaq _ hb
 ·rw[e] at hb;unfold frs at hb;rw[xbp,hf] at hb;exact hb
theorem Inv.stkFree (I:Inv X pins σ H s):∀b∈frs X.stack,H b=none:=fun b hb=>by
 rcases xac.mp (I.stkSub b hb) with e | hb
 ·rw[e];exact I.free
 ·obtain⟨_,o,ho,_⟩:=I.ok.funs.mem hb;exact I.base.free b o ho (I.ok.frf b hb) fun z=>I.ok.exfs b z hb
theorem Inv.step {g':Array GenState} {t':Nat} {d':Drawn} {ch:List Addr} (I:Inv X pins σ H s)
  (hch:∀b∈ch,(b∈X.ex\/X.s₀.heap.objs.size<=b)/\b≠X.env.locals/\(∀x c,X.env.cells.lookup x=some c->c≠b)/\∀p∈X.pn++pins,p.1≠b)
  (keep:∀b o,b≠X.env.locals->b∉X.fs->b∉ch->s.heap.get? b=some o->H b=none->h'.get? b=some o)
  (slot:∀b o,b≠X.env.locals->b∈X.fs->b∉ch->s.heap.get? b=some o->H b=none->∃sl,h'.get? b=some { o with slots:=sl }) (free:∀b o,b∉ch->s.heap.get? b=some o->H b=none->H' b=none)
  (there:∀b o,b∉ch->s.heap.get? b=some o->∃o',h'.get? b=some o')
  (tups:∀b xs,H b=some (.tup xs)->H' b=some (.tup xs)) (frzs:∀b o u,H b=some (.frz o u)->H' b=some (.frz o u)) (tbls:∀b ps,H b=some (.tbl ps)->∃more,H' b=some (.tbl (ps++more)))
  (ns:∀m,s.heap.Ns X.env.locals m->h'.Ns X.env.locals m) (hok:HOk X.prog X.w H' h') (hg:AllBare g') :
  Inv X pins σ H' { s with heap:=h',gens:=g',drawn:=d',toks:=t' }:=by
 have neL:∀b o,X.s₀.heap.get? b=some o->b≠X.env.locals:=fun b o e=>xaz (xah (Heap.lt_size e) I.ok.above);have neC:∀b o,X.s₀.heap.get? b=some o->b∉X.ex->b∉ch:=fun b o e hx hb=>by
  rcases (hch b hb).1 with z | z
  ·exact hx z
  ·exact absurd (xah (Heap.lt_size e) z) (xaS _)
 have cellK:∀x c,X.env.cells.lookup x=some c->∀v,s.heap.IsCell c v->h'.IsCell c v:=fun x c e v ⟨o,ho,hd⟩=>by
  have nch:c∉ch:=fun z=>(hch c z).2.2.1 x c e rfl;by_cases hc:c∈X.fs
  ·obtain⟨sl,q⟩:=slot c o (I.cne x c e) hc nch ho (I.freeC x c e);exact⟨_,q,hd⟩
  ·exact⟨o,keep c o (I.cne x c e) hc nch ho (I.freeC x c e),hd⟩
 refine⟨I.ok,I.os,hg,⟨fun b o e n hb hx=>?_,fun b o e n hb hx=>?_,fun b o e n hx=>?_,fun b o e hx=>?_,fun b xs e=>tups b xs (I.base.tups b xs e),fun b o xs e=>frzs b o xs (I.base.frzs b o xs e),fun b ps e=>?_⟩,?_,fun x c e=>?_,?_,fun x c e=>?_,fun p hp=>?_,hok,I.len⟩
 ·exact keep b o (neL b o e) hb (neC b o e hx) (I.base.keep b o e n hb hx) (I.base.free b o e n hx)
 ·obtain⟨sl,e1⟩:=I.base.slot b o e n hb hx;obtain⟨sl',e2⟩:=slot b _ (neL b o e) hb (neC b o e hx) e1 (I.base.free b o e n hx);exact⟨sl',e2⟩
 ·obtain⟨o',e1⟩:=I.base.there b o e hx;exact free b o' (neC b o e hx) e1 (I.base.free b o e n hx)
 ·obtain⟨o',e1⟩:=I.base.there b o e hx;exact there b o' (neC b o e hx) e1
 ·obtain⟨m1,e1⟩:=I.base.tbls b ps e;obtain⟨m2,e2⟩:=tbls b _ e1;exact⟨m1++m2,by rw[e2,Array.append_assoc]⟩
 ·obtain⟨m,hn,hl⟩:=I.loc;refine⟨m,ns m hn,fun i x v e1 e2 e3=>?_⟩;obtain⟨u,r,l⟩:=hl i x v e1 e2 e3;refine⟨u,r,?_⟩;rcases l with l | ⟨k,c,e,z⟩
  ·exact .inl l
  ·exact .inr ⟨k,c,e,cellK x c e _ z⟩
 ·obtain⟨v,z⟩:=I.cell x c e;exact⟨v,cellK x c e v z⟩
 ·obtain⟨m,⟨o,_,_,ho,_⟩,_⟩:=I.loc;exact free _ o (fun z=>(hch _ z).2.1 rfl) ho I.free
 ·obtain⟨v,o,ho,hd⟩:=I.cell x c e;exact free c o (fun z=>(hch c z).2.2.1 x c e rfl) ho (I.freeC x c e)
 ·obtain⟨e,n,ne,nf,d⟩:=I.pin p hp;have nch:p.1∉ch:=fun z=>(hch p.1 z).2.2.2 p hp rfl;exact⟨keep p.1 p.2 ne nf nch e n,free p.1 p.2 nch e n,ne,nf,d⟩
theorem Inv.un {t':Nat} (I:Inv X pins σ H s) (u:Un X.fs [] H H' s.heap h') (hok:HOk X.prog X.w H' h'):Inv X pins σ H' { s with heap:=h',toks:=t' }:=by
 obtain⟨m,⟨o,es,ep,ho,r⟩,_⟩:=id I.loc;obtain⟨sl,hL⟩:=u.any ho I.free (by simp);exact I.step (g':=s.gens) (d':=s.drawn) (ch:=[]) (fun _ z=>nomatch z) (fun b o _ hb _ e n=>u.keep b o e n hb (by simp)) (fun b o _ hb _ e n=>u.slot b o e n hb (by simp)) (fun b o _ e n=>u.free b o e n (by simp)) (fun b o _ e=>u.there b o e (by simp)) u.tups u.frzs u.tbls (fun m' hm=>by
  obtain⟨o',es',ep',ho',r'⟩:=hm;rw[ho] at ho';cases ho';exact⟨_,es',ep',hL,r'⟩) hok I.bare
theorem Inv.call {g':Array GenState} {t':Nat} {d':Drawn} {ch:List Addr} (I:Inv X pins σ H s) (u:Un (frs X.stack) ch H H' s.heap h') (hok:HOk X.prog X.w H' h') (hg:AllBare g')
  (hch:∀b∈ch,(b∈X.ex\/X.s₀.heap.objs.size<=b)/\b≠X.env.locals/\(∀x c,X.env.cells.lookup x=some c->c≠b)/\∀p∈X.pn++pins,p.1≠b) :
  Inv X pins σ H' { s with heap:=h',gens:=g',drawn:=d',toks:=t' }:=by
 obtain⟨m,⟨o,es,ep,ho,r⟩,_⟩:=id I.loc;obtain⟨sl,hL⟩:=u.any ho I.free fun z=>(hch _ z).2.1 rfl;exact I.step (ch:=ch) hch (fun b o hL hb hc e n=>u.keep b o e n (fun z=>(xac.mp (I.stkSub b z)).elim hL hb) hc) (fun b o _ _ hc e n=>u.any e n hc) (fun b o hc e n=>u.free b o e n hc) (fun b o hc e=>u.there b o e hc) u.tups u.frzs u.tbls (fun m' hm=>by
  obtain⟨o',es',ep',ho',r'⟩:=hm;rw[ho] at ho';cases ho';exact⟨_,es',ep',hL,r'⟩) hok hg
theorem Inv.turned {t':Nat} {it:Addr} (I:Inv X pins σ H s) (k:∀b o,b≠it->s.heap.get? b=some o->h'.get? b=some o) (hn:H it=none) (hL:it≠X.env.locals)
  (h1:it∈X.ex\/X.s₀.heap.objs.size<=it) (h2:∀x c,X.env.cells.lookup x=some c->c≠it) (h3:∀p∈X.pn++pins,p.1≠it):Inv X pins σ H { s with heap:=h',toks:=t' }:=by
 have nit:∀b u,H b=some u->b≠it:=fun b u e z=>by rw[z,hn] at e;cases e
 refine I.step (g':=s.gens) (d':=s.drawn) (ch:=[it]) (fun b hb=>?_) (fun b o _ _ hc e _=>k b o (fun z=>hc (by simp [z])) e) (fun b o _ _ hc e _=>⟨o.slots,k b o (fun z=>hc (by simp [z])) e⟩) (fun _ _ _ _ n=>n)
  (fun b o hc e=>⟨o,k b o (fun z=>hc (by simp [z])) e⟩) (fun _ _ e=>e) (fun _ _ _ e=>e) (fun b ps e=>⟨#[],by rw[e];simp⟩) (fun m hm=>?_) (fun b u e=>?_) I.bare
 ·have e:b=it:=by simpa using hb
  subst e;exact⟨h1,hL,h2,h3⟩
 ·obtain⟨o,es,ep,ho,r⟩:=hm;exact⟨o,es,ep,k _ o (Ne.symm hL) ho,r⟩
 ·refine (I.hok b u e).stay (fun c v hc q=>k c v ?_ q) (fun _ q=>q) fun _ _ q=>q;rcases hc with z | z
  ·rw[z];exact nit b u e
  ·exact nit c _ z
theorem Inv.tok (I:Inv X pins σ H s) (t:Nat):Inv X pins σ H { s with toks:=t }:=I.un (h':=s.heap) (t':=t) Un.refl I.hok
theorem Inv.kept {t':Nat} (I:Inv X pins σ H s) (k:∀b u,s.heap.get? b=some u->h'.get? b=some u):Inv X pins σ H { s with heap:=h',toks:=t' }:=I.un (Un.kept k) (I.hok.kept k)
theorem Inv.laid {a:Addr} {o:HO} {t':Nat} (I:Inv X pins σ H s) (k:∀b u,s.heap.get? b=some u->h'.get? b=some u) (hp:s.heap.objs.size<=a) (new:ObjOk X.prog X.w (upd H a o) h' a o) :
  Inv X pins σ (upd H a o) { s with heap:=h',toks:=t' }:=I.un (Un.laid k hp (I.hok.fresh hp)) (I.hok.laid k hp new)
theorem Inv.write {x e:Addr} {o:HO} {t':Nat} (I:Inv X pins σ H s) (mu:Mut (H x)) (he:e=x\/H e=some (.own x)) (k:∀b u,b≠e->s.heap.get? b=some u->h'.get? b=some u) (heo:∃u,h'.get? e=some u)
  (new:ObjOk X.prog X.w (upd H x o) h' x o):Inv X pins σ (upd H x o) { s with heap:=h',toks:=t' }:=I.un (Un.write mu he k heo) (I.hok.write mu he k heo new)
theorem Inv.pins_of {pins':List (Addr × Obj)} (I:Inv X pins σ H s) (h:∀p∈pins',s.heap.get? p.1=some p.2/\H p.1=none/\p.1≠X.env.locals/\p.1∉X.fs/\∀v,p.2.data≠.cell v):Inv X pins' σ H s :=
 ⟨I.ok,I.os,I.bare,I.base,I.loc,I.cell,I.free,I.freeC,fun p hp=>(xay.mp hp).elim (fun z=>I.pin p (xbk _ z)) (h p),I.hok,I.len⟩
theorem jgF {N:List Str} (hN:N.Nodup) {i j:Nat} {x:Str} (a:N[i]?=some x) (b:N[j]?=some x):i=j:=by
 obtain⟨h1,e1⟩:=xaj.mp a;obtain⟨h2,e2⟩:=xaj.mp b;exact (List.getElem_inj hN).mp (e1.trans e2.symm)
theorem jfE {M:Model} {A:Around} {E:Value->Shared->Prop} {i:Nat} {x:Str} {v:V} {u:Value} {Q:Unit->Shared->Prop} (I:Inv X pins σ H s) (hN:X.N.Nodup) (hi:X.N[i]?=some x) (hx:Loc X.env.scope x) (r:RelV v u)
  (h:∀s',Inv X pins (σ.set i (some v)) H s'->(∃a,Heap.SameBut a s.heap s'.heap/\(a=X.env.locals\/X.env.cells.lookup x=some a))->Q () s') (hf:X.fn x=true\/X.env.scope.names.lookup x=some .local:=by first | exact .inl rfl | exact .inr rfl | assumption):wpAny M A (storeName X.env x u) Q E s:=by
 obtain⟨m,hn,hl⟩:=id I.loc;have hcls:(X.env.scope.kind==.class||(X.env.scope.kind==.module&&X.env.locals != X.env.globals))=false:=by rw[I.ok.kind];rfl
 have hiσ:i<σ.length:=by rw[I.len];exact (xaj.mp hi).1
 have cne:=I.cne;have tracked:∀{a:Addr} {h':Heap},(∃o,s.heap.get? a=some o/\H a=none)->Heap.SameBut a s.heap h'->HOk X.prog X.w H h':=fun {a h'} ha hs b ob e=>by
  obtain⟨_,_,hfree⟩:=ha;refine (I.hok b ob e).stay (fun c w' hc q=>(hs.2 c ?_).trans q) (fun _ q=>q) fun _ _ q=>q;rintro rfl;rcases hc with rfl | hc
  ·rw[hfree] at e;cases e
  ·rw[hfree] at hc;cases hc
 rcases hx with hk | hk
 ·refine wpAny_storeName_local hk hn (fun h' hn' hs=>?_) hcls;obtain⟨oL,_,_,hoL,_⟩:=id hn;refine h _ ⟨I.ok,I.os,I.bare,⟨fun b o e n hb hx=>?_,fun b o e n hb hx=>?_,I.base.free,fun b o e hx=>?_,I.base.tups,I.base.frzs,I.base.tbls⟩,⟨_,hn',fun j y v' e1 e2 e3=>?_⟩,fun y c e=>?_,I.free,I.freeC,fun p hp=>?_,tracked ⟨oL,hoL,I.free⟩ hs,by simpa using I.len⟩ ⟨_,hs,.inl rfl⟩
  ·exact (hs.2 b (xaz (xah (Heap.lt_size e) I.ok.above))).trans (I.base.keep b o e n hb hx)
  ·obtain⟨sl,e1⟩:=I.base.slot b o e n hb hx;exact⟨sl,(hs.2 b (xaz (xah (Heap.lt_size e) I.ok.above))).trans e1⟩
  ·obtain⟨o',e1⟩:=I.base.there b o e hx;exact⟨o',(hs.2 b (xaz (xah (Heap.lt_size e) I.ok.above))).trans e1⟩
  ·by_cases hj:j=i
   ·subst hj;rw[hi] at e1;cases e1;rw[List.getElem?_set_self hiσ] at e2;cases e2;exact⟨u,r,.inl ⟨hk,by simp⟩⟩
   ·rw[List.getElem?_set_ne (Ne.symm hj)] at e2;obtain⟨u',r',q⟩:=hl j y v' e1 e2 e3;refine⟨u',r',?_⟩;rcases q with ⟨k,e⟩ | ⟨k,c,e,z⟩
    ·refine .inl ⟨k,?_⟩;have:y≠x:=fun e=>hj (jgF hN e1 (e▸hi));simp [this,e]
    ·exact .inr ⟨k,c,e,z.sameBut hs (cne y c e)⟩
  ·obtain⟨w',z⟩:=I.cell y c e;exact⟨w',z.sameBut hs (cne y c e)⟩
  ·obtain⟨e,n,ne,nf,d⟩:=I.pin p hp;exact⟨(hs.2 p.1 ne).trans e,n,ne,nf,d⟩
 ·have hfn:X.fn x=true:=by
   rcases hf with z | z
   ·exact z
   ·rw[z] at hk;cases hk
  obtain⟨c,hc⟩:=I.ok.has x (.inl hk);obtain⟨w',z⟩:=I.cell x c hc;refine wpAny_storeName_cell I.ok.kind hk hc z (fun h' hc' hs=>?_);obtain⟨oc,hoc,hocd⟩:=id z;refine h { s with heap:=h' } ⟨I.ok,I.os,I.bare,⟨fun b o e n hb hx=>?_,fun b o e n hb hx=>?_,I.base.free,fun b o e hx=>?_,I.base.tups,I.base.frzs,I.base.tbls⟩,⟨m,hn.sameBut hs (Ne.symm (cne x c hc)),fun j y v' e1 e2 e3=>?_⟩,fun y c' e=>?_,I.free,I.freeC,fun p hp=>?_,tracked ⟨oc,hoc,I.freeC x c hc⟩ hs,by simpa using I.len⟩ ⟨c,hs,.inr hc⟩
  ·exact (hs.2 b (xaz (xah (Heap.lt_size e) (I.ok.cab x c hfn hc)))).trans (I.base.keep b o e n hb hx)
  ·obtain⟨sl,e1⟩:=I.base.slot b o e n hb hx;exact⟨sl,(hs.2 b (xaz (xah (Heap.lt_size e) (I.ok.cab x c hfn hc)))).trans e1⟩
  ·obtain⟨o',e1⟩:=I.base.there b o e hx;exact⟨o',(hs.2 b (xaz (xah (Heap.lt_size e) (I.ok.cab x c hfn hc)))).trans e1⟩
  ·by_cases hj:j=i
   ·subst hj;rw[hi] at e1;cases e1;rw[List.getElem?_set_self hiσ] at e2;cases e2;exact⟨u,r,.inr ⟨.inl hk,c,hc,hc'⟩⟩
   ·rw[List.getElem?_set_ne (Ne.symm hj)] at e2;obtain⟨u',r',q⟩:=hl j y v' e1 e2 e3;refine⟨u',r',?_⟩;rcases q with q | ⟨k,c',e,z'⟩
    ·exact .inl q
    ·refine .inr ⟨k,c',e,z'.sameBut hs ?_⟩;rintro rfl;exact hj (jgF hN e1 (I.ok.inj _ _ _ e hc▸hi))
  ·by_cases hcc:c'=c
   ·subst hcc;exact⟨_,hc'⟩
   ·obtain⟨w2,z2⟩:=I.cell y c' e;exact⟨w2,z2.sameBut hs hcc⟩
  ·obtain⟨e,n,ne,nf,d⟩:=I.pin p hp;refine⟨(hs.2 p.1 ?_).trans e,n,ne,nf,d⟩;intro q;rw[q,hoc] at e;have q':oc=p.2:=Option.some.inj e;exact d w' (by rw[<- q'];exact hocd)
theorem jd8 {M:Model} {A:Around} {E:Value->Shared->Prop} {i:Nat} {x:Str} {v:V} {u:Value} {Q:Unit->Shared->Prop} (I:Inv X pins σ H s) (hN:X.N.Nodup) (hi:X.N[i]?=some x) (hx:Loc X.env.scope x) (r:RelV v u)
  (h:∀s',Inv X pins (σ.set i (some v)) H s'->Q () s') (hf:X.fn x=true\/X.env.scope.names.lookup x=some .local:=by first | exact .inl rfl | exact .inr rfl | assumption):wpAny M A (storeName X.env x u) Q E s :=
 jfE I hN hi hx r (fun s' I' _=>h s' I') hf
theorem Inv.call' {s':Shared} {ch:List Addr} (I:Inv X pins σ H s) (ho:s'.os=s.os) (u:Un (frs X.stack) ch H H' s.heap s'.heap) (hok:HOk X.prog X.w H' s'.heap) (hg:AllBare s'.gens)
  (hch:∀b∈ch,(b∈X.ex\/X.s₀.heap.objs.size<=b)/\b≠X.env.locals/\(∀x c,X.env.cells.lookup x=some c->c≠b)/\∀p∈X.pn++pins,p.1≠b):Inv X pins σ H' s':=by
 obtain⟨h',g',d',t',o'⟩:=s';have e:o'=s.os:=ho;subst e;exact I.call (g':=g') (t':=t') (d':=d') u hok hg hch
end
abbrev XK:=Value->Option Addr->Hp->Prop
abbrev St:=List (Option V)
abbrev VK:=V->Hp->Prop
abbrev TE:=St->Hp->VK->Prop
abbrev TT:=St->Hp->(Bool->Hp->Prop)->Prop
abbrev TA:=St->Hp->(List V->Hp->Prop)->Prop
structure Ends where
 nx:St->Hp->Prop
 rt:VK
 bk:St->Hp->Prop:=fun _ _=>False
 ct:St->Hp->Prop:=fun _ _=>False
abbrev TS:=Ends->St->Hp->Prop
def EP (X:Cx) (pins:List (Addr × Obj)) (σ:St) (Q:VK) (u:Value) (s':Shared):Prop:=∃v H',Inv X pins σ H' s'/\RelV v u/\Q v H'
def TP (X:Cx) (pins:List (Addr × Obj)) (σ:St) (Q:Bool->Hp->Prop) (b:Bool) (s':Shared):Prop:=∃H',Inv X pins σ H' s'/\Q b H'
def AP (X:Cx) (pins:List (Addr × Obj)) (σ:St) (Q:List V->Hp->Prop) (us:List Value) (s':Shared):Prop:=∃vs H',Inv X pins σ H' s'/\Vals vs us/\Q vs H'
def SP (X:Cx) (pins:List (Addr × Obj)) (D:Ends) (f:Flow) (s':Shared):Prop :=
 match f with
 | .next=>∃σ' H',Inv X pins σ' H' s'/\D.nx σ' H'
 | .brk=>∃σ' H',Inv X pins σ' H' s'/\D.bk σ' H'
 | .cont=>∃σ' H',Inv X pins σ' H' s'/\D.ct σ' H'
 | .ret u=>∃v σ' H',Inv X pins σ' H' s'/\RelV v u/\D.rt v H'
def PE (X:Cx) (e:Expr) (t:TE):Prop :=
 ∀(pins:List (Addr × Obj)) (s:Shared) (σ:St) (H:Hp) (Q:VK),Inv X pins σ H s->t σ H Q->wpAny (model X.prog X.w) X.A (eval e X.env) (EP X pins σ Q) X.xe s
def PT (X:Cx) (e:Expr) (t:TT):Prop :=
 ∀(pins:List (Addr × Obj)) (s:Shared) (σ:St) (H:Hp) (Q:Bool->Hp->Prop),Inv X pins σ H s->t σ H Q->wpAny (model X.prog X.w) X.A (isTrue e X.env (eval e X.env)) (TP X pins σ Q) X.xe s
def PW (X:Cx) (e:Expr) (t:TT):Prop :=
 ∀(whole:Sem Value) (pins:List (Addr × Obj)) (s:Shared) (σ:St) (H:Hp) (Q:Bool->Hp->Prop),Inv X pins σ H s->t σ H Q->wpAny (model X.prog X.w) X.A (isTrue e X.env whole) (TP X pins σ Q) X.xe s
theorem PW.pt {X:Cx} {e:Expr} {t:TT} (h:PW X e t):PT X e t:=h _
def PA (X:Cx) (es:List Expr) (t:TA):Prop :=
 ∀(pos:Pos) (pins:List (Addr × Obj)) (s:Shared) (σ:St) (H:Hp) (Q:List V->Hp->Prop),Inv X pins σ H s->t σ H Q->wpAny (model X.prog X.w) X.A (spliced (backTo pos (starEach es X.env))) (AP X pins σ Q) X.xe s
def PS (X:Cx) (st:Stmt) (t:TS):Prop :=
 ∀(pins:List (Addr × Obj)) (s:Shared) (σ:St) (H:Hp) (D:Ends),Inv X pins σ H s->t D σ H->wpAny (model X.prog X.w) X.A (exec st X.env) (SP X pins D) X.xe s
def PSs (X:Cx) (st:List Stmt) (t:TS):Prop :=
 ∀(pins:List (Addr × Obj)) (s:Shared) (σ:St) (H:Hp) (D:Ends),Inv X pins σ H s->t D σ H->wpAny (model X.prog X.w) X.A (execs st X.env) (SP X pins D) X.xe s
theorem thn {α:Type} {t:Sem α} {Q Q':α->Shared->Prop} {M:Model} {A:Around} {E:Value->Shared->Prop} {s:Shared} (h:wpAny M A t Q E s) (hQ:∀a s,Q a s->Q' a s):wpAny M A t Q' E s:=wpAny_mono h hQ fun _ _ x=>x
section
variable {X:Cx}
def jjp (i:Nat):TE:=fun σ H Q=>∃v,σ[i]?=some (some v)/\Q v H
def tC (v:V):TE:=fun _ H Q=>Q v H
theorem jmN {i:Nat} {x:Str} {pos:Pos} (hN:X.N[i]?=some x) (hv:Vis X.env.scope x) (hd:(x==("__debug__":Str))=false:=by decide) (hcd:(x==("__classdict__":Str))=false:=by decide):PE X (.Name x pos) (jjp i):=by
 intro pins s σ H Q I h;obtain⟨v,e,h⟩:=h;obtain⟨m,hn,hl⟩:=I.loc;obtain⟨u,r,l⟩:=hl i x v hN e hv;have fin:EP X pins σ Q u s:=⟨v,H,I,r,h⟩;rcases l with ⟨hk,hm⟩ | ⟨hk,c,hc,hcell⟩
 ·exact wpAny_Name (wpAny_loadName_local I.ok.kind hk hn hm fin) hd
 ·rcases hk with hk | hk
  ·exact wpAny_Name (wpAny_loadName_cell I.ok.kind hk hc hcell fin) hd
  ·exact wpAny_Name (wpAny_loadName_free I.ok.kind hk hc hcell fin hcd) hd
theorem jab {i j pos}:PE X (.Constant (.int i) j pos) (tC (.int i)):=fun _ _ _ H _ I h=>wpAny_Constant_int ⟨.int i,H,I.tok _,⟨_,rfl⟩,h⟩
theorem jcM {b j pos}:PE X (.Constant (.bool b) j pos) (tC (.bl b)):=fun _ _ _ H _ I h=>Constant_bool ⟨.bl b,H,I,rfl,h⟩
theorem jmO {j pos}:PE X (.Constant .none j pos) (tC .non):=fun _ _ _ H _ I h=>Constant_none ⟨.non,H,I,rfl,h⟩
theorem jaC {x j pos}:PE X (.Constant (.str x) j pos) (tC (.str x)):=fun _ _ _ H _ I h=>Calls.Constant_str ⟨.str x,H,I.tok _,⟨_,rfl⟩,h⟩
def Gl (X:Cx) (x:Str):Prop:=X.env.kindOf x=some .globalImplicit
theorem jei {E:Value->Shared->Prop} {pins:List (Addr × Obj)} {s:Shared} {σ:St} {H:Hp} {x:Str} {u:Value} {pos:Pos} {Q:Value->Shared->Prop} (I:Inv X pins σ H s) (hg:Gl X x) (hm:X.mg x=some u) (h:Q u s)
  (hd:(x==("__debug__":Str))=false:=by decide):wpAny (model X.prog X.w) X.A (eval (.Name x pos) X.env) Q E s :=
 Calls.Name_function_global I.ok.kind hg (Calls.loadGlobal_global (by rw[I.ok.glob];exact I.mod.glob.keeps I.bk) hm h) hd
theorem jdj {E:Value->Shared->Prop} {pins:List (Addr × Obj)} {s:Shared} {σ:St} {H:Hp} {x:Str} {u:Value} {pos:Pos} {Q:Value->Shared->Prop} (I:Inv X pins σ H s) (hg:Gl X x) (hm:X.mg x=none) (hv:bootBuiltins x=some u) (h:Q u s)
  (hn:x≠"__name__":=by decide) (hd:(x==("__debug__":Str))=false:=by decide):wpAny (model X.prog X.w) X.A (eval (.Name x pos) X.env) Q E s:=by
 obtain⟨mb,h1,h2⟩:=I.mod.blt;exact Calls.Name_function_global I.ok.kind hg (Calls.loadGlobal_builtin (by rw[I.ok.glob];exact I.mod.glob.keeps I.bk) hm (by rw[I.ok.blt];exact h1.keeps I.bk) ((h2 x hn).trans hv) h) hd
theorem jc5 {x:Str} {v:V} {u:Value} {pos:Pos} (hg:Gl X x) (hm:X.mg x=some u) (r:RelV v u) (hd:(x==("__debug__":Str))=false:=by decide):PE X (.Name x pos) (tC v) :=
 fun _ _ _ H _ I h=>jei I hg hm ⟨v,H,I,r,h⟩ hd
theorem jhS {x:Str} {v:V} {u:Value} {pos:Pos} (hg:Gl X x) (hm:X.mg x=none) (hv:bootBuiltins x=some u) (r:RelV v u) (hn:x≠"__name__":=by decide) (hd:(x==("__debug__":Str))=false:=by decide):PE X (.Name x pos) (tC v) :=
 fun _ _ _ H _ I h=>jdj I hg hm hv ⟨v,H,I,r,h⟩ hn hd
variable {a b:Expr} {ta tb:TE} {pos:Pos}
def tB (t:TE):TT:=fun σ H Q=>t σ H fun x H1=>∃c,x=.bl c/\Q c H1
theorem jbR {e:Expr} {t:TE} (h:PE X e t) (he:∀whole,isTrue e X.env whole=(do let v <- whole;standAt e.pos;holding [v] (truthy v)):=by intro _;rfl):PT X e (tB t):=by
 intro pins s σ H Q I hw;refine isTrue_plain (thn (h pins s σ H _ I hw) fun v s1 ⟨x,H1,I1,r1,q1⟩=>?_) (he _);obtain⟨d,rfl,q⟩:=q1;cases r1;exact wpAny_truthy_bool ⟨H1,I1,q⟩
variable {tA tB':TT} {jba:List Expr}
def jmP (t u:TT):TT:=fun σ H Q=>t σ H fun c H1=>if c=true then u σ H1 Q else Q false H1
def tOr (t u:TT):TT:=fun σ H Q=>t σ H fun c H1=>if c=true then Q true H1 else u σ H1 Q
def jmQ (t:TT):TT:=fun σ H Q=>t σ H fun c H1=>Q (!c) H1
theorem jhT (ha:PT X a tA):PW X (.BoolOp .And [a] pos) tA:=by
 intro wh pins s σ H Q I h;refine isTrue_and (thn (ha pins s σ H Q I h) fun c s1 e=>?_);cases c with
 | true=>exact isTrue_and_nil e
 | false=>exact e
theorem jcP (ha:PT X a tA):PW X (.BoolOp .Or [a] pos) tA:=by
 intro wh pins s σ H Q I h;refine isTrue_or (thn (ha pins s σ H Q I h) fun c s1 e=>?_);cases c with
 | false=>exact isTrue_or_nil e
 | true=>exact e
theorem jhU (ha:PT X a tA) (hb:PW X (.BoolOp .And (b::jba) pos) tB'):PW X (.BoolOp .And (a::b::jba) pos) (jmP tA tB'):=by
 intro wh pins s σ H Q I h;refine isTrue_and (thn (ha pins s σ H _ I h) fun c s1 ⟨H1,I1,q1⟩=>?_);cases c with
 | true=>exact hb wh pins s1 σ H1 Q I1 q1
 | false=>exact⟨H1,I1,q1⟩
theorem jd4 (ha:PT X a tA) (hb:PW X (.BoolOp .Or (b::jba) pos) tB'):PW X (.BoolOp .Or (a::b::jba) pos) (tOr tA tB'):=by
 intro wh pins s σ H Q I h;refine isTrue_or (thn (ha pins s σ H _ I h) fun c s1 ⟨H1,I1,q1⟩=>?_);cases c with
 | true=>exact⟨H1,I1,q1⟩
 | false=>exact hb wh pins s1 σ H1 Q I1 q1
theorem jcQ (ha:PT X a tA):PT X (.UnaryOp .Not a pos) (jmQ tA):=by
 intro pins s σ H Q I h;exact isTrue_not (ha pins s σ H (fun c H1=>Q (!c) H1) I h)
def jhV (ta tb:TE):TE:=fun σ H Q=>ta σ H fun x H1=>∃c,x=.bl c/\if c=true then tb σ H1 Q else Q (.bl false) H1
def tOrV (ta tb:TE):TE:=fun σ H Q=>ta σ H fun x H1=>∃c,x=.bl c/\if c=true then Q (.bl true) H1 else tb σ H1 Q
def jjt (ta:TE):TE:=fun σ H Q=>ta σ H fun x H1=>∃c,x=.bl c/\Q (.bl (!c)) H1
theorem jkz {op} {t:TE} (h:PE X a t):PE X (.BoolOp op [a] pos) t:=fun pins s σ H Q I hw=>BoolOp_one (h pins s σ H Q I hw)
theorem jkA (ha:PE X a ta) (hb:PE X (.BoolOp .And (b::jba) pos) tb):PE X (.BoolOp .And (a::b::jba) pos) (jhV ta tb):=by
 intro pins s σ H Q I h;refine BoolOp_and (thn (ha pins s σ H _ I h) fun v s1 ⟨x,H1,I1,r1,q1⟩=>?_);obtain⟨c,rfl,q1⟩:=q1;cases r1;refine wpAny_truthy_bool ?_;cases c with
 | true=>exact hb pins s1 σ H1 Q I1 q1
 | false=>exact⟨.bl false,H1,I1,rfl,q1⟩
def tIf (t:TT) (ta tb:TE):TE:=fun σ H Q=>t σ H fun c H1=>if c=true then ta σ H1 Q else tb σ H1 Q
theorem jd9 {c:Expr} (hc:PT X c tA) (ha:PE X a ta) (hb:PE X b tb):PE X (.IfExp c a b pos) (tIf tA ta tb):=by
 intro pins s σ H Q I h;refine wpAny_IfExp (thn (hc pins s σ H _ I h) fun d s1 ⟨H1,I1,q1⟩=>?_);cases d with
 | true=>exact ha pins s1 σ H1 Q I1 q1
 | false=>exact hb pins s1 σ H1 Q I1 q1
end
def SqL (K:PySem.W.Frag) (H:Hp) (a:Addr) (xs:List V):Prop :=
 Rd H a (.lst xs) \/
  ∃(o:Obj) (its:Array Value) (n:Nat),K.lookup a=some o/\o.cls=.type "list"/\o.dict=none/\o.data=.seq its n/\its.size<=sizeLine/\Vals xs its.toList
def SqT (K:PySem.W.Frag) (H:Hp) (a:Addr) (xs:List V):Prop :=
 Rd H a (.tup xs) \/
  ∃(o:Obj) (its:Array Value) (n:Nat),K.lookup a=some o/\o.cls=.type "tuple"/\o.data=.seq its n/\its.size<=sizeLine/\Vals xs its.toList
def absV:Value->Option V
 | .none=>some .non
 | .bool b=>some (.bl b)
 | .int i _=>some (.int i)
 | .str x _=>some (.str x)
 | .bytes b _=>some (.byt b)
 | .float b _=>some (.flt b)
 | .ref a=>some (.ref a)
 | .type n=>some (.ty n)
 | _=>none
theorem RelV.abs {x:V} {u:Value} (r:RelV x u):absV u=some x:=by
 cases x with
 | non=>cases r;rfl
 | bl _=>cases r;rfl
 | int _=>obtain⟨t,rfl⟩:=r;rfl
 | str _=>obtain⟨t,rfl⟩:=r;rfl
 | byt _=>obtain⟨t,rfl⟩:=r;rfl
 | flt _=>obtain⟨t,rfl⟩:=r;rfl
 | ref _=>cases r;rfl
 | ty _=>cases r;rfl
theorem RelV.inj {x y:V} {u:Value} (r:RelV x u) (q:RelV y u):x=y:=Option.some.inj (r.abs.symm.trans q.abs)
theorem Vals.inj:∀{xs ys:List V} {us:List Value},Vals xs us->Vals ys us->xs=ys
 | _,_,_,.nil,.nil=>rfl
 | _,_,_,.cons r t,.cons r' t'=>by rw[r.inj r',Vals.inj t t']
section
variable {X:Cx} {pins:List (Addr × Obj)} {σ:St} {H:Hp} {s:Shared} {a:Addr} {xs ys:List V}
theorem SqL.of {K:PySem.W.Frag} (h:H a=some (.lst xs)):SqL K H a xs:=.inl (.inl h)
theorem SqT.of {K:PySem.W.Frag} (h:H a=some (.tup xs)):SqT K H a xs:=.inl (.inl h)
theorem Inv.list (I:Inv X pins σ H s) (h:SqL X.K H a xs):∃its:List Value,Vals xs its/\PlainL s.heap a its.toArray/\xs.length<=sizeLine:=by
 rcases h with h | ⟨o,its,n,hk,hc,hd,hs,hz,r⟩
 ·obtain⟨z,its,n,r,e⟩:=h.ok I.hok;exact⟨its,r,⟨_,n,e,rfl,rfl,rfl⟩,z⟩
 ·refine⟨its.toList,r,⟨o,n,I.kIn a o hk,hc,hd,by simpa using hs⟩,?_⟩;have e:=r.length;simp only[Array.length_toList] at e;omega
theorem Inv.tuple (I:Inv X pins σ H s) (h:SqT X.K H a xs):∃its:List Value,Vals xs its/\IsTup s.heap a its.toArray/\xs.length<=sizeLine:=by
 rcases h with h | ⟨o,its,n,hk,hc,hs,hz,r⟩
 ·obtain⟨z,its,r,p⟩:=h.ok I.hok;exact⟨its,r,p,z⟩
 ·refine⟨its.toList,r,⟨o,I.kIn a o hk,hc,n,by simpa using hs⟩,?_⟩;have e:=r.length;simp only[Array.length_toList] at e;omega
theorem Inv.list_inj (I:Inv X pins σ H s) (h:SqL X.K H a xs) (h':SqL X.K H a ys):xs=ys:=by
 obtain⟨its,r,⟨o,n,e,_,_,d⟩,_⟩:=I.list h;obtain⟨its',r',⟨o',n',e',_,_,d'⟩,_⟩:=I.list h';rw[e] at e';cases e';rw[d] at d';injection d' with d1 _
 have:its=its':=by simpa using congrArg Array.toList d1
 subst this;exact r.inj r'
theorem Inv.tuple_inj (I:Inv X pins σ H s) (h:SqT X.K H a xs) (h':SqT X.K H a ys):xs=ys:=by
 obtain⟨its,r,⟨o,e,_,n,d⟩,_⟩:=I.tuple h;obtain⟨its',r',⟨o',e',_,n',d'⟩,_⟩:=I.tuple h';rw[e] at e';cases e';rw[d] at d';injection d' with d1 _
 have:its=its':=by simpa using congrArg Array.toList d1
 subst this;exact r.inj r'
end
abbrev Cx.wish (X:Cx) (E:Value->Shared->Prop):Cx:={ X with xe:=E }
abbrev Cx.nox (X:Cx):Cx:=X.wish fun _ _=>False
theorem Cx.Ok.wish {X:Cx} (ok:X.Ok) (E:Value->Shared->Prop):(X.wish E).Ok :=
 ⟨ok.mod,ok.kind,ok.glob,ok.blt,ok.above,ok.inj,ok.has,ok.cab,ok.hd,ok.frames,ok.stk,ok.exf,ok.bs,ok.bsz,ok.noex,ok.exfs,ok.funs,ok.frf⟩
theorem Cx.Ok.unwish {X:Cx} {E:Value->Shared->Prop} (ok:(X.wish E).Ok):X.Ok :=
 ⟨ok.mod,ok.kind,ok.glob,ok.blt,ok.above,ok.inj,ok.has,ok.cab,ok.hd,ok.frames,ok.stk,ok.exf,ok.bs,ok.bsz,ok.noex,ok.exfs,ok.funs,ok.frf⟩
section
variable {X:Cx} {pins:List (Addr × Obj)} {σ:St} {H:Hp} {s:Shared} {E:Value->Shared->Prop}
theorem Inv.wish (I:Inv X pins σ H s) (E:Value->Shared->Prop):Inv (X.wish E) pins σ H s:=⟨I.ok.wish E,I.os,I.bare,I.base,I.loc,I.cell,I.free,I.freeC,I.pin,I.hok,I.len⟩
theorem Inv.unwish (I:Inv (X.wish E) pins σ H s):Inv X pins σ H s:=⟨I.ok.unwish,I.os,I.bare,I.base,I.loc,I.cell,I.free,I.freeC,I.pin,I.hok,I.len⟩
theorem SP.unwish {D:Ends} {f:Flow} {s':Shared} (h:SP (X.wish E) pins D f s'):SP X pins D f s':=by
 cases f with
 | next=>obtain⟨σ',H',I,q⟩:=h;exact⟨σ',H',I.unwish,q⟩
 | brk=>obtain⟨σ',H',I,q⟩:=h;exact⟨σ',H',I.unwish,q⟩
 | cont=>obtain⟨σ',H',I,q⟩:=h;exact⟨σ',H',I.unwish,q⟩
 | ret u=>obtain⟨v,σ',H',I,r,q⟩:=h;exact⟨v,σ',H',I.unwish,r,q⟩
theorem PE.nox {e:Expr} {t:TE} (h:PE X.nox e t):PE X e t:=fun pins s σ H Q I hw =>
 wpAny_mono (h pins s σ H Q (I.wish _) hw) (fun _ _ ⟨v,H',I',r,q⟩=>⟨v,H',I'.unwish,r,q⟩) fun _ _ z=>False.elim z
theorem PT.nox {e:Expr} {t:TT} (h:PT X.nox e t):PT X e t:=fun pins s σ H Q I hw =>
 wpAny_mono (h pins s σ H Q (I.wish _) hw) (fun _ _ ⟨H',I',q⟩=>⟨H',I'.unwish,q⟩) fun _ _ z=>False.elim z
theorem PSs.nox {st:List Stmt} {t:TS} (h:PSs X.nox st t):PSs X st t:=fun pins s σ H D I hw =>
 wpAny_mono (h pins s σ H D (I.wish _) hw) (fun _ _ q=>q.unwish) fun _ _ z=>False.elim z
end
section
variable {X:Cx} {st:Stmt} {jba:List Stmt} {t u:TS} {e:Expr} {te:TE} {pos:Pos}
def jhW:TS:=fun D σ H=>D.nx σ H
def jlp (t u:TS):TS:=fun D σ H=>t { D with nx:=u D } σ H
theorem jax:PSs X [] jhW:=fun _ _ σ H _ I h=>wpAny_execs_nil ⟨σ,H,I,h⟩
theorem jae (h1:PS X st t) (h2:PSs X jba u):PSs X (st::jba) (jlp t u):=by
  intro pins s σ H D I h;refine wpAny_execs_cons (thn (h1 pins s σ H { D with nx:=u D } I h) fun f s1 q=>?_);cases f with
  | next =>
    obtain⟨σ',H',I',q⟩:=q;exact h2 pins s1 σ' H' D I' q
  | ret v=>exact q
  | brk=>exact q
  | cont=>exact q
theorem jag (h1:PS X st t):PSs X [st] t:=by
 intro pins s σ H D I h;refine wpAny_execs_cons (thn (h1 pins s σ H D I h) fun f s1 q=>?_);cases f with
 | next=>exact wpAny_execs_nil q
 | ret v=>exact q
 | brk=>exact q
 | cont=>exact q
def jgG:TS:=fun D σ H=>D.bk σ H
def jju:TS:=fun D σ H=>D.ct σ H
theorem Inv.quiet {pins:List (Addr × Obj)} {σ:St} {H:Hp} {s:Shared} (I:Inv X pins σ H s):interactive X.env=false:=by simp [interactive,I.ok.kind]
def jgh (te:TE):TS:=fun D σ H=>te σ H fun _ H1=>D.nx σ H1
theorem jbi (he:PE X e te) (hs:swapsWith e none pos.line X.env=pure false:=by rfl):PS X (.Expr e pos) (jgh te):=by
 intro pins s σ H D I h;exact wpAny_Expr_any (thn (he pins s σ H _ I h) fun v s1 ⟨x,H1,I1,r1,q1⟩=>⟨σ,H1,I1,q1⟩) I.quiet hs
def jmA (te:TE):TS:=fun D σ H=>te σ H D.rt
theorem jaq (he:PE X e te):PS X (.Return (some e) pos) (jmA te):=by
 intro pins s σ H D I h;exact wpAny_Return_some (thn (he pins s σ H _ I h) fun v s1 ⟨x,H1,I1,r1,q1⟩=>⟨x,σ,H1,I1,r1,q1⟩)
def jjv:TS:=fun D _ H=>D.rt .non H
def jmR (c:TT) (t u:TS):TS:=fun D σ H=>c σ H fun b H1=>if b=true then t D σ H1 else u D σ H1
theorem jaQ {c:Expr} {a b:List Stmt} {tc:TT} (hc:PT X c tc) (ha:PSs X a t) (hb:PSs X b u):PS X (.If c a b pos) (jmR tc t u):=by
 intro pins s σ H D I h;refine wpAny_If (thn (hc pins s σ H _ I h) fun d s1 ⟨H1,I1,q1⟩=>?_);cases d with
 | true=>exact ha pins s1 σ H1 D I1 q1
 | false=>exact hb pins s1 σ H1 D I1 q1
def jmS:TS:=fun _ _ _=>False
theorem jbj {sts:List Stmt}:PSs X sts jmS:=fun _ _ _ _ _ _ h=>h.elim
end
abbrev TG:=V->St->Hp->(St->Hp->Prop)->Prop
abbrev TGs:=List V->St->Hp->(St->Hp->Prop)->Prop
def PG (X:Cx) (target:Expr) (t:TG):Prop :=
  ∀ (pins : List (Addr × Obj)) (s : Shared) (σ : St) (H : Hp) (v : V) (u : Value) (Q : St -> Hp -> Prop), Inv X pins σ H s -> RelV v u -> t v σ H Q ->
    wpAny (model X.prog X.w) X.A (assign target X.env u) (fun _ s'=>∃σ' H',Inv X pins σ' H' s'/\Q σ' H') X.xe s
def PGs (X:Cx) (ts:List Expr) (t:TGs):Prop :=
  ∀ (pins : List (Addr × Obj)) (s : Shared) (σ : St) (H : Hp) (vs : List V) (us : List Value) (Q : St -> Hp -> Prop), Inv X pins σ H s -> Vals vs us -> t vs σ H Q ->
    wpAny (model X.prog X.w) X.A (assignInOrder ((assignEach ts X.env).map (·.2)) us) (fun _ s'=>∃σ' H',Inv X pins σ' H' s'/\Q σ' H') X.xe s
abbrev TSet:=V->V->V->Hp->(Hp->Prop)->Prop
def PSet (X:Cx) (t:TSet):Prop :=
  ∀ (pins : List (Addr × Obj)) (s : Shared) (σ : St) (H : Hp) (o i v : V) (ov iv u : Value) (Q : Hp -> Prop), Inv X pins σ H s -> RelV o ov -> RelV i iv -> RelV v u -> t o i v H Q ->
    wpAny (model X.prog X.w) X.A (setItem ov iv u) (fun _ s'=>∃H',Inv X pins σ H' s'/\Q H') X.xe s
section
variable {X:Cx} {pos:Pos}
def jbt (i:Nat):TG:=fun v σ H Q=>Q (σ.set i (some v)) H
theorem jan {i:Nat} {x:Str} (hN:X.N.Nodup) (hi:X.N[i]?=some x) (hx:Loc X.env.scope x) (hf:X.fn x=true\/X.env.scope.names.lookup x=some .local:=by first | exact .inl rfl | exact .inr rfl | assumption):PG X (.Name x pos) (jbt i):=by
 intro pins s σ H v u Q I r h;exact wpAny_assign_Name (jd8 I hN hi hx r (fun s' I'=>⟨_,H,I',h⟩) hf)
def jkB:TGs:=fun vs σ H Q=>vs=[]/\Q σ H
def jej (t:TG) (u:TGs):TGs:=fun vs σ H Q=>∃v r,vs=v::r/\t v σ H fun σ' H'=>u r σ' H' Q
theorem jcm:PGs X [] jkB:=by
 intro pins s σ H vs us Q I r h;obtain⟨e,h⟩:=h;subst e;cases r;exact assignInOrder_nil ⟨σ,H,I,h⟩
theorem jaK {e:Expr} {es:List Expr} {t:TG} {u:TGs} (h1:PG X e t) (h2:PGs X es u)
    (hs:(assignEach (e::es) X.env).map (·.2)=assign e X.env::(assignEach es X.env).map (·.2):=by rfl):PGs X (e::es) (jej t u):=by
  intro pins s σ H vs us Q I r h;obtain⟨v,vr,e1,h⟩:=h;subst e1;cases r with
  | cons r rr =>
    rw[hs];refine assignInOrder_cons (thn (h1 pins s σ H _ _ _ I r h) fun _ s1 ⟨σ1,H1,I1,q1⟩=>?_);exact h2 pins s1 σ1 H1 _ _ Q I1 rr q1
def jjw (K:PySem.W.Frag) (n:Nat) (t:TGs):TG:=fun v σ H Q=>∃a xs,v=.ref a/\SqT K H a xs/\xs.length=n/\t xs σ H Q
theorem jeV {es:List Expr} {k:Nat} {t:TGs} {n:Nat} (hc:X.calm=true) (h:PGs X es t)
  (hn:(assignEach es X.env).length=n:=by rfl) (hst:(assignEach es X.env).findIdx? (·.1)=none:=by rfl):PG X (.Tuple es k pos) (jjw X.K n t):=by
 intro pins s σ H v u Q I r hw;obtain⟨a,xs,e1,hq,hl,hw⟩:=hw;subst e1;cases r;obtain⟨its,rv,ht,hz⟩:=I.tuple hq;refine assign_Tuple_tuple (I.ok.hd hc) ht (by simp [hn,<- hl,rv.length]) hst fun h' hx=>?_;have I1:Inv X pins σ H { s with heap:=h' }:=I.kept (t':=s.toks) fun b o e=>hx b o (xaz (Heap.lt_size e)) e;exact h pins _ σ H xs _ Q I1 (by simpa using rv) hw
def gSub (to ti:TE) (t:TSet):TG:=fun v σ H Q=>to σ H fun o H1=>ti σ H1 fun i H2=>t o i v H2 fun H3=>Q σ H3
theorem jmT {o i:Expr} {to ti:TE} {t:TSet} (ho:PE X o to) (hi:PE X i ti) (hs:PSet X t)
  (ha:∀v,assign (.Subscript o i pos) X.env v=(do
   let ov <- holding [v] (eval o X.env)
   let iv <- holding [v,ov] (eval i X.env)
   standAt pos
   holding [v,ov,iv] (setItem ov iv v)
   release [v,ov,iv] []):=by intro _;rfl):PG X (.Subscript o i pos) (gSub to ti t):=by
 intro pins s σ H v u Q I r h;rw[ha];refine wpAny_bind (wpAny_holding (thn (ho pins s σ H _ I h) fun ov s1 ⟨x,H1,I1,r1,q1⟩=>?_));refine wpAny_bind (wpAny_holding (thn (hi pins s1 σ H1 _ I1 q1) fun iv s2 ⟨y,H2,I2,r2,q2⟩=>?_));refine wpAny_bind (wpAny_standAt (wpAny_bind (wpAny_holding (thn (hs pins s2 σ H2 x y v ov iv u _ I2 r1 r2 r q2) fun _ s3 ⟨H3,I3,q3⟩=>?_))));exact wpAny_release ⟨σ,H3,I3,q3⟩
def jkC (te:TE) (g:TG):TS:=fun D σ H=>te σ H fun x H1=>g x σ H1 D.nx
theorem jgH {tg e:Expr} {te:TE} {g:TG} (he:PE X e te) (hg:PG X tg g) (hs:swapsWithSole [tg] e pos.line X.env=pure false:=by rfl) (hw:swappedStores [tg] e X.env=pure none:=by rfl)
  (h1:(assignEach [tg] X.env).map (·.2)=[assign tg X.env]:=by rfl):PS X (.Assign [tg] e pos) (jkC te g):=by
 intro pins s σ H D I h;refine wpAny_Assign_stores (thn (he pins s σ H _ I h) fun v s1 ⟨x,H1,I1,r1,q1⟩=>?_) hs hw;rw[h1];exact thn (hg pins s1 σ H1 x v _ I1 r1 q1) fun _ s2 q=>q
theorem jas {i:Nat} {x:Str} {e:Expr} {te:TE} {pos':Pos} (hN:X.N.Nodup) (hi:X.N[i]?=some x) (hx:Loc X.env.scope x) (he:PE X e te) (hs:swapsWith e (some (.Name x pos')) pos.line X.env=pure false:=by rfl) (hf:X.fn x=true\/X.env.scope.names.lookup x=some .local:=by first | exact .inl rfl | exact .inr rfl | assumption) :
  PS X (.Assign [.Name x pos'] e pos) (jkC te (jbt i)):=by
 intro pins s σ H D I h;refine wpAny_Assign_Name (thn (he pins s σ H _ I h) fun v s1 ⟨y,H1,I1,r1,q1⟩=>?_) hs;exact jd8 I1 hN hi hx r1 (fun s2 I2=>⟨_,H1,I2,q1⟩) hf
def jmU (i j:Nat) (ta:TA):TS:=fun D σ H=>ta σ H fun vs H1=>∃v w,vs=[v,w]/\D.nx ((σ.set i (some v)).set j (some w)) H1
theorem jmV {i j:Nat} {x y:Str} {a b:Expr} {ta:TA} {px py pt:Pos} {kt k2 pt2} (hc:X.calm=true) (hN:X.N.Nodup) (hi:X.N[i]?=some x) (hj:X.N[j]?=some y) (hij:i≠j)
    (hx:X.env.scope.names.lookup x=some .local) (hy:X.env.scope.names.lookup y=some .local) (ha:PA X [a,b] ta)
    (hw:swappedStores [.Tuple [.Name x px,.Name y py] kt pt] (.Tuple [a,b] k2 pt2) X.env=pure (some [x,y]))
    (hs:swapsWithSole [.Tuple [.Name x px,.Name y py] kt pt] (.Tuple [a,b] k2 pt2) pos.line X.env=pure false:=by rfl) :
    PS X (.Assign [.Tuple [.Name x px,.Name y py] kt pt] (.Tuple [a,b] k2 pt2) pos) (jmU i j ta):=by
  intro pins s σ H D I h;rw[exec_Assign_arm];refine wpAny_bind (wpAny_standAt ?_);rw[hs];refine wpAny_bind (wpAny_pure ?_);rw[if_neg (by decide)];refine wpAny_bind (Tuple_ (thn (ha _ pins s σ H _ I h) fun us s1 ⟨vs,H1,I1,r1,q1⟩=>?_));obtain⟨v,w,e1,q1⟩:=q1;subst e1;obtain⟨u1,u2,rfl,rv,rw'⟩:∃u1 u2,us=[u1,u2]/\RelV v u1/\RelV w u2:=by
    cases r1 with
    | cons p q =>
      cases q with
      | cons p' q' =>
        cases q';exact⟨_,_,rfl,p,p'⟩
  refine wpAny_newObj_type ?_ (by show 2<=sizeLine;decide);have I2:Inv X pins σ H1 { s1 with heap:=s1.heap.push { cls:=.type "tuple",data:=.seq [u1,u2].toArray } }:=I1.kept (t':=s1.toks) fun b o e=>Heap.get?_push_of_some _ e;rw[hw];refine wpAny_bind (wpAny_pure ?_);show wpAny (model X.prog X.w) X.A (do rule "assign.swapped-stores";let items <- unpackItems (.ref s1.heap.objs.size) 2 none;assignInOrder [fun v=>bindName X.env y v,fun v=>bindName X.env x v] items.reverse;pure Flow.next) _ _ _;refine wpAny_bind (wpAny_rule (wpAny_bind (unpackItems_tuple (items:=#[u1,u2]) (I.ok.hd hc) (IsTup.new s1.heap _) fun h' hx'=>?_)));have I3:=I2.kept (h':=h') (t':=s1.toks) fun b o e=>hx' b o (xaz (Heap.lt_size e)) e;show wpAny _ _ (assignInOrder [fun v=>bindName X.env y v,fun v=>bindName X.env x v] [u2,u1] >>= fun _=>pure Flow.next) _ _ _;refine wpAny_bind (assignInOrder_cons (wpAny_bindName (jd8 I3 hN hj (.inl hy) rw' (fun s2 I4=>?_) (.inr hy))));refine assignInOrder_cons (wpAny_bindName (jd8 I4 hN hi (.inl hx) rv (fun s3 I5=>assignInOrder_nil (wpAny_pure ?_)) (.inr hx)));rw[List.set_comm _ _ (Ne.symm hij)] at I5;exact⟨_,H1,I5,q1⟩
def jmW (c:TT) (tb:TS):TS:=fun D σ H=>∃W:Nat->St->Hp->Prop,(∃m,W m σ H)/\∀m σ H,W m σ H ->
 c σ H fun b H1=>if b=true then ∃N:St->Hp->Prop,(∀σ' H',N σ' H'->∃m',m'<m/\W m' σ' H')/\tb { D with nx:=N,ct:=N,bk:=D.nx } σ H1 else D.nx σ H1
theorem jea {c:Expr} {body:List Stmt} {tc:TT} {tb:TS} (hp:PassesOwn (model X.prog X.w) X.A X.env X.xe) (hc:PT X c tc) (hb:PSs X body tb):PS X (.While c body [] pos) (jmW tc tb):=by
  intro pins s σ H D I h;obtain⟨W,⟨m0,w0⟩,turn⟩:=h;refine wpAny_While (codeAny_whileLoop (fun n s'=>∃σ' H',Inv X pins σ' H' s'/\W n σ' H') ?_ m0 ⟨σ,H,I,w0⟩);rintro n s1 ⟨σ1,H1,I1,w1⟩;refine wpAny_passesOwn hp (thn (hc pins s1 σ1 H1 _ I1 (turn n σ1 H1 w1)) fun b s2 ⟨H2,I2,q2⟩=>?_);cases b with
  | true =>
    obtain⟨N,hN,q2⟩:=q2;rw[if_pos rfl];refine wpAny_passesOwn hp (thn (hb pins s2 σ1 H2 _ I2 q2) fun f s3 q3=>?_);cases f with
    | next =>
      obtain⟨σ3,H3,I3,n3⟩:=q3;obtain⟨m',hm,w3⟩:=hN σ3 H3 n3;exact⟨m',hm,σ3,H3,I3,w3⟩
    | cont =>
      obtain⟨σ3,H3,I3,n3⟩:=q3;obtain⟨m',hm,w3⟩:=hN σ3 H3 n3;exact⟨m',hm,σ3,H3,I3,w3⟩
    | brk=>exact q3
    | ret v=>exact q3
  | false =>
    rw[if_neg xar];exact wpAny_execs_nil ⟨σ1,H2,I2,q2⟩
end
structure It where
 go:Nat->Hp->Prop
 yld:Nat->Hp->V->Hp->Prop
 stop:Nat->Hp->Prop
def jfF (X:Cx) (pins:List (Addr × Obj)) (H:Hp) (b:Addr):Prop :=
 H b=none/\b≠X.env.locals/\b∉X.fs/\(b∈X.ex\/X.s₀.heap.objs.size<=b)/\(∀x c,X.env.cells.lookup x=some c->c≠b)/\∀p∈X.pn++pins,p.1≠b
theorem Inv.fpOk {X:Cx} {pins:List (Addr × Obj)} {σ:St} {H H':Hp} {s:Shared} {b:Addr} (I:Inv X pins σ H s) (hb:s.heap.objs.size<=b) (hn:H' b=none):jfF X pins H' b:=by
 refine⟨hn,Nat.ne_of_gt (xah I.lt hb),I.nofs hb,.inr (xan I.sz hb),fun x c e z=>?_,fun p hp z=>?_⟩
 ·obtain⟨v,q⟩:=I.cell x c e;exact absurd (xah q.lt (by rw[z];exact hb)) (xaS _)
 ·exact absurd (xah (Heap.lt_size (I.pin p hp).1) (by rw[z];exact hb)) (xaS _)
structure Turn (P:Program) (w:World) (K:PySem.W.Frag) (tg:Expr) (J:It) (fp:List Addr) (it:Addr) (tn:Nat->Heap->Prop):Prop where
 mem:it∈fp
 obj:∀i h,tn i h->∀b∈fp,∃o,h.get? b=some o/\∀v,o.data≠.cell v
 keep:∀i h h',tn i h->(∀b∈fp,∀o,h.get? b=some o->h'.get? b=some o)->tn i h'
 item:∀(X:Cx),X.prog=P->X.w=w->X.K=K->X.calm=true->∀(i:Nat) (pins:List (Addr × Obj)) (s:Shared) (σ:St) (H:Hp) (E:Value->Shared->Prop),Inv X pins σ H s->(∀b∈fp,jfF X pins H b)->tn i s.heap->J.go i H ->
  wpAny (model P w) X.A (pyNext (.ref it)) (fun r s1=>∃u,r=some u /\
   wpAny (model P w) X.A (letOwnedTupleGo tg (.ref it) u) (fun _ s2=>∃x H',Inv X pins σ H' s2/\RelV x u/\J.yld i H x H'/\tn (i+1) s2.heap/\∀b∈fp,H' b=none) E s1) E s
 done:∀(X:Cx),X.prog=P->X.w=w->X.K=K->X.calm=true->∀(i:Nat) (pins:List (Addr × Obj)) (s:Shared) (σ:St) (H:Hp) (E:Value->Shared->Prop),Inv X pins σ H s->(∀b∈fp,jfF X pins H b)->tn i s.heap->J.stop i H ->
  wpAny (model P w) X.A (pyNext (.ref it)) (fun r s1=>r=none/\Inv X pins σ H s1) E s
 self:∀(A:Around) (i:Nat) (s:Shared) (Q:Value->Shared->Prop) (E:Value->Shared->Prop),tn i s.heap->Q (.ref it) s->wpAny (model P w) A (pyIter (.ref it)) Q E s
abbrev TI:=St->Hp->(It->Hp->Prop)->Prop
def PIE (X:Cx) (pins:List (Addr × Obj)) (σ:St) (tg:Expr) (R:It->Hp->Prop) (itv:Value) (s2:Shared):Prop :=
 ∃(it:Addr) (fp:List Addr) (tn:Nat->Heap->Prop) (J:It) (H':Hp),itv=.ref it/\Inv X pins σ H' s2/\Turn X.prog X.w X.K tg J fp it tn/\tn 0 s2.heap/\(∀b∈fp,jfF X pins H' b)/\R J H'
def PI (X:Cx) (tg iter:Expr) (wi:TI):Prop :=
  ∀ (pins : List (Addr × Obj)) (s : Shared) (σ : St) (H : Hp) (R : It -> Hp -> Prop), Inv X pins σ H s -> wi σ H R ->
    wpAny (model X.prog X.w) X.A (eval iter X.env) (fun v s1=>wpAny (model X.prog X.w) X.A (pyIter v) (PIE X pins σ tg R) X.xe s1) X.xe s
theorem jjx {M:Model} {A:Around} {E:Value->Shared->Prop} {s:Shared} {tg:Expr} {it:Addr} {u:Value} {o:Obj} {n:String} {vs:Array Value} {Q:Unit->Shared->Prop} (ho:s.heap.get? it=some o) (hc:o.cls=.type n) (hd:o.data=.fields vs)
    (hn:["enumerate","zip","dict_itemiterator","dict_reverseitemiterator","odict_iterator","itertools.zip_longest","itertools.pairwise"].contains n=false) (hQ:Q () s):wpAny M A (letOwnedTupleGo tg (.ref it) u) Q E s:=by
  unfold letOwnedTupleGo;cases tg<;>first
    | exact wpAny_pure hQ
    | (cases u<;>first
        | exact wpAny_pure hQ
        | (refine wpAny_bind (wpAny_load ho ?_)
           rw[hc,hd];show wpAny M A (if (["enumerate","zip","dict_itemiterator","dict_reverseitemiterator","odict_iterator","itertools.zip_longest","itertools.pairwise"].contains n&&vs[0]?==some (rawInt _))=true then _ else _) Q E s;rw[if_neg (by intro h;rw[hn,Bool.false_and] at h;cases h)];exact wpAny_pure hQ))
def Itl (K:PySem.W.Frag) (a:Addr):It :=
 ⟨fun i H=>∃xs x,SqL K H a xs/\xs[i]?=some x,fun i H x H'=>H'=H/\∀xs,SqL K H a xs->xs[i]?=some x,fun i H=>∃xs,SqL K H a xs/\xs.length<=i⟩
def Itt (K:PySem.W.Frag) (a:Addr):It :=
 ⟨fun i H=>∃xs x,SqT K H a xs/\xs[i]?=some x,fun i H x H'=>H'=H/\∀xs,SqT K H a xs->xs[i]?=some x,fun i H=>∃xs,SqT K H a xs/\xs.length<=i⟩
def Itr (lo:Int) (n:Nat):It:=⟨fun i _=>i<n,fun i H x H'=>H'=H/\x=.int (lo+i),fun i _=>n<=i⟩
theorem jfG {P:Program} {w:World} {K:PySem.W.Frag} {tg:Expr} (a it:Addr):Turn P w K tg (Itl K a) [it] it (fun i h=>h.IsListIter it a i) where
 mem:=by simp
 obj:=fun i h st b hb=>by
  have e:b=it:=by simpa using hb
  subst e;obtain⟨o,e,c,d⟩:=st;exact⟨o,e,fun v z=>by rw[d] at z;cases z⟩
 keep:=fun i h h' st k=>st.at fun o e=>k it (by simp) o e
 item:=by
  intro X hP hw hK hc i pins s σ H E I hf st hg;subst hP hw hK;obtain⟨xs,x,hq,hx⟩:=hg;obtain⟨its,rv,p,hz⟩:=I.list hq;obtain⟨u,hu,ru⟩:=rv.get hx;obtain⟨f0,f1,f2,f3,f4,f5⟩:=hf it (by simp);refine wpAny_pyNext_list_item st p.isList (x:=u) (by simpa using hu) fun h' st' sb=>?_;have I1:Inv X pins σ H { s with heap:=h' }:=I.turned (t':=s.toks) (fun b o hb e=>(sb.2 b hb).trans e) f0 f1 f3 f4 f5;obtain⟨o,e,c,d⟩:=id st';exact⟨u,rfl,jjx (s:={ s with heap:=h' }) e c d (by decide) ⟨x,H,I1,ru,⟨rfl,fun ys hy=>by rw[I.list_inj hy hq];exact hx⟩,st',fun b hb=>(hf b hb).1⟩⟩
 done:=by
  intro X hP hw hK hc i pins s σ H E I hf st hg;subst hP hw hK;obtain⟨xs,hq,hx⟩:=hg;obtain⟨its,rv,p,hz⟩:=I.list hq;obtain⟨f0,f1,f2,f3,f4,f5⟩:=hf it (by simp);have hl:=rv.length;exact wpAny_pyNext_list_end (I.ok.hd hc) st p.isList (by simp;omega) fun h' eb=>⟨rfl,I.turned (t':=s.toks) (fun b o hb e=>eb b o hb e) f0 f1 f3 f4 f5⟩
 self:=fun _ _ _ _ _ st h=>wpAny_pyIter_listiter st h
theorem jeW {P:Program} {w:World} {K:PySem.W.Frag} {tg:Expr} (a it:Addr):Turn P w K tg (Itt K a) [it] it (fun i h=>h.IsTupleIter it a i) where
 mem:=by simp
 obj:=fun i h st b hb=>by
  have e:b=it:=by simpa using hb
  subst e;obtain⟨o,e,c,d⟩:=st;exact⟨o,e,fun v z=>by rw[d] at z;cases z⟩
 keep:=fun i h h' st k=>st.at fun o e=>k it (by simp) o e
 item:=by
  intro X hP hw hK hc i pins s σ H E I hf st hg;subst hP hw hK;obtain⟨xs,x,hq,hx⟩:=hg;obtain⟨its,rv,p,hz⟩:=I.tuple hq;obtain⟨u,hu,ru⟩:=rv.get hx;obtain⟨f0,f1,f2,f3,f4,f5⟩:=hf it (by simp);refine wpAny_pyNext_tuple_item st (show s.heap.IsTuple a its.toArray from p) (x:=u) (by simpa using hu) fun h' st' sb=>?_;have I1:Inv X pins σ H { s with heap:=h' }:=I.turned (t':=s.toks) (fun b o hb e=>(sb.2 b hb).trans e) f0 f1 f3 f4 f5;obtain⟨o,e,c,d⟩:=id st';exact⟨u,rfl,jjx (s:={ s with heap:=h' }) e c d (by decide) ⟨x,H,I1,ru,⟨rfl,fun ys hy=>by rw[I.tuple_inj hy hq];exact hx⟩,st',fun b hb=>(hf b hb).1⟩⟩
 done:=by
  intro X hP hw hK hc i pins s σ H E I hf st hg;subst hP hw hK;obtain⟨xs,hq,hx⟩:=hg;obtain⟨its,rv,p,hz⟩:=I.tuple hq;obtain⟨f0,f1,f2,f3,f4,f5⟩:=hf it (by simp);have hl:=rv.length;exact wpAny_pyNext_tuple_end (I.ok.hd hc) st (show s.heap.IsTuple a its.toArray from p) (by simp;omega) fun h' eb=>⟨rfl,I.turned (t':=s.toks) (fun b o hb e=>eb b o hb e) f0 f1 f3 f4 f5⟩
 self:=fun _ _ _ _ _ st h=>wpAny_pyIter_tupleiter st h
theorem jhr {P:Program} {w:World} {K:PySem.W.Frag} {tg:Expr} (it:Addr) (lo:Int) (n:Nat):Turn P w K tg (Itr lo n) [it] it (fun i h=>IsRangeIter h it (lo+(i:Nat)*1) ((n:Int)-(i:Nat)) 1) where
 mem:=by simp
 obj:=fun i h st b hb=>by
  have e:b=it:=by simpa using hb
  subst e;exact⟨_,st,fun v z=>by
   have z':Data.fields _=Data.cell v:=z;cases z'⟩
 keep:=fun i h h' st k=>k it (by simp) _ st
 item:=by
  intro X hP hw hK hc i pins s σ H E I hf st hg;subst hP hw hK;obtain⟨f0,f1,f2,f3,f4,f5⟩:=hf it (by simp);have W:=Walks.range (prog:=X.prog) (w:=X.w) (I.ok.hd hc) it lo 1 n;refine W.item i s _ _ hg st fun v h' tk hv st' kk=>?_;obtain⟨t,rfl⟩:=hv;have I1:Inv X pins σ H { s with heap:=h',toks:=tk }:=I.turned (fun b o hb e=>kk b o (by simpa using hb) e) f0 f1 f3 f4 f5;refine⟨_,rfl,jjx (s:={ s with heap:=h',toks:=tk }) (n:="range_iterator") st' rfl rfl (by decide) ⟨.int (lo+i),H,I1,⟨t,?_⟩,⟨rfl,rfl⟩,st',fun b hb=>(hf b hb).1⟩⟩;rw[Int.mul_one]
 done:=by
  intro X hP hw hK hc i pins s σ H E I hf st hg;subst hP hw hK;obtain⟨f0,f1,f2,f3,f4,f5⟩:=hf it (by simp);exact wpAny_pyNext_range_end (I.ok.hd hc) st (by have:n<=i:=hg;omega) fun h' eb=>⟨rfl,I.turned (t':=s.toks) (fun b o hb e=>eb b o hb e) f0 f1 f3 f4 f5⟩
 self:=fun _ _ _ _ _ st h=>wpAny_pyIter_rangeiter st h
section
variable {X:Cx} {tg:Expr}
def jjy (K:PySem.W.Frag) (tl:TE):TI:=fun σ H R=>tl σ H fun x H1=>∃a,x=.ref a/\(∃xs,SqL K H1 a xs)/\R (Itl K a) H1
def iTup (K:PySem.W.Frag) (tl:TE):TI:=fun σ H R=>tl σ H fun x H1=>∃a,x=.ref a/\(∃xs,SqT K H1 a xs)/\R (Itt K a) H1
theorem jbd {l:Expr} {tl:TE} (hl:PE X l tl):PI X tg l (jjy X.K tl):=by
 intro pins s σ H R I h;refine thn (hl pins s σ H _ I h) fun v s1 ⟨x,H1,I1,r1,q1⟩=>?_;obtain⟨a,e,⟨xs,hq⟩,q⟩:=q1;subst e;cases r1;obtain⟨its,rv,p,hz⟩:=I1.list hq;refine wpAny_pyIter_list p.isList ?_;refine⟨s1.heap.objs.size,[s1.heap.objs.size],_,_,H1,rfl,I1.kept (t':=s1.toks) fun b o e=>Heap.get?_push_of_some _ e,jfG a _,⟨_,Heap.get?_push_size _ rfl,rfl,rfl⟩,fun b hb=>?_,q⟩;have e:b=s1.heap.objs.size:=by simpa using hb
 subst e;exact I1.fpOk (xae _) (I1.hok.fresh (xae _))
theorem jeX {l:Expr} {tl:TE} (hl:PE X l tl):PI X tg l (iTup X.K tl):=by
 intro pins s σ H R I h;refine thn (hl pins s σ H _ I h) fun v s1 ⟨x,H1,I1,r1,q1⟩=>?_;obtain⟨a,e,⟨xs,hq⟩,q⟩:=q1;subst e;cases r1;obtain⟨its,rv,p,hz⟩:=I1.tuple hq;refine wpAny_pyIter_tuple (show s1.heap.IsTuple a its.toArray from p) ?_;refine⟨s1.heap.objs.size,[s1.heap.objs.size],_,_,H1,rfl,I1.kept (t':=s1.toks) fun b o e=>Heap.get?_push_of_some _ e,jeW a _,⟨_,Heap.get?_push_size _ rfl,rfl,rfl⟩,fun b hb=>?_,q⟩;have e:b=s1.heap.objs.size:=by simpa using hb
 subst e;exact I1.fpOk (xae _) (I1.hok.fresh (xae _))
theorem jgI {pins:List (Addr × Obj)} {σ:St} {H:Hp} {s:Shared} {R:It->Hp->Prop} {E:Value->Shared->Prop} {lo hi:Int} {t u v:Tok} {tk:Nat} (I:Inv X pins σ H s) (h1:-(2^62)<=lo) (h2:lo<2^62) (h3:-(2^62)<=hi) (h4:hi<2^62)
  (q:R (Itr lo (hi-lo).toNat) H):wpAny (model X.prog X.w) X.A (pyIter (.ref s.heap.objs.size)) (PIE X pins σ tg R) E { s with heap:=s.heap.push { cls:=.type "range",data:=.fields #[.int lo t,.int hi u,.int 1 v] },toks:=tk }:=by
 refine wpAny_pyIter_range (IsRange.new ..) (small_one h1 h2 h3 h4) ?_;have I1:Inv X pins σ H { s with heap:=s.heap.push { cls:=.type "range",data:=.fields #[.int lo t,.int hi u,.int 1 v] },toks:=tk }:=I.kept fun b o e=>Heap.get?_push_of_some _ e;refine⟨(s.heap.push { cls:=.type "range",data:=.fields #[.int lo t,.int hi u,.int 1 v] }).objs.size,[(s.heap.push { cls:=.type "range",data:=.fields #[.int lo t,.int hi u,.int 1 v] }).objs.size],_,_,H,rfl,
  I1.kept (t':=tk) fun b o e=>Heap.get?_push_of_some _ e,jhr _ lo (hi-lo).toNat,?_,fun b hb=>?_,q⟩
 ·have e1:lo+((0:Nat):Int)*1=lo:=by simp
  have e2:(((hi-lo).toNat:Nat):Int)-((0:Nat):Int)=Builtin.Range.rangeSize lo hi 1:=by rw[rangeSize_one];split<;>omega
  show IsRangeIter _ _ (lo+((0:Nat):Int)*1) ((((hi-lo).toNat:Nat):Int)-((0:Nat):Int)) 1;rw[e1,e2];exact Heap.get?_push_size _ rfl
 ·have e:b=(s.heap.push { cls:=.type "range",data:=.fields #[.int lo t,.int hi u,.int 1 v] }).objs.size:=by simpa using hb
  subst e;exact I1.fpOk (xae _) (I1.hok.fresh (xae _))
def jlq (ta:TA):TI:=fun σ H R=>ta σ H fun vs H1=>∃j:Int,vs=[.int j]/\-(2^62)<=j/\j<2^62/\R (Itr 0 j.toNat) H1
def jlr (ta:TA):TI:=fun σ H R=>ta σ H fun vs H1=>∃i j:Int,vs=[.int i,.int j]/\(-(2^62)<=i/\i<2^62/\-(2^62)<=j/\j<2^62)/\R (Itr i (j-i).toNat) H1
theorem jaG {a:Expr} {ta:TA} {p pos:Pos} (hg:Gl X "range") (hm:X.mg "range"=none) (ha:PA X [a] ta) (hs:starEach [a] X.env=[(false,eval a X.env)]:=by rfl):PI X tg (.Call (.Name "range" p) [a] [] pos) (jlq ta):=by
  intro pins s σ H R I h;refine Call_ (jdj I hg hm boot_range (PyProof.Rows.callWith_type1 (thn (ha pos pins s σ H _ I h) fun us s1 ⟨vs,H1,I1,r1,q1⟩=>?_) hs rfl));obtain⟨j,e,q1,q2,q⟩:=q1;subst e;cases r1 with
  | cons r rr =>
    cases rr;obtain⟨t,rfl⟩:=r;exact call_range_1 (jgI I1 (by omega) (by omega) q1 q2 (by simpa using q))
theorem jfH {a b:Expr} {ta:TA} {p pos:Pos} (hg:Gl X "range") (hm:X.mg "range"=none) (ha:PA X [a,b] ta) (hs:starEach [a,b] X.env=[(false,eval a X.env),(false,eval b X.env)]:=by rfl) (hs2:starEach [b] X.env=[(false,eval b X.env)]:=by rfl) :
    PI X tg (.Call (.Name "range" p) [a,b] [] pos) (jlr ta):=by
  intro pins s σ H R I h;refine Call_ (jdj I hg hm boot_range (PyProof.Rows.callWith_type1 (thn (ha pos pins s σ H _ I h) fun us s1 ⟨vs,H1,I1,r1,q1⟩=>?_) (by rw[hs,hs2]) (by rw[hs2];rfl)));obtain⟨i,j,e,⟨q1,q2,q3,q4⟩,q⟩:=q1;subst e;cases r1 with
  | cons r rr =>
    cases rr with
    | cons r' rr =>
      cases rr;obtain⟨t,rfl⟩:=r;obtain⟨t',rfl⟩:=r';exact call_range_2 (jgI I1 q1 q2 q3 q4 q)
def jkD (wi:TI) (g:TG) (tb:TS):TS:=fun D σ H=>wi σ H fun J H1=>∃W:Nat->Nat->St->Hp->Prop,(∃m,W 0 m σ H1)/\∀i m σ H,W i m σ H ->
 (J.stop i H/\D.nx σ H)\/(J.go i H/\∃N:St->Hp->Prop,(∀σ' H',N σ' H'->∃m',m'<m/\W (i+1) m' σ' H')/\∀x H',J.yld i H x H'->g x σ H' fun σ2 H2=>tb { D with nx:=N,ct:=N,bk:=D.nx } σ2 H2)
def jfI (fp:List Addr) (h:Heap):List (Addr × Obj):=fp.filterMap fun b=>(h.get? b).map fun o=>(b,o)
theorem jcJ {fp:List Addr} {h:Heap} {b:Addr} {o:Obj} (hb:b∈fp) (e:h.get? b=some o):(b,o)∈jfI fp h:=xbF.mpr ⟨b,hb,by rw[e];rfl⟩
theorem jhX {fp:List Addr} {h:Heap} {p:Addr × Obj} (hp:p∈jfI fp h):p.1∈fp/\h.get? p.1=some p.2:=by
  obtain⟨b,hb,e⟩:=xbF.mp hp;cases q:h.get? b with
  | none=>rw[q] at e;cases e
  | some o =>
    rw[q] at e;have e':(b,o)=p:=Option.some.inj e;subst e';exact⟨hb,q⟩
theorem Inv.pinned {pins:List (Addr × Obj)} {σ:St} {H:Hp} {s:Shared} {fp:List Addr} (I:Inv X pins σ H s) (hf:∀b∈fp,jfF X pins H b) (ho:∀b∈fp,∃o,s.heap.get? b=some o/\∀v,o.data≠.cell v):Inv X (pins++jfI fp s.heap) σ H s :=
 I.pins_of fun p hp=>(xay.mp hp).elim (fun z=>I.pin p (xaD _ z)) fun z=>by
  obtain⟨hb,e⟩:=jhX z;obtain⟨f0,f1,f2,_⟩:=hf p.1 hb;obtain⟨o,e',d⟩:=ho p.1 hb;rw[e] at e';cases e';exact⟨e,f0,f1,f2,d⟩
theorem Inv.unpinned {pins pl:List (Addr × Obj)} {σ:St} {H:Hp} {s:Shared} (I:Inv X (pins++pl) σ H s):Inv X pins σ H s:=I.pins_of fun p hp=>I.pin p (xaD _ (xbk _ hp))
theorem ja1 {iter:Expr} {body:List Stmt} {wi:TI} {g:TG} {tb:TS} {pos:Pos} (hp:PassesOwn (model X.prog X.w) X.A X.env X.xe) (hc:X.calm=true) (hi:PI X tg iter wi) (hg:PG X tg g) (hb:PSs X body tb)
  (hs:∀x,foldedSetIterable iter X.env x=pure x:=by intro _;rfl):PS X (.For tg iter body [] pos) (jkD wi g tb):=by
 intro pins s σ H D I h;refine wpAny_For (thn (hi pins s σ H _ I h) fun v s1 h1=>thn h1 fun itv s2 h2=>?_) hs;obtain⟨it,fp,tn,J,H2,e,I2,T,st2,f2,W,⟨m0,w0⟩,turn⟩:=h2;subst e;have stat:∀{H':Hp},(∀b∈fp,H' b=none)->∀b∈fp,jfF X pins H' b:=fun hn b hb=>⟨hn b hb,(f2 b hb).2⟩;refine codeAny_forLoop_any (fun n s'=>∃i σ' H',Inv X pins σ' H' s'/\tn i s'.heap/\(∀b∈fp,H' b=none)/\W i n σ' H') ?_ m0 ⟨0,σ,H2,I2,st2,fun b hb=>(f2 b hb).1,w0⟩;rintro n s3 ⟨i,σ3,H3,I3,st3,fr3,w3⟩;rcases turn i n σ3 H3 w3 with ⟨stop,qn⟩ | ⟨go,N,hN,step⟩
 ·refine wpAny_passesOwn hp (thn (T.done X rfl rfl rfl hc i pins s3 σ3 H3 X.xe I3 (stat fr3) st3 stop) fun r s4 ⟨hr,I4⟩=>?_);subst hr;exact wpAny_execs_nil ⟨σ3,H3,I4,qn⟩
 ·refine wpAny_passesOwn hp (thn (T.item X rfl rfl rfl hc i pins s3 σ3 H3 X.xe I3 (stat fr3) st3 go) fun r s4 ⟨u,hr,h4⟩=>?_);subst hr;refine wpAny_passesOwn hp (thn h4 fun _ s5 ⟨x,H5,I5,r5,y5,st5,fr5⟩=>?_);have I5':=I5.pinned (stat fr5) (T.obj _ _ st5);refine wpAny_passesOwn hp (thn (hg _ s5 σ3 H5 x u _ I5' r5 (step x H5 y5)) fun _ s6 ⟨σ6,H6,I6,q6⟩=>?_);refine wpAny_passesOwn hp (thn (hb _ s6 σ6 H6 _ I6 q6) fun f s7 q7=>?_);have again:∀{σ7:St} {H7:Hp},Inv X (pins++jfI fp s5.heap) σ7 H7 s7->N σ7 H7->∃m,m<n/\∃i σ' H',Inv X pins σ' H' s7/\tn i s7.heap/\(∀b∈fp,H' b=none)/\W i m σ' H':=fun {σ7 H7} I7 n7=>by
   obtain⟨m',hm,w7⟩:=hN σ7 H7 n7;refine⟨m',hm,i+1,σ7,H7,I7.unpinned,T.keep _ _ _ st5 fun b hb o e=>(I7.pin (b,o) (xaD _ (xaD _ (jcJ hb e)))).1,fun b hb=>?_,w7⟩;obtain⟨o,e,d⟩:=T.obj _ _ st5 b hb;exact (I7.pin (b,o) (xaD _ (xaD _ (jcJ hb e)))).2.1
  cases f with
  | next=>obtain⟨σ7,H7,I7,n7⟩:=q7;exact again I7 n7
  | cont=>obtain⟨σ7,H7,I7,n7⟩:=q7;exact again I7 n7
  | brk=>obtain⟨σ7,H7,I7,q7⟩:=q7;exact⟨σ7,H7,I7.unpinned,q7⟩
  | ret v=>obtain⟨x7,σ7,H7,I7,r7,q7⟩:=q7;exact⟨x7,σ7,H7,I7.unpinned,r7,q7⟩
end
theorem jdk {K:PySem.W.Frag} {a:Addr} {xs:List V} {g:TG} {tb:TS} {D:Ends} {σ:St} {H:Hp} (Pv:Nat->St->Hp->Prop) (h0:Pv 0 σ H) (hl:∀i σ H,i<=xs.length->Pv i σ H->SqL K H a xs)
    (hs:∀i x σ H,xs[i]?=some x->Pv i σ H->g x σ H fun σ2 H2=>tb { D with nx:=Pv (i+1),ct:=Pv (i+1),bk:=D.nx } σ2 H2) (hd:∀σ H,Pv xs.length σ H->D.nx σ H) :
    ∃ W : Nat -> Nat -> St -> Hp -> Prop, (∃ m, W 0 m σ H) /\ ∀ i m σ H, W i m σ H ->
      ((Itl K a).stop i H/\D.nx σ H)\/((Itl K a).go i H/\∃N:St->Hp->Prop,(∀σ' H',N σ' H'->∃m',m'<m/\W (i+1) m' σ' H')/\∀x H',(Itl K a).yld i H x H'->g x σ H' fun σ2 H2=>tb { D with nx:=N,ct:=N,bk:=D.nx } σ2 H2):=by
  refine⟨fun i m σ H=>m=xs.length-i/\i<=xs.length/\Pv i σ H,⟨xs.length,by simp,xaG _,h0⟩,?_⟩;rintro i m σ H ⟨rfl,hi,p⟩;have q:=hl i σ H hi p;by_cases hlt:i<xs.length
  . refine .inr ⟨⟨xs,xs[i],q,by simp [hlt]⟩,Pv (i+1),fun σ' H' p'=>⟨xs.length-(i+1),by omega,rfl,hlt,p'⟩,fun x H' y=>?_⟩
    obtain⟨e,y⟩:=y;subst e;exact hs i x σ _ (y xs q) p
  . have e:i=xs.length:=by omega
    subst e;exact .inl ⟨⟨xs,q,xae _⟩,hd σ H p⟩
theorem jhY {K:PySem.W.Frag} {a:Addr} {xs:List V} {g:TG} {tb:TS} {D:Ends} {σ:St} {H:Hp} (Pv:Nat->St->Hp->Prop) (h0:Pv 0 σ H) (hl:∀i σ H,i<=xs.length->Pv i σ H->SqT K H a xs)
    (hs:∀i x σ H,xs[i]?=some x->Pv i σ H->g x σ H fun σ2 H2=>tb { D with nx:=Pv (i+1),ct:=Pv (i+1),bk:=D.nx } σ2 H2) (hd:∀σ H,Pv xs.length σ H->D.nx σ H) :
    ∃ W : Nat -> Nat -> St -> Hp -> Prop, (∃ m, W 0 m σ H) /\ ∀ i m σ H, W i m σ H ->
      ((Itt K a).stop i H/\D.nx σ H)\/((Itt K a).go i H/\∃N:St->Hp->Prop,(∀σ' H',N σ' H'->∃m',m'<m/\W (i+1) m' σ' H')/\∀x H',(Itt K a).yld i H x H'->g x σ H' fun σ2 H2=>tb { D with nx:=N,ct:=N,bk:=D.nx } σ2 H2):=by
  refine⟨fun i m σ H=>m=xs.length-i/\i<=xs.length/\Pv i σ H,⟨xs.length,by simp,xaG _,h0⟩,?_⟩;rintro i m σ H ⟨rfl,hi,p⟩;have q:=hl i σ H hi p;by_cases hlt:i<xs.length
  . refine .inr ⟨⟨xs,xs[i],q,by simp [hlt]⟩,Pv (i+1),fun σ' H' p'=>⟨xs.length-(i+1),by omega,rfl,hlt,p'⟩,fun x H' y=>?_⟩
    obtain⟨e,y⟩:=y;subst e;exact hs i x σ _ (y xs q) p
  . have e:i=xs.length:=by omega
    subst e;exact .inl ⟨⟨xs,q,xae _⟩,hd σ H p⟩
theorem jaL {lo:Int} {n:Nat} {g:TG} {tb:TS} {D:Ends} {σ:St} {H:Hp} (Pv:Nat->St->Hp->Prop) (h0:Pv 0 σ H)
    (hs:∀i σ H,i<n->Pv i σ H->g (.int (lo+i)) σ H fun σ2 H2=>tb { D with nx:=Pv (i+1),ct:=Pv (i+1),bk:=D.nx } σ2 H2) (hd:∀σ H,Pv n σ H->D.nx σ H) :
    ∃ W : Nat -> Nat -> St -> Hp -> Prop, (∃ m, W 0 m σ H) /\ ∀ i m σ H, W i m σ H ->
      ((Itr lo n).stop i H/\D.nx σ H)\/((Itr lo n).go i H/\∃N:St->Hp->Prop,(∀σ' H',N σ' H'->∃m',m'<m/\W (i+1) m' σ' H')/\∀x H',(Itr lo n).yld i H x H'->g x σ H' fun σ2 H2=>tb { D with nx:=N,ct:=N,bk:=D.nx } σ2 H2):=by
  refine⟨fun i m σ H=>m=n-i/\i<=n/\Pv i σ H,⟨n,by simp,xaG _,h0⟩,?_⟩;rintro i m σ H ⟨rfl,hi,p⟩;by_cases hlt:i<n
  . refine .inr ⟨hlt,Pv (i+1),fun σ' H' p'=>⟨n-(i+1),by omega,rfl,hlt,p'⟩,fun x H' y=>?_⟩
    obtain⟨e,y⟩:=y;subst e y;exact hs i σ _ hlt p
  . have e:i=n:=by omega
    subst e;exact .inl ⟨xae _,hd σ H p⟩
abbrev R2:=V->V->Hp->VK->Prop
def OpR (X:Cx) (f:Value->Value->Sem Value) (r:R2):Prop :=
  ∀ (pins : List (Addr × Obj)) (s : Shared) (σ : St) (H : Hp) (x y : V) (v u : Value) (Q : VK), Inv X pins σ H s -> RelV x v -> RelV y u -> r x y H Q ->
    wpAny (model X.prog X.w) X.A (f v u) (EP X pins σ Q) X.xe s
def UnR (X:Cx) (f:Value->Sem Value) (r:V->Hp->VK->Prop):Prop :=
  ∀ (pins : List (Addr × Obj)) (s : Shared) (σ : St) (H : Hp) (x : V) (v : Value) (Q : VK), Inv X pins σ H s -> RelV x v -> r x H Q ->
    wpAny (model X.prog X.w) X.A (f v) (EP X pins σ Q) X.xe s
def CallR (X:Cx) (f:Value) (r:List V->Hp->VK->Prop):Prop :=
  ∀ (pins : List (Addr × Obj)) (s : Shared) (σ : St) (H : Hp) (xs : List V) (us : List Value) (Q : VK), Inv X pins σ H s -> Vals xs us -> r xs H Q ->
    wpAny (model X.prog X.w) X.A (call f us) (EP X pins σ Q) X.xe s
def TruR (X:Cx) (r:V->Hp->(Bool->Hp->Prop)->Prop):Prop :=
  ∀ (pins : List (Addr × Obj)) (s : Shared) (σ : St) (H : Hp) (x : V) (v : Value) (Q : Bool -> Hp -> Prop), Inv X pins σ H s -> RelV x v -> r x H Q ->
    wpAny (model X.prog X.w) X.A (truthy v) (TP X pins σ Q) X.xe s
def tOp (r:R2) (ta tb:TE):TE:=fun σ H Q=>ta σ H fun x H1=>tb σ H1 fun y H2=>r x y H2 Q
def tUn (r:V->Hp->VK->Prop) (ta:TE):TE:=fun σ H Q=>ta σ H fun x H1=>r x H1 Q
def rI (C:Int->Int->Prop) (g:Int->Int->V):R2:=fun x y H Q=>∃i j,x=.int i/\y=.int j/\C i j/\Q (g i j) H
def rI0 (g:Int->Int->V):R2:=fun x y H Q=>∃i j,x=.int i/\y=.int j/\Q (g i j) H
def rU (g:Int->V):V->Hp->VK->Prop:=fun x H Q=>∃i,x=.int i/\Q (g i) H
section
variable {X:Cx} {a b c:Expr} {ta tb tc:TE} {pos:Pos}
theorem binT (ha:PE X a ta) (hb:PE X b tb) {pins:List (Addr × Obj)} {s:Shared} {σ:St} {H:Hp} {R:V->V->Hp->Prop} (I:Inv X pins σ H s)
  (h:ta σ H fun x H1=>tb σ H1 fun y H2=>R x y H2) {Q:Value->Shared->Prop} {f:Value->Value->Sem Value}
  (hf:∀v u s2 x y H2,Inv X pins σ H2 s2->RelV x v->RelV y u->R x y H2->wpAny (model X.prog X.w) X.A (f v u) Q X.xe s2) :
  wpAny (model X.prog X.w) X.A (eval a X.env) (fun v s₁=>wpAny (model X.prog X.w) X.A (eval b X.env) (fun u s₂=>wpAny (model X.prog X.w) X.A (f v u) Q X.xe s₂) X.xe s₁) X.xe s:=by
 refine thn (ha pins s σ H _ I h) fun v s1 ⟨x,H1,I1,r1,q1⟩=>?_;refine thn (hb pins s1 σ H1 _ I1 q1) fun u s2 ⟨y,H2,I2,r2,q2⟩=>?_;exact hf v u s2 x y H2 I2 r1 r2 q2
theorem jao {op:Operator} {r:R2} (ho:OpR X (binaryOp op) r) (ha:PE X a ta) (hb:PE X b tb):PE X (.BinOp a op b pos) (tOp r ta tb):=by
 intro pins s σ H Q I h;exact wpAny_BinOp (binT ha hb I h fun v u s2 x y H2 I2 rx ry q=>ho pins s2 σ H2 x y v u Q I2 rx ry q)
theorem jfJ {op:UnaryOp} {r:V->Hp->VK->Prop} (ho:UnR X (unaryOp op) r) (ha:PE X a ta):PE X (.UnaryOp op a pos) (tUn r ta):=by
 intro pins s σ H Q I h;exact UnaryOp_ (thn (ha pins s σ H _ I h) fun v s1 ⟨x,H1,I1,r1,q1⟩=>ho pins s1 σ H1 x v Q I1 r1 q1)
theorem opI {f:Value->Value->Sem Value} {C:Int->Int->Prop} {g:Int->Int->Int}
  (rule:∀(i j:Int) (t u:Tok) (s:Shared) (Q:Value->Shared->Prop) (E:Value->Shared->Prop),C i j->Q (.int (g i j) s.toks) { s with toks:=s.toks+1 }->wpAny (model X.prog X.w) X.A (f (.int i t) (.int j u)) Q E s) :
  OpR X f (rI C fun i j=>.int (g i j)):=by
 intro pins s σ H x y v u Q I rx ry h;obtain⟨i,j,rfl,rfl,hc,q⟩:=h;obtain⟨t,rfl⟩:=rx;obtain⟨t',rfl⟩:=ry;exact rule i j t t' s _ _ hc ⟨.int (g i j),H,I.tok _,⟨_,rfl⟩,q⟩
theorem opI0 {f:Value->Value->Sem Value} {g:Int->Int->Int}
  (rule:∀(i j:Int) (t u:Tok) (s:Shared) (Q:Value->Shared->Prop) (E:Value->Shared->Prop),Q (.int (g i j) s.toks) { s with toks:=s.toks+1 }->wpAny (model X.prog X.w) X.A (f (.int i t) (.int j u)) Q E s) :
  OpR X f (rI0 fun i j=>.int (g i j)):=by
 intro pins s σ H x y v u Q I rx ry h;obtain⟨i,j,rfl,rfl,q⟩:=h;obtain⟨t,rfl⟩:=rx;obtain⟨t',rfl⟩:=ry;exact rule i j t t' s _ _ ⟨.int (g i j),H,I.tok _,⟨_,rfl⟩,q⟩
theorem opB0 {f:Value->Value->Sem Value} {g:Int->Int->Bool}
  (rule:∀(i j:Int) (t u:Tok) (s:Shared) (Q:Value->Shared->Prop) (E:Value->Shared->Prop),Q (.bool (g i j)) s->wpAny (model X.prog X.w) X.A (f (.int i t) (.int j u)) Q E s) :
  OpR X f (rI0 fun i j=>.bl (g i j)):=by
 intro pins s σ H x y v u Q I rx ry h;obtain⟨i,j,rfl,rfl,q⟩:=h;obtain⟨t,rfl⟩:=rx;obtain⟨t',rfl⟩:=ry;exact rule i j t t' s _ _ ⟨.bl (g i j),H,I,rfl,q⟩
def CPow (i j:Int):Prop:=0<=j/\j<=1000000/\i.natAbs<2^64
theorem two_pow_nn (k:Nat):(0:Int)<=2^k:=by
 rw[two_pow_cast];exact Int.natCast_nonneg _
theorem jbu:OpR X (binaryOp .Add) (rI0 fun i j=>.int (i+j)):=opI0 fun _ _ _ _ _ _ _ q=>add_int q
theorem jbF:OpR X (binaryOp .Sub) (rI0 fun i j=>.int (i-j)):=opI0 fun _ _ _ _ _ _ _ q=>sub_int q
theorem jcR:OpR X (binaryOp .Mod) (rI (fun _ j=>0<j) fun i j=>.int (i % j)):=opI fun i j _ _ _ _ _ hc q=>by
 have h1:(0:Int)<j:=hc;exact mod_int' (by omega) (by rw[Int.fmod_eq_emod_of_nonneg i (by omega)];exact q)
theorem jgJ:OpR X (binaryOp .Pow) (rI CPow fun i j=>.int (i^j.toNat)):=opI fun _ _ _ _ _ _ _ hc q=>pow_int_small hc.1 hc.2.1 hc.2.2 q
theorem jmX:OpR X (binaryOp .RShift) (rI (fun _ j=>0<=j) fun i j=>.int (i / 2^j.toNat)):=opI fun i j _ _ _ _ _ hc q =>
 rshift_int hc (by rw[Int.fdiv_eq_ediv_of_nonneg i (two_pow_nn _)];exact q)
theorem unI {f:Value->Sem Value} {g:Int->Int}
  (rule:∀(i:Int) (t:Tok) (s:Shared) (Q:Value->Shared->Prop) (E:Value->Shared->Prop),Q (.int (g i) s.toks) { s with toks:=s.toks+1 }->wpAny (model X.prog X.w) X.A (f (.int i t)) Q E s) :
  UnR X f (rU fun i=>.int (g i)):=by
 intro pins s σ H x v Q I rx h;obtain⟨i,rfl,q⟩:=h;obtain⟨t,rfl⟩:=rx;exact rule i t s _ _ ⟨.int (g i),H,I.tok _,⟨_,rfl⟩,q⟩
theorem jdO:UnR X (unaryOp .USub) (rU fun i=>.int (-i)):=unI fun _ _ _ _ _ q=>neg_int q
end
def jmB:V->V->Bool
 | .non,.non=>true | .non,.int _=>true | .int _,.non=>true | .non,.bl _=>true | .bl _,.non=>true | .non,.str _=>true | .str _,.non=>true
 | .int _,.int _=>true | .bl _,.bl _=>true | .str _,.str _=>true | .byt _,.byt _=>true
 | .int _,.str _=>true | .str _,.int _=>true | .bl _,.str _=>true | .str _,.bl _=>true
 | _,_=>false
def rEq:R2:=fun x y H Q=>jmB x y=true/\Q (.bl (decide (x=y))) H
def rNe:R2:=fun x y H Q=>jmB x y=true/\Q (.bl (!decide (x=y))) H
theorem jhZ {i j:Int}:decide (V.int i=V.int j)=(i==j):=by
 rw[xbq];simp
theorem jkE {i j:Bool}:decide (V.bl i=V.bl j)=(i==j):=by
 rw[xbq];simp
theorem jh0 {i j:Str}:decide (V.str i=V.str j)=(i==j):=by
 rw[xbq];simp
theorem jh1 {i j:Array UInt8}:decide (V.byt i=V.byt j)=(i.toList==j.toList):=by
 rw[xbq];cases i;cases j;simp
section
variable {X:Cx} {a b c:Expr} {ta tb tc:TE} {pos:Pos}
theorem jaM {pins:List (Addr × Obj)} {σ:St} {H:Hp} {s:Shared} {Q:VK} {k k':Bool} (I:Inv X pins σ H s) (q:Q (.bl k) H) (e:k=k'):EP X pins σ Q (.bool k') s:=by
 subst e;exact⟨.bl k,H,I,rfl,q⟩
theorem jcN:OpR X (compareOp .Eq) rEq:=by
  intro pins s σ H x y v u Q I rx ry h;obtain⟨hs,q⟩:=h;cases x with
  | non =>
    cases rx;cases y with
    | non=>cases ry;exact PySem.EqNone.eq_none_none (jaM I q (by simp))
    | bl j=>cases ry;exact PySem.EqNone.eq_none_bool (jaM I q (by simp))
    | int j=>obtain⟨t',rfl⟩:=ry;exact PySem.EqNone.eq_none_int (jaM I q (by simp))
    | str j=>obtain⟨t',rfl⟩:=ry;exact PySem.EqNone.eq_none_str (jaM I q (by simp))
    | _=>exact absurd (show false=true from hs) xar
  | bl i =>
    cases rx;cases y with
    | non=>cases ry;exact PySem.EqNone.eq_bool_none (jaM I q (by simp))
    | bl j=>cases ry;exact eq_bool (jaM I q jkE)
    | str j=>obtain⟨t',rfl⟩:=ry;exact PySem.EqMixed.eq_bool_str (jaM I q (by simp))
    | _=>exact absurd (show false=true from hs) xar
  | int i =>
    obtain⟨t,rfl⟩:=rx;cases y with
    | non=>cases ry;exact PySem.EqNone.eq_int_none (jaM I q (by simp))
    | int j=>obtain⟨t',rfl⟩:=ry;exact eq_int (jaM I q jhZ)
    | str j=>obtain⟨t',rfl⟩:=ry;exact PySem.EqMixed.eq_int_str (jaM I q (by simp))
    | _=>exact absurd (show false=true from hs) xar
  | str i =>
    obtain⟨t,rfl⟩:=rx;cases y with
    | non=>cases ry;exact PySem.EqNone.eq_str_none (jaM I q (by simp))
    | bl j=>cases ry;exact PySem.EqMixed.eq_str_bool (jaM I q (by simp))
    | int j=>obtain⟨t',rfl⟩:=ry;exact PySem.EqMixed.eq_str_int (jaM I q (by simp))
    | str j=>obtain⟨t',rfl⟩:=ry;exact eq_str (jaM I q jh0)
    | _=>exact absurd (show false=true from hs) xar
  | byt i =>
    obtain⟨t,rfl⟩:=rx;cases y with
    | byt j=>obtain⟨t',rfl⟩:=ry;exact PySem.W.eq_bytes (jaM I q jh1)
    | _=>exact absurd (show false=true from hs) xar
  | _=>cases y<;>exact absurd (show false=true from hs) xar
theorem jcn:OpR X (compareOp .NotEq) rNe:=by
  intro pins s σ H x y v u Q I rx ry h;obtain⟨hs,q⟩:=h;cases x with
  | non =>
    cases rx;cases y with
    | non=>cases ry;exact PySem.EqNone.ne_none_none (jaM I q (by simp))
    | bl j=>cases ry;exact PySem.EqNone.ne_none_bool (jaM I q (by simp))
    | int j=>obtain⟨t',rfl⟩:=ry;exact PySem.EqNone.ne_none_int (jaM I q (by simp))
    | str j=>obtain⟨t',rfl⟩:=ry;exact PySem.EqNone.ne_none_str (jaM I q (by simp))
    | _=>exact absurd (show false=true from hs) xar
  | bl i =>
    cases rx;cases y with
    | non=>cases ry;exact PySem.EqNone.ne_bool_none (jaM I q (by simp))
    | bl j=>cases ry;exact ne_bool (jaM I q (congrArg not jkE))
    | str j=>obtain⟨t',rfl⟩:=ry;exact PySem.EqMixed.ne_bool_str (jaM I q (by simp))
    | _=>exact absurd (show false=true from hs) xar
  | int i =>
    obtain⟨t,rfl⟩:=rx;cases y with
    | non=>cases ry;exact PySem.EqNone.ne_int_none (jaM I q (by simp))
    | int j=>obtain⟨t',rfl⟩:=ry;exact ne_int (jaM I q (congrArg not jhZ))
    | str j=>obtain⟨t',rfl⟩:=ry;exact PySem.EqMixed.ne_int_str (jaM I q (by simp))
    | _=>exact absurd (show false=true from hs) xar
  | str i =>
    obtain⟨t,rfl⟩:=rx;cases y with
    | non=>cases ry;exact PySem.EqNone.ne_str_none (jaM I q (by simp))
    | bl j=>cases ry;exact PySem.EqMixed.ne_str_bool (jaM I q (by simp))
    | int j=>obtain⟨t',rfl⟩:=ry;exact PySem.EqMixed.ne_str_int (jaM I q (by simp))
    | str j=>obtain⟨t',rfl⟩:=ry;exact ne_str (jaM I q (congrArg not jh0))
    | _=>exact absurd (show false=true from hs) xar
  | byt i =>
    obtain⟨t,rfl⟩:=rx;cases y with
    | byt j=>obtain⟨t',rfl⟩:=ry;exact PySem.W.ne_bytes (jaM I q (congrArg not jh1))
    | _=>exact absurd (show false=true from hs) xar
  | _=>cases y<;>exact absurd (show false=true from hs) xar
theorem jhs:OpR X (compareOp .Lt) (rI0 fun i j=>.bl (decide (i<j))):=opB0 fun _ _ _ _ _ _ _ q=>lt_int q
theorem jgi:OpR X (compareOp .LtE) (rI0 fun i j=>.bl (decide (i<=j))):=opB0 fun _ _ _ _ _ _ _ q=>le_int q
theorem jfK:OpR X (compareOp .Gt) (rI0 fun i j=>.bl (decide (j<i))):=opB0 fun _ _ _ _ _ _ _ q=>gt_int q
theorem jmY:OpR X (compareOp .GtE) (rI0 fun i j=>.bl (decide (j<=i))):=opB0 fun _ _ _ _ _ _ _ q=>ge_int q
theorem jh2:OpR X (compareOp .In) (fun x y H Q=>∃i j,x=.str i/\y=.str j/\Q (.bl (!(Builtin.Str.occurrences j i 0 j.length 1).isEmpty)) H):=by
 intro pins s σ H x y v u Q I rx ry h;obtain⟨i,j,rfl,rfl,q⟩:=h;obtain⟨t,rfl⟩:=rx;obtain⟨t',rfl⟩:=ry;exact in_str (jaM I q rfl)
theorem OpR.or {f:Value->Value->Sem Value} {r r':R2} (h:OpR X f r) (h':OpR X f r'):OpR X f (fun x y H Q=>r x y H Q\/r' x y H Q):=by
 intro pins s σ H x y v u Q I rx ry q;rcases q with q | q
 ·exact h pins s σ H x y v u Q I rx ry q
 ·exact h' pins s σ H x y v u Q I rx ry q
theorem jaw (b:Expr) {op:CmpOp} (h:op≠.In:=by decide) (h2:op≠.NotIn:=by decide):behindInMarks op b=false:=by
 have e1:(op==CmpOp.In)=false:=by cases op<;>first | rfl | exact absurd rfl h
 have e2:(op==CmpOp.NotIn)=false:=by cases op<;>first | rfl | exact absurd rfl h2
 cases b<;>simp [behindInMarks,e1,e2]
theorem jb8 {op:CmpOp} {r:R2} (ho:OpR X (compareOp op) r) (ha:PE X a ta) (hb:PE X b tb) (hm:behindInMarks op b=false):PE X (.Compare a [op] [b] pos) (tOp r ta tb):=by
 intro pins s σ H Q I h;exact wpAny_Compare1 (binT ha hb I h fun v u s2 x y H2 I2 rx ry q=>ho pins s2 σ H2 x y v u Q I2 rx ry q) hm
def jht (t:TE):TT:=fun σ H Q=>t σ H fun x H'=>∃k,x=.bl k/\Q k H'
theorem jat {op:CmpOp} {r:R2} (ho:OpR X (compareOp op) r) (ha:PE X a ta) (hb:PE X b tb) (hm:behindInMarks op b=false):PT X (.Compare a [op] [b] pos) (jht (tOp r ta tb)):=by
 intro pins s σ H Q I h;refine wpAny_isTrue_Compare1 (thn (ha pins s σ H _ I h) fun v s1 ⟨x,H1,I1,r1,q1⟩=>thn (hb pins s1 σ H1 _ I1 q1) fun u s2 ⟨y,H2,I2,r2,q2⟩ =>
  thn (ho pins s2 σ H2 x y v u _ I2 r1 r2 q2) fun c s3 ⟨z,H3,I3,r3,k,e,q3⟩=>?_) hm
 subst e;cases r3;exact wpAny_truthy_bool ⟨H3,I3,q3⟩
def jgK (r r':R2) (ta tb tc:TE):TE:=fun σ H Q=>ta σ H fun x H1=>tb σ H1 fun y H2=>r x y H2 fun z H3=>∃k,z=.bl k /\
 (if k=true then tc σ H3 fun w' H4=>r' y w' H4 Q else Q (.bl false) H3)
theorem jjz {op op':CmpOp} {r r':R2} (ho:OpR X (compareOp op) r) (ho':OpR X (compareOp op') r') (ha:PE X a ta) (hb:PE X b tb) (hc:PE X c tc)
  (hm:lastMarks [op,op'] [b,c]=false:=by with_unfolding_all rfl):PE X (.Compare a [op,op'] [b,c] pos) (jgK r r' ta tb tc):=by
 intro pins s σ H Q I h;refine Compare_chain (thn (ha pins s σ H _ I h) fun v s1 ⟨x,H1,I1,r1,q1⟩=>chain_link (thn (hb pins s1 σ H1 _ I1 q1) fun u s2 ⟨y,H2,I2,r2,q2⟩ =>
  thn (ho pins s2 σ H2 x y v u _ I2 r1 r2 q2) fun d s3 ⟨z,H3,I3,r3,k,e,q3⟩=>?_)) hm
 subst e;cases r3;refine wpAny_truthy_bool ?_;cases k with
 | false=>exact ite_ff ⟨.bl false,H3,I3,rfl,q3⟩
 | true=>exact ite_tt (chain_last (thn (hc pins s3 σ H3 _ I3 q3) fun w' s4 ⟨z',H4,I4,r4,q4⟩=>ho' pins s4 σ H4 y z' u w' Q I4 r2 r4 q4))
theorem jgL {op op':CmpOp} {r r':R2} (ho:OpR X (compareOp op) r) (ho':OpR X (compareOp op') r') (ha:PE X a ta) (hb:PE X b tb) (hc:PE X c tc)
    (hm:lastMarks [op,op'] [b,c]=false:=by with_unfolding_all rfl):PT X (.Compare a [op,op'] [b,c] pos) (jht (jgK r r' ta tb tc)):=by
  intro pins s σ H Q I h;refine isTrue_chain (thn (ha pins s σ H _ I h) fun v s1 ⟨x,H1,I1,r1,q1⟩=>test_link (thn (hb pins s1 σ H1 _ I1 q1) fun u s2 ⟨y,H2,I2,r2,q2⟩ =>
    thn (ho pins s2 σ H2 x y v u _ I2 r1 r2 q2) fun d s3 ⟨z,H3,I3,r3,k,e,q3⟩=>?_)) hm
  subst e;cases r3;refine wpAny_truthy_bool ?_;cases k with
  | false =>
    obtain⟨k',e',q'⟩:=q3;cases e';exact ite_ff ⟨H3,I3,q'⟩
  | true =>
    refine ite_tt (test_last (thn (hc pins s3 σ H3 _ I3 q3) fun w' s4 ⟨z',H4,I4,r4,q4⟩=>thn (ho' pins s4 σ H4 y z' u w' _ I4 r2 r4 q4) fun d' s5 ⟨z2,H5,I5,r5,k2,e2,q5⟩=>?_));subst e2;cases r5;exact wpAny_truthy_bool ⟨H5,I5,q5⟩
def TruV (K:PySem.W.Frag) (x:V) (H:Hp) (k:Bool):Prop :=
 match x with
 | .non=>k=false
 | .bl b=>k=b
 | .int i=>k=(i != 0)
 | .str y=>y.length<=sizeLine/\k=((y.length:Int) != 0)
 | .byt y=>y.size<=sizeLine/\k=((y.size:Int) != 0)
 | .ref p=>(∃xs,SqL K H p xs/\k=!xs.isEmpty)\/(∃xs,SqT K H p xs/\k=!xs.isEmpty)\/∃kvs,H p=some (.dK kvs)/\k=!kvs.isEmpty
 | _=>False
theorem jhu {κ:Type} {kvs:List (κ × V)} {vs:List (κ × Value)} (r:KV kvs vs):(!vs.isEmpty)=!kvs.isEmpty:=by
 cases r<;>rfl
theorem jeY {xs:List V} {its:List Value} (r:Vals xs its):(!its.toArray.isEmpty)=!xs.isEmpty:=by
 cases r<;>simp
theorem jeZ:(sizeLine:Nat)<2^63:=by rw[sizeLine_eq];decide
theorem jmZ:TruR X (fun x H Q=>∃k,TruV X.K x H k/\Q k H):=by
  intro pins s σ H x v Q I rx h;obtain⟨k,e,q⟩:=h;have hl:=jeZ;have hs:sizeLine=16777216:=sizeLine_eq;cases x with
  | non =>
    cases rx;have e':k=false:=e;subst e';exact truthy_none ⟨H,I,q⟩
  | bl b =>
    cases rx;have e':k=b:=e;subst e';exact wpAny_truthy_bool ⟨H,I,q⟩
  | int i =>
    obtain⟨t,rfl⟩:=rx;have e':k=(i != 0):=e;subst e';exact PySem.P.truthy_int ⟨H,I,q⟩
  | str y =>
    obtain⟨t,rfl⟩:=rx;obtain⟨hy,e'⟩:y.length<=sizeLine/\k=((y.length:Int) != 0):=e;subst e';exact PySem.P.truthy_str (by omega) ⟨H,I.tok _,q⟩
  | byt y =>
    obtain⟨t,rfl⟩:=rx;obtain⟨hy,e'⟩:y.size<=sizeLine/\k=((y.size:Int) != 0):=e;subst e';exact PySem.W.truthy_bytes (by omega) ⟨H,I.tok _,q⟩
  | ref p =>
    cases rx;have e':(∃xs,SqL X.K H p xs/\k=!xs.isEmpty)\/(∃xs,SqT X.K H p xs/\k=!xs.isEmpty)\/∃kvs,H p=some (.dK kvs)/\k=!kvs.isEmpty:=e;rcases e' with ⟨xs,hx,e'⟩ | ⟨xs,hx,e'⟩ | ⟨kvs,hx,e'⟩
    . subst e'
      obtain⟨its,r,pl,hz⟩:=I.list hx;have hlen:=r.length;exact wpAny_truthy_list pl.isList (by simp only[xai];omega) ⟨H,I.tok _,by rw[jeY r];exact q⟩
    . subst e'
      obtain⟨its,r,pl,hz⟩:=I.tuple hx;have hlen:=r.length;exact truthy_tuple pl (by simp only[xai];omega) ⟨H,I.tok _,by rw[jeY r];exact q⟩
    . subst e'
      obtain⟨hz,hS,vs,r,m⟩:kvs.length<=sizeLine/\(p==sysModules)=false/\∃vs,KV kvs vs/\s.heap.DictOf (jgg X.prog X.w) p vs:=I.hok p _ hx;have hlen:kvs.length=vs.length:=Paired.length r;exact wpAny_truthy_dict hS m (by omega) ⟨H,I.tok _,by rw[jhu r];exact q⟩
  | _=>exact (show False from e).elim
theorem jjA (ha:PE X a ta) (he:∀whole,isTrue a X.env whole=(do let v <- whole;standAt a.pos;holding [v] (truthy v))) :
  PT X a (fun σ H Q=>ta σ H fun x H'=>∃k,TruV X.K x H' k/\Q k H'):=by
 intro pins s σ H Q I h;exact isTrue_plain (thn (ha pins s σ H _ I h) fun v s1 ⟨x,H1,I1,r1,q1⟩=>jmZ pins s1 σ H1 x v Q I1 r1 q1) (he _)
theorem jaP:OpR X (binaryOp .Add) (fun x y H Q=>∃i j,x=.str i/\y=.str j/\i.length+j.length<=sizeLine/\Q (.str (i++j)) H):=by
 intro pins s σ H x y v u Q I rx ry h;obtain⟨i,j,rfl,rfl,hz,q⟩:=h;obtain⟨t,rfl⟩:=rx;obtain⟨t',rfl⟩:=ry;exact add_str (fun t' tk=>⟨.str (i++j),H,I.tok _,⟨_,rfl⟩,q⟩) hz
def jjB (b:Expr):Prop:=∀o i,subscripted b false o i=operate [o,i] (getItem o i)
theorem jek (ha:PE X a ta) (hb:PE X b tb) (hs:jjB b) :
  PE X (.Subscript a b pos) (tOp (fun x y H Q=>∃z i c,x=.str z/\y=.int i/\0<=i/\i<2^63/\i<z.length/\z.cps[i.toNat]?=some c/\Q (.str ⟨#[c]⟩) H) ta tb):=by
 intro pins s σ H Q I h;refine Subscript_ (binT ha hb I h fun v u s2 x y H2 I2 rx ry q=>?_);obtain⟨z,i,c,rfl,rfl,h0,h63,h1,hc,q⟩:=q;obtain⟨t,rfl⟩:=rx;obtain⟨t',rfl⟩:=ry;have e:seqIndex? i z.length=some i.toNat:=PySem.StrLaws.seqIndex_nonneg h0 h1;exact tail_any (typeIs_str s2 z t) slot_str_getitem.lookup (getItem_str (c:=c) (by
  have e1:decide (i < -(2^63:Int))=false:=decide_eq_false (by omega);have e2:decide (i≥2^63)=false:=decide_eq_false (by omega);rw[e1,e2]<;>rfl) (by rw[e];exact hc) ⟨.str ⟨#[c]⟩,H2,I2.tok _,⟨_,rfl⟩,q⟩) (hs _ _)
theorem jcO {x:V} {us:List Value} (r:Vals [x] us):∃u,us=[u]/\RelV x u:=by
 cases r with
 | cons r1 r2=>cases r2;exact⟨_,rfl,r1⟩
theorem jls {x y:V} {us:List Value} (r:Vals [x,y] us):∃u w',us=[u,w']/\RelV x u/\RelV y w':=by
  cases r with
  | cons r1 r2 =>
    cases r2 with
    | cons r3 r4=>cases r4;exact⟨_,_,rfl,r1,r3⟩
theorem jb9:CallR X (.builtin "abs") (fun xs H Q=>∃i,xs=[.int i]/\Q (.int (if i<0 then -i else i)) H):=by
 intro pins s σ H xs us Q I r h;obtain⟨i,rfl,q⟩:=h;obtain⟨u,rfl,t,rfl⟩:=jcO r;exact call_abs_int fun u tk=>⟨.int (if i<0 then -i else i),H,I.tok _,⟨_,rfl⟩,q⟩
theorem jh3 (hc:X.calm=true):CallR X (.builtin "max") (fun xs H Q=>∃i j,xs=[.int i,.int j]/\Q (.int (if j>i then j else i)) H):=by
 intro pins s σ H xs us Q I r h;obtain⟨i,j,rfl,q⟩:=h;obtain⟨u,w',rfl,⟨t,rfl⟩,⟨t',rfl⟩⟩:=jls r;refine max_two_ints (I.ok.hd hc) fun h' tk k=>⟨_,H,I.kept k,?_,q⟩;by_cases hj:j>i
 ·rw[if_pos hj,if_pos hj];exact⟨_,rfl⟩
 ·rw[if_neg hj,if_neg hj];exact⟨_,rfl⟩
theorem jh4 (hc:X.calm=true):CallR X (.builtin "min") (fun xs H Q=>∃i j,xs=[.int i,.int j]/\Q (.int (if j<i then j else i)) H):=by
 intro pins s σ H xs us Q I r h;obtain⟨i,j,rfl,q⟩:=h;obtain⟨u,w',rfl,⟨t,rfl⟩,⟨t',rfl⟩⟩:=jls r;refine min_two_ints (I.ok.hd hc) fun h' tk k=>⟨_,H,I.kept k,?_,q⟩;by_cases hj:j<i
 ·rw[if_pos hj,if_pos hj];exact⟨_,rfl⟩
 ·rw[if_neg hj,if_neg hj];exact⟨_,rfl⟩
theorem jh5:CallR X (.type "int") (fun xs H Q=>(∃i,xs=[.int i]/\Q (.int i) H)\/∃k,xs=[.bl k]/\Q (.int (if k then 1 else 0)) H):=by
 intro pins s σ H xs us Q I r h;rcases h with ⟨i,rfl,q⟩ | ⟨k,rfl,q⟩
 ·obtain⟨u,rfl,t,rfl⟩:=jcO r;exact call_int_int ⟨.int i,H,I,⟨_,rfl⟩,q⟩
 ·obtain⟨u,rfl,r1⟩:=jcO r;cases r1;exact call_int_bool ⟨.int (if k then 1 else 0),H,I.tok _,⟨_,rfl⟩,q⟩
def LenV (K:PySem.W.Frag) (x:V) (H:Hp) (n:Nat):Prop :=
 match x with
 | .str y=>y.length<=sizeLine/\n=y.length
 | .byt y=>y.size<=sizeLine/\n=y.size
 | .ref p=>(∃xs,SqL K H p xs/\n=xs.length)\/∃xs,SqT K H p xs/\n=xs.length
 | _=>False
theorem jgM:CallR X (.builtin "len") (fun xs H Q=>∃x n,xs=[x]/\LenV X.K x H n/\Q (.int n) H):=by
  intro pins s σ H xs us Q I r h;obtain⟨x,n,rfl,e,q⟩:=h;obtain⟨u,rfl,rx⟩:=jcO r;have hl:=jeZ;have hs:sizeLine=16777216:=sizeLine_eq;cases x with
  | str y =>
    obtain⟨t,rfl⟩:=rx;obtain⟨hy,e'⟩:y.length<=sizeLine/\n=y.length:=e;subst e';exact len_str (by omega) ⟨.int _,H,I.tok _,⟨_,rfl⟩,q⟩
  | byt y =>
    obtain⟨t,rfl⟩:=rx;obtain⟨hy,e'⟩:y.size<=sizeLine/\n=y.size:=e;subst e';exact PySem.W.len_bytes (by omega) ⟨.int _,H,I.tok _,⟨_,rfl⟩,q⟩
  | ref p =>
    cases rx;have e':(∃xs,SqL X.K H p xs/\n=xs.length)\/∃xs,SqT X.K H p xs/\n=xs.length:=e;rcases e' with ⟨xs,hx,e'⟩ | ⟨xs,hx,e'⟩
    . subst e'
      obtain⟨its,r',pl,hz⟩:=I.list hx;have hlen:=r'.length;exact Calls.call_len_list pl.isList (by simp only[xai];omega) ⟨.int xs.length,H,I.tok _,⟨_,by simp only[xai];rw[hlen]⟩,q⟩
    . subst e'
      obtain⟨its,r',pl,hz⟩:=I.tuple hx;have hlen:=r'.length;exact len_tuple pl (by simp only[xai];omega) ⟨.int xs.length,H,I.tok _,⟨_,by simp only[xai];rw[hlen]⟩,q⟩
  | _=>exact (show False from e).elim
end
structure ObjM (h:Heap) (x dx C:Addr) (mA:Str->Option Value):Prop where
 obj:h.get? x=some (PySem.W.instObj C dx)
 ns:h.Ns1 dx mA
 ne:dx≠x
theorem jh6 {h:Heap} {dx:Addr} {mA:Str->Option Value} (n:h.Ns1 dx mA):∃od,h.get? dx=some od/\∀name,PySem.W.lookIn name od=some (mA name):=by
 obtain⟨o,es,ep,ho,hd,hk,_,hm⟩:=n;refine⟨o,ho,fun name=>?_⟩;have e:=hm name;unfold nsFind findBy at e;rw[<- Array.find?_toList] at e;unfold PySem.W.lookIn;rw[hd];dsimp only;split
 ·rename_i y q
  rw[q] at e;exact congrArg some e
 ·rename_i q
  rw[q] at e;have a:es.toList.any (·.refKey)=false:=by
   rw[xbv];intro y hy;obtain⟨z,t,hkey⟩:=hk y (Array.mem_toList_iff.mp hy);simp [DictEntry.refKey,hkey]
  have a':¬es.toList.any (·.refKey)=true:=by rw[a];exact xar
  rw[if_neg a'];exact congrArg some e
theorem ObjM.look {h:Heap} {x dx C:Addr} {mA:Str->Option Value} (I:ObjM h x dx C mA):∃od,PySem.W.InstAt h x (PySem.W.instObj C dx) C (some od)/\∀name,PySem.W.lookIn name od=some (mA name) :=
 let ⟨od,ho,hl⟩:=jh6 I.ns
 ⟨od,⟨I.obj,rfl,rfl,ho⟩,hl⟩
section
variable {prog:Program} {w:World} {A:Around} {E:Value->Shared->Prop} {s:Shared} {K:PySem.W.Frag} {x dx C f:Addr} {mA:Str->Option Value} {name:Str} {v:Value}
theorem jlt {expr:Bool} {Q:Value->Shared->Prop} (X:K.In s.heap) (I:ObjM s.heap x dx C mA) (hg:PySem.W.plainGet K C name=true) (hh:PySem.W.hasDictIn K C=true)
  (ha:PySem.W.findIn K (.ref C) name=some none) (hv:mA name=some v) (hv':PySem.W.handedIn v=true) (h:Q v { s with toks:=s.toks+1 }) :
  wpAny (model prog w) A (getAttr (.ref x) name expr) Q E s:=by
 obtain⟨od,J,hl⟩:=I.look;exact PySem.W.get_value X J (PySem.W.plainGet_of hg).1 (PySem.W.findObj_own hh ha rfl (by rw[hl,hv])) hv' h
theorem jjC {pl:Sem Bool} {Q:Value × List Value->Shared->Prop} (X:K.In s.heap) (I:ObjM s.heap x dx C mA) (hg:PySem.W.plainGet K C name=true)
  (hf:PySem.W.findIn K (.ref C) name=some (some (.ref f))) (ht:PySem.W.isFn K (.ref f)=true) (hv:mA name=none) (h:Q (.ref f,[.ref x]) s) :
  wpAny (model prog w) A (getMethod (.ref x) name pl) Q E s:=by
 obtain⟨od,J,hl⟩:=I.look;exact PySem.W.method_fn X J (PySem.W.plainGet_of hg).1 (PySem.W.plainGet_of hg).2 hf (beq_iff_eq.mp ht) (by show (PySem.W.lookIn name od).map (·.isSome)=some false;rw[hl,hv];rfl) h
theorem jlu {ns:List Str} {Q:Unit->Shared->Prop} (X:K.In s.heap) (I:ObjM s.heap x dx C mA)
  (hs:PySem.W.findIn K (.ref C) "__setattr__"=some (some (.builtin "object.__setattr__"))) (hp:PySem.W.plainOver K C=true) (ht:PySem.W.takerIn K C name=some none) (hh:PySem.W.hasDictIn K C=true)
  (hw:PySem.Within mA ns) (hsz:ns.length<=sizeLine)
  (h:∀h',ObjM h' x dx C (fun y=>if y=name then some v else mA y)->Heap.SameBut dx s.heap h'->Q () { s with heap:=h',toks:=s.toks+2 }) :
  wpAny (model prog w) A (setAttr (.ref x) name v) Q E s:=by
 obtain⟨od,J,hl⟩:=I.look;refine PySem.W.set_plain X J hs (PySem.W.osa_open (s:={ s with toks:=s.toks+1 }) (r:=none) X J hp ht fun b=>?_);obtain⟨cd,hc,hd'⟩:=PySem.W.any_some hh;have hx:s.heap.get? x=some ⟨.ref C,some dx,.plain,#[]⟩:=I.obj;refine wpAny_bind (wpAny_pure (wpAny_bind (wpAny_bind (wpAny_loadPart hx (wpAny_bind (PySem.W.Looks.here (s:={ s with toks:=s.toks+1 }) (PySem.W.looks_clsIn X hc) ?_))))));rw[hd'];refine wpAny_pure (a:=some dx) (wpAny_bind (wpAny_pure (wpAny_bind ?_)));refine wpAny_nsSet1 (s:={ s with toks:=s.toks+1 }) I.ns fun h' hn2 hs2=>?_;obtain⟨oD,esD,epD,hoD,hdD,hcD⟩:=hn2.count (PySem.Within.cons name v hw);refine wpAny_bind (wpAny_lookBehind hoD (by rw[hdD];exact pastItsLine_dict (xan hcD (by rw[xam];omega))) ?_);exact wpAny_pure (h _ ⟨(hs2.2 _ (Ne.symm I.ne)).trans I.obj,hn2,I.ne⟩ hs2)
theorem jjD {R:Result->Shared->Prop} {vs:List Value} {kw:List (Str × Value)} (X:K.In s.heap) (hm:PySem.W.makesIn K C=true)
  (hi:PySem.W.findIn K (.ref C) "__init__"=some (some (.ref f))) (hf:PySem.W.typeIn K (.ref f)=some (.type "function"))
  (h:codeAny (model prog w) (A.under (.builtin "type.__call__" ⟨.ref C::vs,kw⟩)) (.call (.ref f) ⟨.ref (s.heap.objs.size+1)::vs,kw⟩) (PySem.W.InitBack (s.heap.objs.size+1) R)
   { s with heap:=(s.heap.push PySem.W.emptyDict).push (PySem.W.instObj C s.heap.objs.size) }) :
  codeAny (model prog w) A (.call (.ref C) ⟨vs,kw⟩) R s:=by
 obtain⟨hh,g,d,t,os⟩:=s;exact PySem.W.make_core (PySem.W.makes_of X hm) (PySem.W.looks_findIn X hi) (fun self=>PySem.W.bind_fn X self hf) (.inl rfl) h
end
def jd5 (f:Str) (v:V):List (Str × V)->List (Str × V)
 | []=>[(f,v)]
 | (g,x)::r=>if g=f then (g,v)::r else (g,x)::jd5 f v r
theorem jel (f g:Str) (v:V):∀fs:List (Str × V),(jd5 f v fs).lookup g=if g=f then some v else fs.lookup g
  | [] => by
    show List.lookup g [(f,v)]=_;by_cases h:g=f
    . have hb:(g==f)=true:=beq_iff_eq.mpr h
      simp only[List.lookup,hb,if_pos h]
    . have hb:(g==f)=false:=beq_eq_false_iff_ne.mpr h
      simp only[List.lookup,hb,if_neg h]
  | (k, x) :: r => by
    have ih:=jel f g v r;rw[show jd5 f v ((k,x)::r)=(if k=f then (k,v)::r else (k,x)::jd5 f v r) from rfl];by_cases hk:k=f
    . rw[if_pos hk]
      by_cases h:g=k
      . have hb:(g==k)=true:=beq_iff_eq.mpr h
        simp only[List.lookup,hb,if_pos (h.trans hk)]
      . have hb:(g==k)=false:=beq_eq_false_iff_ne.mpr h
        simp only[List.lookup,hb,if_neg (fun e:g=f=>h (e.trans hk.symm))]
    . rw[if_neg hk]
      by_cases h:g=k
      . have hb:(g==k)=true:=beq_iff_eq.mpr h
        simp only[List.lookup,hb,if_neg (fun e:g=f=>hk (h.symm.trans e))]
      . have hb:(g==k)=false:=beq_eq_false_iff_ne.mpr h
        simp only[List.lookup,hb];exact ih
theorem jem (f:Str) (v:V):∀fs:List (Str × V),f∈(jd5 f v fs).map (·.1)/\∀g,g∈fs.map (·.1)->g∈(jd5 f v fs).map (·.1)
  | []=>⟨by simp [jd5],fun g h=>by simp at h⟩
  | (k, x) :: r => by
    obtain⟨i1,i2⟩:=jem f v r;rw[show jd5 f v ((k,x)::r)=(if k=f then (k,v)::r else (k,x)::jd5 f v r) from rfl];by_cases hk:k=f
    . rw[if_pos hk]
      subst hk;exact⟨by simp,fun g h=>by simpa using h⟩
    . rw[if_neg hk]
      refine⟨?_,fun g h=>?_⟩
      . rw[xaT]
        exact xaq _ i1
      . rw[xaT] at h |-
        rcases xac.mp h with e | e
        . exact xac.mpr (.inl e)
        . exact xaq _ (i2 g e)
theorem jen (f:Str) (v:V):∀fs:List (Str × V),(jd5 f v fs).length<=fs.length+1
  | []=>by simp [jd5]
  | (k, x) :: r => by
    have ih:=jen f v r;rw[show jd5 f v ((k,x)::r)=(if k=f then (k,v)::r else (k,x)::jd5 f v r) from rfl];by_cases hk:k=f
    . rw[if_pos hk,xam,xam];omega
    . rw[if_neg hk,xam,xam];omega
theorem RelO.some_of {v:V} {o:Option Value} (r:RelO (some v) o):∃u,o=some u/\RelV v u:=by
 cases o with
 | none=>exact (show False from r).elim
 | some u=>exact⟨u,rfl,r⟩
theorem RelO.none_of {o:Option Value} (r:RelO none o):o=none:=by
 cases o with
 | none=>rfl
 | some u=>exact (show False from r).elim
theorem jh7 {v:V} {u:Value} (r:RelV v u):PySem.W.handedIn u=true:=by
 cases v with
 | non=>cases (show u=Value.none from r);rfl
 | bl b=>cases (show u=Value.bool b from r);rfl
 | int i=>obtain⟨t,e⟩:=(show ∃t,u=Value.int i t from r);cases e;rfl
 | str x=>obtain⟨t,e⟩:=(show ∃t,u=Value.str x t from r);cases e;rfl
 | byt b=>obtain⟨t,e⟩:=(show ∃t,u=Value.bytes b t from r);cases e;rfl
 | flt b=>obtain⟨t,e⟩:=(show ∃t,u=Value.float b t from r);cases e;rfl
 | ref a=>cases (show u=Value.ref a from r);rfl
 | ty n=>cases (show u=Value.type n from r);rfl
section
variable {P:Program} {w:World} {H H':Hp} {h h':Heap} {a C dx:Addr} {fs fs':List (Str × V)}
theorem jff (hok:HOk P w H h) (e:H a=some (.ins C dx fs)):∃mA,ObjM h a dx C mA/\(∀f,RelO (fs.lookup f) (mA f))/\PySem.Within mA (fs.map (·.1))/\fs.length<=1000/\H dx=some (.own a):=by
 obtain⟨d,z,ne,ob,mA,n,r,q⟩:=(show ObjOk P w H h a (.ins C dx fs) from hok a _ e);exact⟨mA,⟨ob,n,ne⟩,r,q,z,d⟩
end
structure Cls (K:PySem.W.Frag) (C:Addr):Prop where
 pg:PySem.W.plainGet K C Str.empty=true
 hd:PySem.W.hasDictIn K C=true
 po:PySem.W.plainOver K C=true
 sa:PySem.W.findIn K (.ref C) "__setattr__"=some (some (.builtin "object.__setattr__"))
theorem Cls.get {K:PySem.W.Frag} {C:Addr} (c:Cls K C) (f:Str):PySem.W.plainGet K C f=true:=c.pg
def NoAttr (K:PySem.W.Frag) (C:Addr) (f:Str):Prop:=PySem.W.findIn K (.ref C) f=some none
theorem NoAttr.taker {K:PySem.W.Frag} {C:Addr} {f:Str} (n:NoAttr K C f):PySem.W.takerIn K C f=some none:=by
 unfold PySem.W.takerIn;rw[show PySem.W.findIn K (.ref C) f=some none from n];rfl
structure Meth (K:PySem.W.Frag) (C:Addr) (m:Str) (f:Addr):Prop where
 at_:PySem.W.findIn K (.ref C) m=some (some (.ref f))
 fn:PySem.W.isFn K (.ref f)=true
 kp:PySem.W.keepIn K (.ref f)=true
section
variable {X:Cx} {pins:List (Addr × Obj)} {σ:St} {H:Hp} {s:Shared} {a C dx:Addr} {fs:List (Str × V)} {f:Str} {v:V} {A:Around} {E:Value->Shared->Prop}
theorem jhv {b:Bool} {Q:Value->Shared->Prop} (I:Inv X pins σ H s) (e:H a=some (.ins C dx fs)) (c:Cls X.K C) (n:NoAttr X.K C f) (l:fs.lookup f=some v)
  (h:∀u s',Inv X pins σ H s'->RelV v u->Q u s'):wpAny (model X.prog X.w) A (getAttr (.ref a) f b) Q E s:=by
 obtain⟨mA,O,r,_,_,_⟩:=jff I.hok e;obtain⟨u,hu,ru⟩:=RelO.some_of (v:=v) (o:=mA f) (by rw[<- l];exact r f);exact jlt I.kIn O (c.get f) c.hd n hu (jh7 ru) (h u _ (I.tok _) ru)
theorem jdC {m:Str} {g:Addr} {pl:Sem Bool} {Q:Value × List Value->Shared->Prop} (I:Inv X pins σ H s) (e:H a=some (.ins C dx fs)) (c:Cls X.K C) (k:Meth X.K C m g) (l:fs.lookup m=none)
  (h:Q (.ref g,[.ref a]) s):wpAny (model X.prog X.w) A (getMethod (.ref a) m pl) Q E s:=by
 obtain⟨mA,O,r,_,_,_⟩:=jff I.hok e;have hn:mA m=none:=RelO.none_of (by rw[<- l];exact r m);exact jjC I.kIn O (c.get m) k.at_ k.fn hn h
theorem jhw {y:V} {u:Value} {Q:Unit->Shared->Prop} (I:Inv X pins σ H s) (e:H a=some (.ins C dx fs)) (c:Cls X.K C) (n:NoAttr X.K C f) (hl:fs.length<1000) (ry:RelV y u)
  (h:∀s',Inv X pins σ (upd H a (.ins C dx (jd5 f y fs))) s'->Q () s'):wpAny (model X.prog X.w) A (setAttr (.ref a) f u) Q E s:=by
 obtain⟨mA,O,r,wi,_,ho⟩:=jff I.hok e;have hz:(fs.map (·.1)).length<=sizeLine:=by rw[xaa,sizeLine_eq];omega
 refine jlu I.kIn O c.sa c.po n.taker c.hd wi hz fun h' O' sb=>h _ ?_;have hd:∃o,h'.get? dx=some o:=let ⟨o,_,_,e',_⟩:=O'.ns;⟨o,e'⟩;refine I.write (x:=a) (e:=dx) (by rw[e];exact True.intro) (.inr ho) (fun b q hb z=>(sb.2 b hb).trans z) hd ?_;refine⟨by rw[jak O.ne];exact ho,?_,O.ne,O'.obj,_,O'.ns,fun g=>?_,fun g hg=>?_⟩
 ·have:=jen f y fs;omega
 ·show RelO ((jd5 f y fs).lookup g) (if g=f then some u else mA g);rw[jel];by_cases q:g=f
  ·rw[if_pos q,if_pos q];exact ry
  ·rw[if_neg q,if_neg q];exact r g
 ·by_cases q:g=f
  ·rw[q];exact (jem f y fs).1
  ·refine (jem f y fs).2 g (wi g fun z=>hg ?_);show (if g=f then some u else mA g)=none;rw[if_neg q];exact z
theorem Inv.made (I:Inv X pins σ H s):Inv X pins σ (upd (upd H s.heap.objs.size (.own (s.heap.objs.size+1))) (s.heap.objs.size+1) (.ins C s.heap.objs.size []))
  { s with heap:=(s.heap.push PySem.W.emptyDict).push (PySem.W.instObj C s.heap.objs.size) }:=by
 have e1:(s.heap.push PySem.W.emptyDict).get? s.heap.objs.size=some PySem.W.emptyDict:=Heap.get?_push_size s.heap rfl;have e2:((s.heap.push PySem.W.emptyDict).push (PySem.W.instObj C s.heap.objs.size)).get? (s.heap.objs.size+1)=some (PySem.W.instObj C s.heap.objs.size):=by
  have:=Heap.get?_push_size (s.heap.push PySem.W.emptyDict) (o:=PySem.W.instObj C s.heap.objs.size) rfl
  rwa [Heap.size_push] at this
 have e3:(s.heap.push PySem.W.emptyDict).Ns s.heap.objs.size (fun _=>none):=⟨PySem.W.emptyDict,#[],_,e1,rfl,(fun e he=>absurd he (by simp)),fun _=>rfl⟩;have I1:=I.laid (a:=s.heap.objs.size) (o:=.own (s.heap.objs.size+1)) (h':=s.heap.push PySem.W.emptyDict) (t':=s.toks) (fun b u q=>Heap.get?_push_of_some _ q) (xae _) ⟨_,e1⟩;refine I1.laid (a:=s.heap.objs.size+1) (o:=.ins C s.heap.objs.size []) (t':=s.toks) (fun b u q=>Heap.get?_push_of_some _ q) (Nat.le_of_eq (Heap.size_push _ _)) ?_;have ne:s.heap.objs.size≠s.heap.objs.size+1:=xaz (Nat.lt_succ_self _);refine⟨by rw[jak ne,jaf],xaG _,ne,e2,fun _=>none,(Heap.Ns1.of_empty e3).at fun o q=>Heap.get?_push_of_some _ q,fun _=>True.intro,fun y hy=>absurd rfl hy⟩
theorem jlv {prog:Program} {w:World} {env:Env} {e:Expr} {f:Str} {pos:Pos} {s:Shared} {Q:Value->Shared->Prop} (hb:attributeBase e f env (eval e env)=eval e env)
  (h:wpAny (model prog w) A (eval e env) (fun o s₁=>wpAny (model prog w) A (getAttr o f true) Q E s₁) E s):wpAny (model prog w) A (eval (.Attribute e f pos) env) Q E s :=
 Attribute_any_ h (by rw[arm_eval_Attribute,hb])
end
def tFld (K:PySem.W.Frag) (ta:TE) (f:Str):TE:=fun σ H Q=>ta σ H fun x H1=>∃a C dx fs v,x=.ref a/\H1 a=some (.ins C dx fs)/\Cls K C/\NoAttr K C f/\fs.lookup f=some v/\Q v H1
def sFld (K:PySem.W.Frag) (ta tv:TE) (f:Str):TS:=fun D σ H=>tv σ H fun y H1=>ta σ H1 fun x H2=>∃a C dx fs,x=.ref a/\H2 a=some (.ins C dx fs)/\Cls K C/\NoAttr K C f/\fs.length<1000 /\
 D.nx σ (upd H2 a (.ins C dx (jd5 f y fs)))
section
variable {X:Cx} {o e value:Expr} {f:Str} {pos pos' tpos:Pos} {ta tv:TE}
theorem jdl (he:PE X e ta) (hb:attributeBase e f X.env (eval e X.env)=eval e X.env):PE X (.Attribute e f pos) (tFld X.K ta f):=by
 intro pins s σ H Q I h;refine jlv hb (thn (he pins s σ H _ I h) fun u s1 ⟨x,H1,I1,rx,a,C,dx,fs,v,ex,ea,c,n,l,q⟩=>?_);subst ex;obtain rfl:u=Value.ref a:=rx;exact jhv I1 ea c n l fun u' s2 I2 ru=>⟨v,H1,I2,ru,q⟩
theorem jfL (ha:PE X o ta) (hv:PE X value tv) (hs:swapsWith value (some (.Attribute o f pos')) pos.line X.env=pure false):PS X (.Assign [.Attribute o f pos'] value pos) (sFld X.K ta tv f):=by
 intro pins s σ H D I h;refine plainObj_wpAny_Assign_Attribute (thn (hv pins s σ H _ I h) fun u s1 ⟨y,H1,I1,ry,q⟩=>thn (ha pins s1 σ H1 _ I1 q) fun ov s2 ⟨x,H2,I2,rx,a,C,dx,fs,ex,ea,c,n,l,q2⟩=>?_) hs;subst ex;obtain rfl:ov=Value.ref a:=rx;exact jhw I2 ea c n l ry fun s3 I3=>⟨σ,_,I3,q2⟩
end
section
variable {X:Cx} {pins:List (Addr × Obj)} {σ:St} {H:Hp} {s:Shared} {A:Around} {E:Value->Shared->Prop} {Q:Value->Shared->Prop} {c:Value} {b:Bool}
inductive TyOf (K:PySem.W.Frag) (H:Hp):V->Value->Prop where
 | non:TyOf K H .non (.type "NoneType")
 | bl (x:Bool):TyOf K H (.bl x) (.type "bool")
 | int (i:Int):TyOf K H (.int i) (.type "int")
 | str (x:Str):TyOf K H (.str x) (.type "str")
 | flt (x:UInt64):TyOf K H (.flt x) (.type "float")
 | lst {a:Addr} {xs:List V} (e:H a=some (.lst xs)):TyOf K H (.ref a) (.type "list")
 | frz {a:Addr} {o:Obj} {xs:List V} (e:H a=some (.frz o (.lst xs))):TyOf K H (.ref a) (.type "list")
 | tup {a:Addr} {xs:List V} (e:H a=some (.tup xs)):TyOf K H (.ref a) (.type "tuple")
 | dK {a:Addr} {kvs:List (Key × V)} (e:H a=some (.dK kvs)):TyOf K H (.ref a) (.type "dict")
 | dT {a:Addr} {kvs:List (List Key × V)} (e:H a=some (.dT kvs)):TyOf K H (.ref a) (.type "dict")
 | ins {a C dx:Addr} {fs:List (Str × V)} (e:H a=some (.ins C dx fs)) (cl:Cls K C) (ha:PySem.W.findIn K (.ref C) "__class__"=some (some (.builtin "object.__class__")))
   (hn:PySem.W.specialIn K (.builtin "object.__class__") "__get__"=some (some (.builtin "getset_descriptor.__get__"))) (htk:PySem.W.takesIn K (.builtin "object.__class__")=some true)
   (hm:PySem.W.mroIn K C (.type "object")=some true):TyOf K H (.ref a) (.ref C)
theorem jh8 {x:V} {u t:Value} (I:Inv X pins σ H s) (rx:RelV x u) (ty:TyOf X.K H x t) (e:PySem.W.kitOne X.K t c=some b) (h:∀tk,Q (.bool b) { s with toks:=tk }) :
    wpAny (model X.prog X.w) A (call (.builtin "isinstance") [u,c]) Q E s:=by
  cases ty with
  | non=>cases (show u=Value.none from rx);exact PySem.W.kia_one PySem.W.kitx_none I.kIn True.intro e (fun z=>nomatch z) h
  | bl y=>cases (show u=Value.bool y from rx);exact PySem.W.kia_one PySem.W.kitx_bool I.kIn True.intro e (fun z=>nomatch z) h
  | int i=>obtain⟨t,q⟩:=(show ∃t,u=Value.int i t from rx);cases q;exact PySem.W.kia_one PySem.W.kitx_int I.kIn True.intro e (fun z=>nomatch z) h
  | str y=>obtain⟨t,q⟩:=(show ∃t,u=Value.str y t from rx);cases q;exact PySem.W.kia_one PySem.W.kitx_str I.kIn True.intro e (fun z=>nomatch z) h
  | flt y=>obtain⟨t,q⟩:=(show ∃t,u=Value.float y t from rx);cases q;exact PySem.W.kia_one PySem.W.kitx_float I.kIn True.intro e (fun z=>nomatch z) h
  | @lst a xs ea =>
    cases (show u=Value.ref a from rx);obtain⟨_,_,n,_,h1⟩:=(show ObjOk X.prog X.w H s.heap a (.lst xs) from I.hok a _ ea);exact PySem.W.kia_one PySem.W.kitx_list I.kIn ⟨_,h1,rfl⟩ e (fun z=>nomatch z) h
  | @frz a ob xs ea =>
    cases (show u=Value.ref a from rx);obtain⟨_,_,_,n,_,h1⟩:=(show ObjOk X.prog X.w H s.heap a (.frz ob (.lst xs)) from I.hok a _ ea);exact PySem.W.kia_one PySem.W.kitx_list I.kIn ⟨_,h1,rfl⟩ e (fun z=>nomatch z) h
  | @tup a xs ea =>
    cases (show u=Value.ref a from rx);obtain⟨_,_,_,p⟩:=(show ObjOk X.prog X.w H s.heap a (.tup xs) from I.hok a _ ea);obtain⟨o,h1,h2,_⟩:=p;exact PySem.W.kia_one PySem.W.kitx_tuple I.kIn ⟨o,h1,h2⟩ e (fun z=>nomatch z) h
  | @dK a kvs ea =>
    cases (show u=Value.ref a from rx);obtain⟨_,_,vs,_,p⟩:=(show ObjOk X.prog X.w H s.heap a (.dK kvs) from I.hok a _ ea);obtain⟨o,es,ep,h1,h2,_⟩:=p;exact PySem.W.kia_one PySem.W.kitx_dict I.kIn ⟨o,h1,h2.1⟩ e (fun z=>nomatch z) h
  | @dT a kvs ea =>
    cases (show u=Value.ref a from rx);obtain⟨_,_,xs,_,o,es,ep,h1,h2,_⟩:=(show ObjOk X.prog X.w H s.heap a (.dT kvs) from I.hok a _ ea);exact PySem.W.kia_one PySem.W.kitx_dict I.kIn ⟨o,h1,h2.1⟩ e (fun z=>nomatch z) h
  | @ins a C dx fs ea cl ha hn htk hm =>
    cases (show u=Value.ref a from rx);obtain⟨mA,O,_⟩:=jff I.hok ea;obtain⟨od,J,_⟩:=O.look;exact PySem.W.kia_one (PySem.W.kitx_own (cl.get _) cl.hd ha hn htk hm) I.kIn J e (fun z=>nomatch z) h
end
structure Room (k:Nat) (A:Around):Prop where
 hd:A.handled=none
 dp:A.depth+3*k+5<recursionLimit
 un:A.units+16*k+200<cLine
theorem Room.mono {j k:Nat} {A:Around} (r:Room k A) (h:j<=k):Room j A:=⟨r.hd,by have:=r.dp;omega,by have:=r.un;omega⟩
theorem Room.m {j k:Nat} {A:Around} (r:Room k A) (h:j≤k:=by decide):Room j A:=r.mono h
theorem Room.deeper {k:Nat} {A:Around} (r:Room (k+1) A) (env:Env):Room k (A.deeper env) :=
 ⟨r.hd,by have:=r.dp;show A.depth+1+3*k+5<_;omega,by have:=r.un;show A.units+3+16*k+200<_;omega⟩
theorem Room.in1 {k:Nat} {A:Around} (r:Room (k+1) A):Room k A.in1 :=
 ⟨r.hd,by have:=r.dp;show A.depth+3*k+5<_;omega,by have:=r.un;show A.units+1+16*k+200<_;omega⟩
theorem jhx {A:Around} {C:Addr} {us:List Value} {kw:List (Str × Value)}:(A.under (.builtin "type.__call__" ⟨.ref C::us,kw⟩)).depth=A.depth+1:=by
 first | rfl | simp [Around.under,Code.weight,Code.isCreation,Code.isGuard,Code.isCaller,Code.frames,Code.isFrame,guardIds]
theorem jhy {A:Around} {C:Addr} {us:List Value} {kw:List (Str × Value)}:(A.under (.builtin "type.__call__" ⟨.ref C::us,kw⟩)).units=A.units+1:=by
 first | rfl | simp [Around.under,Code.cUnits,Code.frames,Code.isFrame]
theorem Room.make {k:Nat} {A:Around} (r:Room (k+1) A) (C:Addr) (us:List Value) (kw:List (Str × Value)):Room k (A.under (.builtin "type.__call__" ⟨.ref C::us,kw⟩)) :=
 ⟨r.hd,by have:=r.dp;rw[jhx];omega,by have:=r.un;rw[jhy];omega⟩
theorem Room.depth {k:Nat} {A:Around} (r:Room k A):A.depth<recursionLimit:=by have:=r.dp;omega
theorem Room.units {k:Nat} {A:Around} (r:Room k A):A.units+64<cLine:=by have:=r.un;omega
def jgN:TA:=fun _ H Q=>Q [] H
def jfM (ta:TE) (tr:TA):TA:=fun σ H Q=>ta σ H fun x H1=>tr σ H1 fun xs H2=>Q (x::xs) H2
section
variable {X:Cx} {e:Expr} {es:List Expr} {te:TE} {t:TA} {pos:Pos}
theorem jac:PA X [] jgN:=fun _ _ _ _ H Q I h=>Calls.spliced_nil ⟨[],H,I,.nil,h⟩
theorem jaa (ha:PE X e te) (hr:PA X es t) (hs:starEach (e::es) X.env=(false,eval e X.env)::starEach es X.env:=by rfl):PA X (e::es) (jfM te t):=by
 intro pos pins s σ H Q I h;rw[hs];show wpAny _ _ (spliced ((false,eval e X.env)::backTo pos (starEach es X.env))) _ _ s;refine Calls.spliced_cons (thn (ha pins s σ H _ I h) fun u s1 ⟨x,H1,I1,r1,q1⟩=>?_);exact thn (hr pos pins s1 σ H1 _ I1 q1) fun us s2 ⟨xs,H2,I2,r2,q2⟩=>⟨x::xs,H2,I2,.cons r1 r2,q2⟩
def jmC (t:TA):TE:=fun σ H Q=>t σ H fun xs H1=>xs.length<=sizeLine/\∀p,H1 p=none->Q (.ref p) (upd H1 p (.tup xs))
def jmD (t:TA):TE:=fun σ H Q=>t σ H fun xs H1=>xs.length<=sizeLine/\∀p,H1 p=none->Q (.ref p) (upd H1 p (.lst xs))
theorem jbG {x1} (h:PA X es t):PE X (.Tuple es x1 pos) (jmC t):=by
 intro pins s σ H Q I hq;refine wpAny_Tuple_spliced (thn (h pos pins s σ H _ I hq) fun us s1 ⟨xs,H1,I1,r,z,q⟩=>⟨by rw[<- r.length];exact z,?_⟩);have hf:H1 s1.heap.objs.size=none:=I1.hok.fresh (xae _);refine⟨.ref s1.heap.objs.size,upd H1 s1.heap.objs.size (.tup xs),I1.laid (t':=s1.toks) (fun b u e=>Heap.get?_push_of_some _ e) (xae _) ?_,rfl,q _ hf⟩;exact⟨z,us,r,⟨_,Heap.get?_push_size _ rfl,rfl,_,rfl⟩⟩
theorem jaV (h:PA X es t):PE X (.List es pos) (jmD t):=by
 intro pins s σ H Q I hq;refine wpAny_List_spliced (thn (h pos pins s σ H _ I hq) fun us s1 ⟨xs,H1,I1,r,z,q⟩=>⟨by rw[<- r.length];exact z,?_⟩);have hf:H1 s1.heap.objs.size=none:=I1.hok.fresh (xae _);refine⟨.ref s1.heap.objs.size,upd H1 s1.heap.objs.size (.lst xs),I1.laid (t':=s1.toks) (fun b u e=>Heap.get?_push_of_some _ e) (xae _) ?_,rfl,q _ hf⟩;exact⟨z,us,0,r,Heap.get?_push_size _ rfl⟩
end
abbrev Sp:=List V->Hp->VK->XK->Prop
abbrev CXT:=List Env->Hp->Shared->XK->Value->Shared->Prop
structure Env0 (P:Program) (w:World) (K:PySem.W.Frag) (mg:Str->Option Value) (base:Heap) (A:Around) (outer:List Env) (s:Shared) (H:Hp):Prop where
 frames:A.frames=some outer
 mod:Mod K mg base
 bs:∀b o,base.get? b=some o->s.heap.get? b=some o/\H b=none
 bsz:base.objs.size<=s.heap.objs.size
 funs:s.heap.FunFrames base outer
 frf:∀b∈frs outer,H b=none
 hok:HOk P w H s.heap
 bare:AllBare s.gens
def CE (outer:List Env) (P:Program) (w:World) (H:Hp) (s:Shared) (Q:VK) (u:Value) (s':Shared):Prop :=
 ∃v H',s'.os=s.os/\AllBare s'.gens/\Un (frs outer) [] H H' s.heap s'.heap/\HOk P w H' s'.heap/\RelV v u/\Q v H'
def CR (CX:CXT) (outer:List Env) (P:Program) (w:World) (H:Hp) (s:Shared) (Q:VK) (E:XK) (r:Result) (s':Shared):Prop :=
 match r with
 | .ok (.ret u)=>CE outer P w H s Q u s'
 | .ok _=>False
 | .error e=>CX outer H s E e s'
structure FnOk (P:Program) (w:World) (K:PySem.W.Frag) (mg:Str->Option Value) (base:Heap) (CX:CXT) (k:Nat) (f:Addr) (fd:FuncData) (ps:List Str) (sp:Sp):Prop where
 len:∀vs H Q E,sp vs H Q E->vs.length=ps.length
 run:∀(A:Around) (outer:List Env) (s:Shared) (H:Hp) (args:Args) (us:List Value) (vs:List V) (Q:VK) (E:XK),Room k A->Env0 P w K mg base A outer s H->BindsTo s fd args (ps.zip us)->Vals vs us->sp vs H Q E ->
  codeAny (model P w) A (.call (.ref f) args) (CR CX outer P w H s Q E) s
theorem FnOk.mono {P:Program} {w:World} {K:PySem.W.Frag} {mg:Str->Option Value} {base:Heap} {CX:CXT} {j k:Nat} {f:Addr} {fd:FuncData} {ps:List Str} {sp:Sp} (F:FnOk P w K mg base CX j f fd ps sp) (h:j<=k) :
  FnOk P w K mg base CX k f fd ps sp:=⟨F.len,fun A outer s H args us vs Q E hr=>F.run A outer s H args us vs Q E (hr.mono h)⟩
theorem Env0.make {P:Program} {w:World} {K:PySem.W.Frag} {mg:Str->Option Value} {base:Heap} {A:Around} {outer:List Env} {s:Shared} {H:Hp} (e:Env0 P w K mg base A outer s H) (C:Addr) (us:List Value) (kw:List (Str × Value)) :
  Env0 P w K mg base (A.under (.builtin "type.__call__" ⟨.ref C::us,kw⟩)) outer s H:=⟨by first | exact e.frames | (simpa [Around.under,Code.envs,Code.isFrame,pushEnvs] using e.frames),e.mod,e.bs,e.bsz,e.funs,e.frf,e.hok,e.bare⟩
theorem Env0.in1 {P:Program} {w:World} {K:PySem.W.Frag} {mg:Str->Option Value} {base:Heap} {A:Around} {outer:List Env} {s:Shared} {H:Hp} (e:Env0 P w K mg base A outer s H) :
  Env0 P w K mg base A.in1 outer s H:=⟨e.frames,e.mod,e.bs,e.bsz,e.funs,e.frf,e.hok,e.bare⟩
section
variable {X:Cx} {pins:List (Addr × Obj)} {σ:St} {H:Hp} {s s':Shared}
theorem Inv.env0 (I:Inv X pins σ H s):Env0 X.prog X.w X.K X.mg X.base X.A X.stack s H :=
 ⟨I.ok.frames,I.ok.mod,I.bs,xan I.ok.bsz I.sz,I.stack,I.stkFree,I.hok,I.bare⟩
theorem Inv.after {Q:VK} {u:Value} (I:Inv X pins σ H s) (h:CE X.stack X.prog X.w H s Q u s'):EP X pins σ Q u s':=by
 obtain⟨v,H',os,bare,un,hok,r,q⟩:=h;obtain⟨hh,g,d,t,os'⟩:=s';obtain rfl:os'=s.os:=os;exact⟨v,H',I.call (h':=hh) (g':=g) (d':=d) (t':=t) (ch:=[]) un hok bare (fun b z=>absurd z (by simp)),r,q⟩
end
def jfN (sp:Sp) (dvs:List V) (E:XK) (t:TA):TE:=fun σ H Q=>t σ H fun vs H1=>sp (vs++dvs) H1 Q E
def jhz (C:Addr) (m:Str) (sp:Sp) (dvs:List V) (E:XK) (ta:TE) (t:TA):TE:=fun σ H Q=>ta σ H fun x H1=>∃a dx fs,x=.ref a/\H1 a=some (.ins C dx fs)/\fs.lookup m=none /\
 t σ H1 fun vs H2=>sp (x::(vs++dvs)) H2 Q E
def jm0 (C:Addr) (sp:Sp) (dvs:List V) (E:XK) (t:TA):TE:=fun σ H Q=>t σ H fun vs H1=>∀x dx,H1 x=none->H1 dx=none->dx≠x ->
 sp (.ref x::(vs++dvs)) (upd (upd H1 dx (.own x)) x (.ins C dx [])) (fun v H2=>v=.non/\Q (.ref x) H2) E
def Binds (K:PySem.W.Frag) (fd:FuncData) (ps:List Str) (ds:List Value):Prop :=
 ∀(s:Shared) (us:List Value),K.In s.heap->(us++ds).length=ps.length->BindsTo s fd ⟨us,[]⟩ (ps.zip (us++ds))
theorem Binds.all {K:PySem.W.Frag} {fd:FuncData} {ps:List Str} (h:∀us:List Value,us.length=ps.length->bindArgs fd ⟨us,[]⟩=pure (ps.zip us)):Binds K fd ps []:=fun s us _ hl=>by
 rw[xbA] at hl |-
 exact .of_eq (h us hl)
def jbS (CX:CXT) (X:Cx) (E:XK):Prop:=∀(pins:List (Addr × Obj)) (σ:St) (H:Hp) (s:Shared) (e:Value) (s':Shared),Inv X pins σ H s->CX X.stack H s E e s'->X.xe e s'
section
variable {X:Cx} {CX:CXT} {k:Nat} {f C:Addr} {fd:FuncData} {ps:List Str} {sp:Sp} {dvs:List V} {ds:List Value} {E:XK} {x m:Str} {p pos apos:Pos} {e o:Expr} {es:List Expr} {ta:TE} {t:TA}
theorem jh9 {pins:List (Addr × Obj)} {σ:St} {H:Hp} {s:Shared} {Q:VK} {us:List Value} {vs:List V} (F:FnOk X.prog X.w X.K X.mg X.base CX k f fd ps sp) (hr:Room k X.A) (hb:Binds X.K fd ps ds) (hd:Vals dvs ds) (hx:jbS CX X E)
    (I:Inv X pins σ H s) (r:Vals vs us) (h:sp (vs++dvs) H Q E):wpAny (model X.prog X.w) X.A (call (.ref f) us) (EP X pins σ Q) X.xe s:=by
  have r2:Vals (vs++dvs) (us++ds):=r.append hd;have hl:(us++ds).length=ps.length:=by rw[<- r2.length];exact F.len _ _ _ _ h
  refine wpAny_call (codeAny_mono (F.run X.A X.stack s H ⟨us,[]⟩ (us++ds) (vs++dvs) Q E hr I.env0 (hb s us I.kIn hl) r2 h) fun r s' hq=>?_);cases r with
  | error e=>exact hx pins σ H s e s' I hq
  | ok fl =>
    cases fl with
    | ret u=>exact I.after hq
    | next=>exact False.elim hq
    | brk=>exact False.elim hq
    | cont=>exact False.elim hq
theorem jlw (F:FnOk X.prog X.w X.K X.mg X.base CX k f fd ps sp) (hr:Room k X.A) (hg:Gl X x) (hm:X.mg x=some (.ref f)) (hk:PySem.W.keepIn X.K (.ref f)=true) (hb:Binds X.K fd ps ds) (hd:Vals dvs ds) (hx:jbS CX X E)
  (ha:PA X (e::es) t) (hdb:(x==("__debug__":Str))=false:=by decide) (he:starEach (e::es) X.env=(false,eval e X.env)::starEach es X.env:=by rfl) (hpl:(backTo pos (starEach es X.env)).any (·.1)=false:=by rfl) :
  PE X (.Call (.Name x p) (e::es) [] pos) (jfN sp dvs E t):=by
 intro pins s σ H Q I h;refine wpAny_Call_Name_kw (jei I hg hm ?_ hdb);refine PySem.W.callWith_K (h₀:=X.base) I.ok.mod.kin hk (thn (ha pos pins s σ H _ I h) fun us s1 ⟨vs,H1,I1,r,q⟩=>⟨I1.kIn,?_⟩) he hpl;exact jh9 F hr hb hd hx I1 r q
theorem jlx {pl:Sem Bool} (he:PE X o ta) (c:Cls X.K C) (hm:Meth X.K C m f) (F:FnOk X.prog X.w X.K X.mg X.base CX k f fd ps sp) (hr:Room k X.A) (hb:Binds X.K fd ps ds) (hd:Vals dvs ds) (hx:jbS CX X E) (ha:PA X (e::es) t)
  (hst:starEach (e::es) X.env=(false,eval e X.env)::starEach es X.env:=by rfl) (hpl:(backTo pos (starEach es X.env)).any (·.1)=false:=by rfl)
  (ht:eval (.Call (.Attribute o m apos) (e::es) [] pos) X.env=(do
   let ov <- eval o X.env
   standAt apos.atName
   let (f,first) <- holding [ov] (getMethod ov m pl)
   callWith pos f first (backTo pos (starEach (e::es) X.env)) (backToKw pos (keywordEach [] X.env))):=by rfl) :
  PE X (.Call (.Attribute o m apos) (e::es) [] pos) (jhz C m sp dvs E ta t):=by
 intro pins s σ H Q I h;refine PySem.W.methodCall_KW (pl:=pl) (thn (he pins s σ H _ I h) fun u s1 ⟨x,H1,I1,rx,a,dx,fs,ex,ea,l,q⟩=>?_) ht;subst ex;obtain rfl:u=Value.ref a:=rx;refine jdC I1 ea c hm l ?_;refine PySem.W.callWith_K (first:=[.ref a]) (h₀:=X.base) I.ok.mod.kin hm.kp (thn (ha pos pins s1 σ H1 _ I1 q) fun us s2 ⟨vs,H2,I2,r,q2⟩=>⟨I2.kIn,?_⟩) hst hpl;exact jh9 (us:=.ref a::us) (vs:=.ref a::vs) F hr hb hd hx I2 (.cons rfl r) q2
theorem jjE {pl:Sem Bool} (he:PE X o ta) (c:Cls X.K C) (hm:Meth X.K C m f) (F:FnOk X.prog X.w X.K X.mg X.base CX k f fd ps sp) (hr:Room k X.A) (hb:Binds X.K fd ps ds) (hd:Vals dvs ds) (hx:jbS CX X E)
  (ht:eval (.Call (.Attribute o m apos) [] [] pos) X.env=(do
   let ov <- eval o X.env
   standAt apos.atName
   let (f,first) <- holding [ov] (getMethod ov m pl)
   callWith pos f first (backTo pos (starEach [] X.env)) (backToKw pos (keywordEach [] X.env))):=by rfl) :
  PE X (.Call (.Attribute o m apos) [] [] pos) (jhz C m sp dvs E ta jgN):=by
 intro pins s σ H Q I h;refine PySem.W.methodCall_KW (pl:=pl) (thn (he pins s σ H _ I h) fun u s1 ⟨x,H1,I1,rx,a,dx,fs,ex,ea,l,q⟩=>?_) ht;subst ex;obtain rfl:u=Value.ref a:=rx;refine jdC I1 ea c hm l ?_;exact PySem.W.callWith_K0 (first:=[.ref a]) I1.kIn hm.kp (jh9 (us:=[.ref a]) (vs:=[.ref a]) F hr hb hd hx I1 (.cons rfl .nil) q)
structure Mk (K:PySem.W.Frag) (C f:Addr):Prop where
 makes:PySem.W.makesIn K C=true
 init:PySem.W.findIn K (.ref C) "__init__"=some (some (.ref f))
 fn:PySem.W.isFn K (.ref f)=true
 kp:PySem.W.keepIn K (.ref C)=true
theorem jjF {pins:List (Addr × Obj)} {σ:St} {H:Hp} {s:Shared} {Q:VK} {us:List Value} {vs:List V} (M:Mk X.K C f) (F:FnOk X.prog X.w X.K X.mg X.base CX k f fd ps sp) (hr:Room (k+1) X.A) (hb:Binds X.K fd ps ds) (hd:Vals dvs ds)
    (hx:jbS CX X E) (I:Inv X pins σ H s) (r:Vals vs us)
    (h:∀x dx,H x=none->H dx=none->dx≠x->sp (.ref x::(vs++dvs)) (upd (upd H dx (.own x)) x (.ins C dx [])) (fun v H2=>v=.non/\Q (.ref x) H2) E) :
    wpAny (model X.prog X.w) X.A (call (.ref C) us) (EP X pins σ Q) X.xe s:=by
  have hq:=h (s.heap.objs.size+1) s.heap.objs.size (I.hok.fresh (xbB _)) (I.hok.fresh (xae _)) (xaz (Nat.lt_succ_self _));have I2:=Inv.made (C:=C) I;have r2:Vals (V.ref (s.heap.objs.size+1)::(vs++dvs)) (Value.ref (s.heap.objs.size+1)::(us++ds)):=.cons rfl (r.append hd);have hl:(Value.ref (s.heap.objs.size+1)::us++ds).length=ps.length:=by
    have e:=r2.length;rw[F.len _ _ _ _ hq] at e;exact e.symm
  refine wpAny_call (jjD (f:=f) I.kIn M.makes M.init (beq_iff_eq.mp M.fn) (codeAny_mono (F.run _ X.stack _ _ ⟨Value.ref (s.heap.objs.size+1)::us,[]⟩ (Value.ref (s.heap.objs.size+1)::(us++ds)) _ _ E (hr.make C us [])
    (I2.env0.make C us []) (hb _ (Value.ref (s.heap.objs.size+1)::us) I2.kIn hl) r2 hq) fun r s' hq'=>?_))
  cases r with
  | error e=>exact hx pins σ _ _ e s' I2 hq'
  | ok fl =>
    cases fl with
    | ret u =>
      obtain⟨v,H',I3,rv,ev,q3⟩:=I2.after hq';subst ev;exact⟨rv,⟨V.ref (s.heap.objs.size+1),H',I3,rfl,q3⟩⟩
    | next=>exact False.elim hq'
    | brk=>exact False.elim hq'
    | cont=>exact False.elim hq'
theorem jjG (M:Mk X.K C f) (F:FnOk X.prog X.w X.K X.mg X.base CX k f fd ps sp) (hr:Room (k+1) X.A) (hg:Gl X x) (hm:X.mg x=some (.ref C)) (hb:Binds X.K fd ps ds) (hd:Vals dvs ds) (hx:jbS CX X E)
  (hdb:(x==("__debug__":Str))=false:=by decide):PE X (.Call (.Name x p) [] [] pos) (jm0 C sp dvs E jgN):=by
 intro pins s σ H Q I h;refine wpAny_Call_Name_kw (jei I hg hm ?_ hdb);exact PySem.W.callWith_K0 I.kIn M.kp (jjF (us:=[]) M F hr hb hd hx I .nil h)
end
section
variable {X:Cx} {CX:CXT} {k:Nat} {f C:Addr} {fd:FuncData} {ps ks:List Str} {sp:Sp} {E:XK} {x m:Str} {p pos apos kpos:Pos} {e o:Expr} {es:List Expr} {kws:List Keyword} {te ta:TE} {t tk:TA} {nm:Option Str}
structure KBinds (K:PySem.W.Frag) (fd:FuncData) (ps ks:List Str) (g:List Value->List Value->List Value) (gV:List V->List V->List V):Prop where
 to:∀(s:Shared) (us ws:List Value),K.In s.heap->(g us ws).length=ps.length->BindsTo s fd ⟨us,ks.zip ws⟩ (ps.zip (g us ws))
 rel:∀{vs:List V} {us:List Value} {zs:List V} {ws:List Value},Vals vs us->Vals zs ws->Vals (gV vs zs) (g us ws)
variable {g:List Value->List Value->List Value} {gV:List V->List V->List V}
end
structure FnScope (N P:List Str) (sc:Scope):Prop where
 kind:sc.kind=.function
 co:sc.isCoroutine=false
 gen:sc.isGenerator=false
 nd:N.Nodup
 pre:N.take P.length=P
 par:∀x∈P,sc.names.lookup x=some .local\/sc.names.lookup x=some .cell
 nofree:∀y∈sc.names,y.2≠.free
theorem jfO {kindOf:Str->Option NameKind} {x:Str}:∀{binds:List (Str × Value)} {m:Str->Option Value},(∀v,(x,v)∉binds)->bindL kindOf binds m x=m x
  | [],_,_=>rfl
  | (n, v) :: r, m, h => by
    unfold bindL;rw[jfO fun w hw=>h w (xaq _ hw)];split
    . have:x≠n:=by rintro rfl; exact h v xav
      simp [this]
    . rfl
theorem jfP {kindOf:Str->Option NameKind} {x:Str}:∀{binds:List (Str × Value)} {m:Str->Option Value},(∀v,(x,v)∉binds)->bindC kindOf binds m x=m x
  | [],_,_=>rfl
  | (n, v) :: r, m, h => by
    unfold bindC;rw[jfP fun w hw=>h w (xaq _ hw)];split
    . rfl
    . have:x≠n:=by rintro rfl; exact h v xav
      simp [this]
theorem jfQ {kindOf:Str->Option NameKind} {x:Str} {v:Value}:∀{P:List Str} {vs:List Value} {i:Nat} {m:Str->Option Value},P.Nodup->P[i]?=some x->vs[i]?=some v->kindOf x=some .local ->
    bindL kindOf (P.zip vs) m x=some v
  | [],_,_,_,_,h,_,_=>by simp at h
  | _::_,[],_,_,_,_,h,_=>by simp at h
  | p :: P, w :: vs, 0, m, nd, h1, h2, hk => by
    simp at h1 h2;subst h1;subst h2;show bindL kindOf ((p,w)::P.zip vs) m p=_;unfold bindL;rw[jfO fun v hv=>(xbf.mp nd).1 (List.of_mem_zip hv).1,if_pos hk];simp
  | p :: P, w :: vs, i + 1, m, nd, h1, h2, hk => by
    show bindL kindOf ((p,w)::P.zip vs) m x=_;unfold bindL;exact jfQ (i:=i) (xbf.mp nd).2 (by simpa using h1) (by simpa using h2) hk
theorem jfR {kindOf:Str->Option NameKind} {x:Str} {v:Value}:∀{P:List Str} {vs:List Value} {i:Nat} {m:Str->Option Value},P.Nodup->P[i]?=some x->vs[i]?=some v->kindOf x≠some .local ->
    bindC kindOf (P.zip vs) m x=some v
  | [],_,_,_,_,h,_,_=>by simp at h
  | _::_,[],_,_,_,_,h,_=>by simp at h
  | p :: P, w :: vs, 0, m, nd, h1, h2, hk => by
    simp at h1 h2;subst h1;subst h2;show bindC kindOf ((p,w)::P.zip vs) m p=_;unfold bindC;rw[jfP fun v hv=>(xbf.mp nd).1 (List.of_mem_zip hv).1,if_neg hk];simp
  | p :: P, w :: vs, i + 1, m, nd, h1, h2, hk => by
    show bindC kindOf ((p,w)::P.zip vs) m x=_;unfold bindC;exact jfR (i:=i) (xbf.mp nd).2 (by simpa using h1) (by simpa using h2) hk
def jbQ (N:List Str) (vs:List V):St:=vs.map some++List.replicate (N.length-vs.length) none
def jgj (CX:CXT) (P:Program) (w:World) (K:PySem.W.Frag) (mg:Str->Option Value) (base:Heap) (N:List Str) (qual:Str) (scope:Scope) (f:Addr) (cd:Value) (A:Around) (outer:List Env) (s:Shared) (H:Hp) (E:XK):Cx where
 prog:=P
 w:=w
 K:=K
 mg:=mg
 base:=base
 A:=A.deeper (envOfC qual scope s.heap.objs.size f cd)
 N:=N
 s₀:=s
 H₀:=H
 env:=envOfC qual scope s.heap.objs.size f cd
 outer:=outer
 stack:=envOfC qual scope s.heap.objs.size f cd::outer
 ex:=[]
 calm:=true
 fn:=fun _=>true
 pn:=[]
 xe:=fun e s'=>wpAny (model P w) (A.deeper (envOfC qual scope s.heap.objs.size f cd)) (leaving (envOfC qual scope s.heap.objs.size f cd) e) (fun _ s''=>CX outer H s E e s'') (fun e' s''=>CX outer H s E e' s'') s'
theorem jgO {sc:Scope} {n:Nat} {x:Str} (h:sc.names.lookup x=some .cell):∃c,(cellsFrom n sc.names []).lookup x=some c:=by
 have q:=PySem.W.cellsFrom_some sc.names n [] (.inl h);exact Option.isSome_iff_exists.mp q
theorem jia {CX:CXT} {P:Program} {w:World} {K:PySem.W.Frag} {mg:Str->Option Value} {base:Heap} {N ps:List Str} {qual:Str} {scope:Scope} {f:Addr} {cd:Value} {A:Around} {outer:List Env} {s s1:Shared} {H:Hp} {E:XK} {us:List Value} {vs:List V}
  (S:FnScope N ps scope) (hd:A.handled=none) (e0:Env0 P w K mg base A outer s H) (hl:vs.length=ps.length) (r:Vals vs us)
  (x:InCallC s s.heap.objs.size (bindL (envOfC qual scope s.heap.objs.size f cd).kindOf (ps.zip us) fun _=>none) (cellsFrom (s.heap.objs.size+1) scope.names []) (bindC (envOfC qual scope s.heap.objs.size f cd).kindOf (ps.zip us) fun _=>none) s1) :
  Inv (jgj CX P w K mg base N qual scope f cd A outer s H E) [] (jbQ N vs) H s1:=by
 have hpl:ps.length<=N.length:=by have:=congrArg List.length S.pre;rw[xat] at this;omega
 obtain⟨h1,tk,rfl,hk⟩:=x.done;have noA:∀b:Addr,b∉(jgj CX P w K mg base N qual scope f cd A outer s H E).ex:=fun b z=>absurd (show b∈([]:List Addr) from z) (by simp);refine⟨⟨e0.mod,S.kind,rfl,rfl,xae _,fun y z c h1 h2=>?_,fun y hy=>?_,fun y c _ h=>?_,fun _=>hd,Around.frames_deeper e0.frames,.inr ⟨rfl,rfl⟩,fun b z=>absurd z (noA b),e0.bs,e0.bsz,fun b _ _=>noA b,fun b z=>absurd z (noA b),e0.funs,e0.frf⟩,
  rfl,e0.bare,Un.kept hk,⟨_,x.toInCall.ns,fun i y v h1 h2 h3=>?_⟩,fun y c h=>⟨_,x.cell y c h⟩,e0.hok.fresh (xae _),fun y c h=>?_,fun p hp=>absurd (show p∈([]:List (Addr × Obj)) from hp) (by simp),e0.hok.kept hk,?_⟩
 ·exact name_of_addr x.apart (PySem.mem_of_lookup h1) (PySem.mem_of_lookup h2)
 ·have hy:scope.names.lookup y=some .cell\/scope.names.lookup y=some .free:=hy;rcases hy with hy | hy
  ·exact jgO hy
  ·exact absurd rfl (S.nofree _ (PySem.mem_of_lookup hy))
 ·exact xa1 (x.above y c (PySem.mem_of_lookup h))
 ·have hi:i<vs.length:=by
   unfold jbQ at h2;by_cases hi:i<vs.length
   ·exact hi
   ·rw[xaI (by simpa using hi)] at h2;rw[List.getElem?_replicate] at h2;split at h2<;>cases h2
  have ha:vs[i]?=some v:=by
   unfold jbQ at h2;rw[xaO (by simpa using hi),xad] at h2;cases e:vs[i]? with
   | none=>rw[e] at h2;cases h2
   | some a=>rw[e] at h2;cases h2;rfl
  obtain⟨u,hu,rv⟩:=r.get ha;have hp:ps[i]?=some y:=by
   rw[<- S.pre,List.getElem?_take_of_lt (by omega)];exact h1
  have ndP:ps.Nodup:=by rw[<- S.pre];exact S.nd.sublist (List.take_sublist _ _)
  refine⟨u,rv,?_⟩;rcases S.par y (xas hp) with k | k
  ·exact .inl ⟨k,jfQ ndP hp hu k⟩
  ·obtain⟨c,e⟩:=jgO (n:=s.heap.objs.size+1) k;refine .inr ⟨.inl k,c,e,?_⟩;have q:=x.cell y c e;rw[jfR ndP hp hu (by show scope.names.lookup y≠_;rw[k];decide)] at q;exact q
 ·exact e0.hok.fresh (xa1 (x.above y c (PySem.mem_of_lookup h)))
 ·unfold jbQ;show _=N.length;rw[xaf,xaa,xaQ];omega
theorem jm1 {CX:CXT} {P:Program} {w:World} {K:PySem.W.Frag} {mg:Str->Option Value} {base:Heap} {k:Nat} {f:Addr} {name qual:Str} {params:Arguments} {body:List Stmt} {scope:Scope} {dV kV doc pm cdv ct oc:Value} {an od:Option Addr}
    {osl:Array (Option Value)} {N ps:List Str} {sp:Sp} (lk:K.lookup f=some ⟨oc,od,.func (PySem.W.fnOf name qual params body scope dV kV doc pm an cdv ct),osl⟩) (hcd:PySem.W.codeIn K cdv qual=true) (S:FnScope N ps scope)
    (len:∀vs H Q E,sp vs H Q E->vs.length=ps.length)
    (hbody:∀(A:Around) (outer:List Env) (s:Shared) (H:Hp) (vs:List V) (Q:VK) (E:XK),Room k (A.deeper (envOfC qual scope s.heap.objs.size f cdv))->sp vs H Q E ->
      ∃t,PSs (jgj CX P w K mg base N qual scope f cdv A outer s H E) body t/\t { nx:=fun _ H'=>Q .non H',rt:=Q } (jbQ N vs) H) :
    FnOk P w K mg base CX (k+1) f (PySem.W.fnOf name qual params body scope dV kV doc pm an cdv ct) ps sp:=by
  refine⟨len,fun A outer s H args us vs Q E hr e0 hb r hsp=>?_⟩;have hl:=len _ _ _ _ hsp;have KX:K.In s.heap:=e0.mod.kin.keeps fun b o e=>(e0.bs b o e).1;have lim:s.heap.NoLimit:=e0.mod.nolimit.keeps fun b o e=>(e0.bs b o e).1;have hkind:∀y∈ps.zip us,scope.names.lookup y.1=some .local\/(scope.names.lookup y.1=some .cell/\((cellsFrom (s.heap.objs.size+1) scope.names []).lookup y.1).isSome=true):=fun ⟨n,v⟩ hy=>by
    rcases S.par n (List.of_mem_zip hy).1 with q | q
    . exact .inl q
    . exact .inr ⟨q,PySem.W.cellsFrom_some _ _ _ (.inl q)⟩
  refine codeAny_call_function hr.depth (KX _ _ lk) rfl S.co S.gen rfl (PySem.W.codeRec_of KX hcd) (hb _ _ _ _ ?_);refine wpAny_newFunctionEnv_cells S.kind hkind fun env he s1 x=>?_;subst he;refine⟨lim.keeps x.toInCall.keep,codeAny_func ?_⟩;obtain⟨t,ht,hq⟩:=hbody A outer s H vs Q E (hr.deeper _) hsp;have I:Inv (jgj CX P w K mg base N qual scope f cdv A outer s H E) [] (jbQ N vs) H s1:=jia S hr.hd e0 hl r x;refine wpAny_mono (ht [] s1 (jbQ N vs) H _ I hq) (fun fl s' hs=>?_) fun e s' hs=>hs;have fin:∀{σ':St} {H':Hp} {v:V} {u:Value},Inv (jgj CX P w K mg base N qual scope f cdv A outer s H E) [] σ' H' s'->RelV v u->Q v H'->CE outer P w H s Q u s' :=
    fun {σ' H' v u} J rv q=>⟨v,H',J.os,J.bare,J.base,J.hok,rv,q⟩
  cases fl with
  | ret u =>
    obtain⟨v,σ',H',J,rv,q⟩:=hs;exact fin J rv q
  | next =>
    obtain⟨σ',H',J,q⟩:=hs;exact fin (v:=V.non) (u:=Value.none) J rfl q
  | brk =>
    obtain⟨_,_,_,q⟩:=hs;exact False.elim q
  | cont =>
    obtain⟨_,_,_,q⟩:=hs;exact False.elim q
section
variable {X:Cx} {x:Str} {p pos:Pos} {e:Expr} {es:List Expr} {t:TA} {id T:String} {r:List V->Hp->VK->Prop}
def tCB (r:List V->Hp->VK->Prop) (t:TA):TE:=fun σ H Q=>t σ H fun vs H1=>r vs H1 Q
theorem jaz (hc:CallR X (.builtin id) r) (hg:Gl X x) (hm:X.mg x=none) (hv:bootBuiltins x=some (.builtin id)) (ha:PA X (e::es) t) (hn:x≠"__name__":=by decide) (hdb:(x==("__debug__":Str))=false:=by decide)
  (he:starEach (e::es) X.env=(false,eval e X.env)::starEach es X.env:=by rfl) (hpl:(backTo pos (starEach es X.env)).any (·.1)=false:=by rfl):PE X (.Call (.Name x p) (e::es) [] pos) (tCB r t):=by
 intro pins s σ H Q I h;refine wpAny_Call_Name_kw (jdj I hg hm hv ?_ hn hdb);exact PyProof.Rows.callWith_builtin1 (thn (ha pos pins s σ H _ I h) fun us s1 ⟨vs,H1,I1,r1,q1⟩=>hc pins s1 σ H1 vs us Q I1 r1 q1) he hpl
theorem jaE (hc:CallR X (.type T) r) (hg:Gl X x) (hm:X.mg x=none) (hv:bootBuiltins x=some (.type T)) (ha:PA X (e::es) t) (hn:x≠"__name__":=by decide) (hdb:(x==("__debug__":Str))=false:=by decide)
  (he:starEach (e::es) X.env=(false,eval e X.env)::starEach es X.env:=by rfl) (hpl:(backTo pos (starEach es X.env)).any (·.1)=false:=by rfl):PE X (.Call (.Name x p) (e::es) [] pos) (tCB r t):=by
 intro pins s σ H Q I h;refine wpAny_Call_Name_kw (jdj I hg hm hv ?_ hn hdb);exact PyProof.Rows.callWith_type1 (thn (ha pos pins s σ H _ I h) fun us s1 ⟨vs,H1,I1,r1,q1⟩=>hc pins s1 σ H1 vs us Q I1 r1 q1) he hpl
end
end L2
namespace HT
open PySem PyProof.Rows
section
open PySem.SeqAt
open PySem.AutoSeq1 (wpAny_loadPart')
open PySem.MeetsSeq PySem.MeetsSeq2 PySem.MeetsSeq3
end
section
variable {prog:Program} {w:World} {A:Around} {E:Value->Shared->Prop} {s:Shared}
theorem cat_tup {t b:Addr} {vs ws:List Value} {Q:Value->Shared->Prop} (ht:IsTup s.heap t vs.toArray) (hb:IsTup s.heap b ws.toArray) (hv:vs≠[])
  (h1:ws=[]->Q (.ref t) s) (h2:ws≠[]->Q (.ref s.heap.objs.size) { s with heap:=s.heap.push { cls:=.type "tuple",data:=.seq (vs++ws).toArray } })
  (hsz:vs.length+ws.length<=sizeLine):wpAny (model prog w) A (binaryOp .Add (.ref t) (.ref b)) Q E s:=by
 obtain⟨⟨cls,dd,data,sl⟩,ho,hc,n,hd⟩:=id ht;obtain⟨⟨cls2,dd2,data2,sl2⟩,ho2,hc2,n2,hd2⟩:=id hb;simp only at hc hd hc2 hd2;subst hc hd hc2 hd2;have e:vs.toArray++ws.toArray=(vs++ws).toArray:=by simp
 by_cases hw:ws=[]
 ·exact concat_meets ⟨_,ho,rfl⟩ ⟨_,ho2,rfl⟩ noFill_tuple_add seq_tuple_add PySem.F.slot_tuple_add PySem.F.entry_tuple_add (PySem.F.args_tuple_add_2 _ _)
   (tuple_addW1 t b vs.toArray ws.toArray n n2 dd dd2 sl sl2 (by simpa using hv) (by simp [hw])) ⟨ho,ho2,h1 hw⟩
 ·refine concat_meets ⟨_,ho,rfl⟩ ⟨_,ho2,rfl⟩ noFill_tuple_add seq_tuple_add PySem.F.slot_tuple_add PySem.F.entry_tuple_add (PySem.F.args_tuple_add_2 _ _)
   (tuple_addW2 t b vs.toArray ws.toArray n n2 dd dd2 sl sl2 (by simpa using hv) (by simpa using hw) (by rw[xai,xai];exact hsz)) ⟨ho,ho2,?_⟩
  rw[e];exact h2 hw
def sIx (n d:Nat):Option Int->Nat
 | none=>d
 | some v=>if v<0 then (v+(n:Int)).toNat else min v.toNat n
theorem sIx_none (n d:Nat):sIx n d none=d:=rfl
theorem sIx_nat (n d k:Nat):sIx n d (some (k:Int))=min k n:=by
 show (if (k:Int)<0 then ((k:Int)+(n:Int)).toNat else min (k:Int).toNat n)=min k n;rw[if_neg (by omega),xa9]
theorem jm2 (n d:Nat) (hd:d<=n) (o:Option Int):sIx n d o<=n:=by
  cases o with
  | none=>exact hd
  | some v =>
    show (if v<0 then (v+(n:Int)).toNat else min v.toNat n)<=n;by_cases hv:v<0
    . rw[if_pos hv];omega
    . rw[if_neg hv];exact Nat.min_le_right _ _
theorem jib (v:Int) (n d:Nat):(if v<0 then max (v+(n:Int)) 0 else min v (n:Int))=((sIx n d (some v):Nat):Int):=by
 show (if v<0 then max (v+(n:Int)) 0 else min v (n:Int))=(((if v<0 then (v+(n:Int)).toNat else min v.toNat n):Nat):Int);by_cases hv:v<0
 ·simp only[if_pos hv];omega
 ·simp only[if_neg hv];omega
theorem jhA (lo hi:Option Int) (n:Nat):Builtin.Slice.sliceAdjust lo hi 1 (n:Int)=(((sIx n 0 lo:Nat):Int),((sIx n n hi:Nat):Int)):=by
 have h1:¬((1:Int)<0):=by omega
 unfold Builtin.Slice.sliceAdjust;simp only[h1,if_false];refine Prod.ext ?_ ?_
 ·cases lo with
  | none=>rfl
  | some v=>exact jib v n 0
 ·cases hi with
  | none=>rfl
  | some v=>exact jib v n n
theorem jhB (i j:Nat):Builtin.Slice.slicePlaces (i:Int) (j:Int) 1=j-i:=by
 unfold Builtin.Slice.slicePlaces;have h1:(1:Int)>0:=by omega
 simp only[h1,if_true,Int.ediv_one];split<;>omega
theorem je0 {v:Value} {o:Option Int} {Q:Option Int->Shared->Prop} (p:IsPart v o) (h:Q o s):wpAny (model prog w) A (Builtin.Slice.slicePartIndex v) Q E s:=by
 cases p with
 | none=>exact slicePart_none h
 | int i t=>exact slicePart_int h
theorem jd6 {sl:Addr} {vl vu:Value} {lo hi:Option Int} {n:Nat} {Q:Int × Int × Nat->Shared->Prop} (hs:s.heap.IsSliceOf sl vl vu .none) (pl:IsPart vl lo) (pu:IsPart vu hi)
  (h:Q (((sIx n 0 lo:Nat):Int),1,sIx n n hi-sIx n 0 lo) s):wpAny (model prog w) A (Builtin.Slice.sliceApplied (.ref sl) (pure (n:Int))) Q E s:=by
 obtain⟨os,hos,hcs,hds⟩:=id hs;unfold Builtin.Slice.sliceApplied Builtin.Slice.sliceFields;refine wpAny_bind (wpAny_bind (wpAny_field hos hds (x:=vl) rfl (wpAny_bind (wpAny_field hos hds (x:=vu) rfl (wpAny_bind (wpAny_field hos hds (x:=.none) rfl (wpAny_pure ?_)))))));refine wpAny_bind (slicePart_none ?_);show wpAny _ _ (if ((1:Int)==0)=true then _ else _) _ _ s;rw[if_neg (by decide)];refine wpAny_bind (je0 pl (wpAny_bind (je0 pu (wpAny_bind (wpAny_pure ?_)))));show wpAny _ _ (match Builtin.Slice.sliceAdjust lo hi 1 (n:Int) with | (lo,hi)=>pure (lo,(1:Int),Builtin.Slice.slicePlaces lo hi 1)) _ _ s;rw[jhA lo hi n];show wpAny _ _ (pure (((sIx n 0 lo:Nat):Int),(1:Int),Builtin.Slice.slicePlaces ((sIx n 0 lo:Nat):Int) ((sIx n n hi:Nat):Int) 1)) _ _ s;rw[jhB];exact wpAny_pure h
theorem jjH (xs:Array Value) (i k:Nat):((List.range k).filterMap fun (m:Nat)=>xs[((i:Int)+(m:Int)*1).toNat]?).toArray=((xs.toList.drop i).take k).toArray:=by
 have e:(fun (m:Nat)=>xs[((i:Int)+(m:Int)*1).toNat]?)=fun m=>xs[i+m]?:=by
  funext m
  have:((i:Int)+(m:Int)*1).toNat=i+m:=by omega
  rw[this]
 rw[e];have:=pick_run xs i k;rw[List.filterMap_map] at this;have e2:((fun x=>xs[x]?)∘fun x=>i+x)=fun m=>xs[i+m]?:=rfl;rw[e2] at this;rw[this]
theorem getItem_tuple_cut {t sl:Addr} {items:Array Value} {vl vu:Value} {lo hi:Option Int} {Q:Value->Shared->Prop} (ht:IsTup s.heap t items) (hs:s.heap.IsSliceOf sl vl vu .none) (pl:IsPart vl lo) (pu:IsPart vu hi)
  (hw:¬(sIx items.size 0 lo=0/\sIx items.size items.size hi=items.size))
  (h:Q (.ref s.heap.objs.size) { s with heap:=s.heap.push { cls:=.type "tuple",data:=.seq ((items.toList.drop (sIx items.size 0 lo)).take (sIx items.size items.size hi-sIx items.size 0 lo)).toArray } })
  (hsz:items.size<=sizeLine):wpAny (model prog w) A (getItem (.ref t) (.ref sl)) Q E s:=by
 have htake:sizeOk (.seq ((items.toList.drop (sIx items.size 0 lo)).take (sIx items.size items.size hi-sIx items.size 0 lo)).toArray):=by
  show ((items.toList.drop (sIx items.size 0 lo)).take (sIx items.size items.size hi-sIx items.size 0 lo)).toArray.size<=sizeLine;rw[xai,xat,xaE,Array.length_toList];omega
 have hj:sIx items.size items.size hi<=items.size:=jm2 _ _ (xae _) hi;obtain⟨os,hos,hcs,hds⟩:=id hs;have hTs:s.TypeIs (.ref sl) "slice":=⟨os,hos,hcs⟩;unfold getItem;try with_reducible refine wpAny_holding ?_
 first | refine wpAny_bind (wpAny_pure ?_) | skip
 refine wpAny_bind (wpAny_sequenceKey ht.typeIs (by decide) ?_);refine wpAny_bind (wpAny_callSpecial?_slot (name:=Str.ofString "__getitem__") ht.typeIs PyProof.Rows.slot_tuple_getitem
  (wpAny_call_entry PyProof.Rows.slot_tuple_getitem ht.typeIs entry_tuple_getitem ?_ (args_tuple_getitem _ _)))
 show wpAny _ _ (Builtin.Tuple.tupleItemsOf (.ref t) >>= _) _ _ s;refine wpAny_bind (tupleItemsOf_ ht ?_);refine wpAny_bind (wpAny_typeOf hTs ?_);rw[if_pos (by decide)];refine wpAny_bind (jd6 hs pl pu ?_);have hno:¬((((sIx items.size 0 lo:Nat):Int)==0&&(1:Int)==1&&(sIx items.size items.size hi-sIx items.size 0 lo)==items.size)=true):=by
  intro q;rw[xaJ,xaJ] at q;have q1:((sIx items.size 0 lo:Nat):Int)=0:=eq_of_beq q.1.1;have q2:sIx items.size items.size hi-sIx items.size 0 lo=items.size:=eq_of_beq q.2;exact hw ⟨by omega,by omega⟩
 show wpAny _ _ (if (((sIx items.size 0 lo:Nat):Int)==0&&(1:Int)==1&&(sIx items.size items.size hi-sIx items.size 0 lo)==items.size)=true then _ else _) _ _ s;rw[if_neg hno,jjH]
 first
  | exact wpAny_bind (m:=Builtin.Tuple.tupleExact _) (wpAny_newObj_type (wpAny_pure ⟨_,rfl,wpAny_pure h⟩) htake)
  | exact wpAny_bind (m:=Builtin.Tuple.tupleExact _) (wpAny_newObj_type (wpAny_bind (wpAny_pure (wpAny_pure ⟨_,rfl,wpAny_pure h⟩))) htake)
  | exact wpAny_bind (wpAny_bind (m:=Builtin.Tuple.tupleExact _) (wpAny_newObj_type (wpAny_pure (wpAny_pure ⟨_,rfl,wpAny_pure h⟩)) htake))
  | exact wpAny_bind (wpAny_bind (m:=Builtin.Tuple.tupleExact _) (wpAny_newObj_type (wpAny_pure ⟨_,rfl,wpAny_pure h⟩) htake))
end
end HT
namespace L2
open PySem PySem.Spec PyProof.Rows
abbrev TO:=St->Hp->(Option Int->Hp->Prop)->Prop
def PO (X:Cx) (e:Option Expr) (t:TO):Prop :=
  ∀ (pins : List (Addr × Obj)) (s : Shared) (σ : St) (H : Hp) (Q : Option Int -> Hp -> Prop), Inv X pins σ H s -> t σ H Q ->
    wpAny (model X.prog X.w) X.A (evalPart e X.env) (fun u s'=>∃o H',Inv X pins σ H' s'/\IsPart u o/\Q o H') X.xe s
def jeo:TO:=fun _ H Q=>Q none H
def jic (t:TE):TO:=fun σ H Q=>t σ H fun x H1=>∃i,x=.int i/\Q (some i) H1
section
variable {X:Cx} {e:Expr} {te:TE} {lo hi:Option Expr} {tl th:TO} {pos p2:Pos}
theorem jbe:PO X none jeo:=by
 intro pins s σ H Q I h;rw[evalPart_none];exact wpAny_pure ⟨none,H,I,.none,h⟩
theorem ja7 (h:PE X e te):PO X (some e) (jic te):=by
 intro pins s σ H Q I hw;rw[evalPart_some];refine thn (h pins s σ H _ I hw) fun u s1 ⟨x,H1,I1,r1,q1⟩=>?_;obtain⟨i,rfl,q⟩:=q1;obtain⟨t,rfl⟩:=r1;exact⟨some i,H1,I1,.int i t,q⟩
def SlR (X:Cx) (r:V->Option Int->Option Int->Hp->VK->Prop):Prop :=
  ∀ (pins : List (Addr × Obj)) (s : Shared) (σ : St) (H : Hp) (x : V) (v vl vu : Value) (lo hi : Option Int) (sl : Addr) (Q : VK), Inv X pins σ H s -> RelV x v -> s.heap.IsSliceOf sl vl vu .none -> IsPart vl lo -> IsPart vu hi -> r x lo hi H Q ->
    ∃T id,typeLookup (.type T) "__getitem__"=pure (some (.builtin id))/\s.TypeIs v T/\wpAny (model X.prog X.w) X.A (getItem v (.ref sl)) (EP X pins σ Q) X.xe s
theorem SlR.or {r r':V->Option Int->Option Int->Hp->VK->Prop} (h:SlR X r) (h':SlR X r'):SlR X (fun x lo hi H Q=>r x lo hi H Q\/r' x lo hi H Q):=by
 intro pins s σ H x v vl vu lo hi sl Q I rx hs pl pu q;rcases q with q | q
 ·exact h pins s σ H x v vl vu lo hi sl Q I rx hs pl pu q
 ·exact h' pins s σ H x v vl vu lo hi sl Q I rx hs pl pu q
def tSl (r:V->Option Int->Option Int->Hp->VK->Prop) (te:TE) (tl th:TO):TE:=fun σ H Q=>te σ H fun x H1=>tl σ H1 fun l H2=>th σ H2 fun u H3=>r x l u H3 Q
theorem ja5 {r:V->Option Int->Option Int->Hp->VK->Prop} (hr:SlR X r) (he:PE X e te) (hl:PO X lo tl) (hu:PO X hi th):PE X (.Subscript e (.Slice lo hi none p2) pos) (tSl r te tl th):=by
 intro pins s σ H Q I h;refine Subscript_ (thn (he pins s σ H _ I h) fun v s1 ⟨x,H1,I1,r1,q1⟩=>?_);refine wpAny_Slice (thn (hl pins s1 σ H1 _ I1 q1) fun vl s2 ⟨l,H2,I2,pl,q2⟩=>thn (hu pins s2 σ H2 _ I2 q2) fun vu s3 ⟨u,H3,I3,pu,q3⟩=>?_);rw[evalPart_none];refine wpAny_pure ?_;have I4:Inv X pins σ H3 { s3 with heap:=s3.heap.push { cls:=.type "slice",data:=.fields #[vl,vu,.none] } }:=I3.kept (t':=s3.toks) fun b ob q=>Heap.get?_push_of_some _ q;obtain⟨T,id,hT,ht,hg⟩:=hr pins { s3 with heap:=s3.heap.push { cls:=.type "slice",data:=.fields #[vl,vu,.none] } } σ H3 x v vl vu l u s3.heap.objs.size Q I4 r1 (Heap.IsSliceOf.new ..) pl pu q3;show wpAny (model X.prog X.w) X.A (subscriptTail e (.Slice lo hi none p2) v (.ref s3.heap.objs.size)) (EP X pins σ Q) X.xe { s3 with heap:=s3.heap.push { cls:=.type "slice",data:=.fields #[vl,vu,.none] } };exact tail_any (ops:=[.ref s3.heap.objs.size,v]) ht hT hg (by with_unfolding_all rfl)
def jeR (xs:List V) (lo hi:Option Int):List V:=(xs.drop (HT.sIx xs.length 0 lo)).take (HT.sIx xs.length xs.length hi-HT.sIx xs.length 0 lo)
theorem jep (xs:List V) (lo hi:Option Int):(jeR xs lo hi).length<=xs.length:=by
 unfold jeR;rw[xat,xaE];omega
def rSlT (K:PySem.W.Frag):V->Option Int->Option Int->Hp->VK->Prop:=fun x lo hi H Q=>∃a xs,x=.ref a/\SqT K H a xs /\
 ¬(HT.sIx xs.length 0 lo=0/\HT.sIx xs.length xs.length hi=xs.length)/\∀p,H p=none->Q (.ref p) (upd H p (.tup (jeR xs lo hi)))
theorem jkF:SlR X (rSlT X.K):=by
 intro pins s σ H x v vl vu lo hi sl Q I rx hs pl pu h;obtain⟨a,xs,rfl,hx,hw,q⟩:=h;cases rx;obtain⟨its,r,ht,hz⟩:=I.tuple hx;have hlen:its.toArray.size=xs.length:=by rw[xai];exact r.length.symm
 refine⟨"tuple",_,PyProof.Rows.slot_tuple_getitem.lookup,ht.typeIs,?_⟩;refine HT.getItem_tuple_cut ht hs pl pu (by rw[hlen];exact hw) ?_ (by rw[hlen];exact hz);rw[hlen];refine⟨.ref s.heap.objs.size,_,I.laid (t':=s.toks) (o:=.tup (jeR xs lo hi)) (fun b ob q=>Heap.get?_push_of_some _ q) (xae _) ?_,rfl,q _ (I.hok.fresh (xae _))⟩;exact⟨xan (jep xs lo hi) hz,_,(r.drop (HT.sIx xs.length 0 lo)).take (HT.sIx xs.length xs.length hi-HT.sIx xs.length 0 lo),IsTup.new _ _⟩
def rCatT (K:PySem.W.Frag):R2:=fun x y H Q=>∃a b xs ys,x=.ref a/\y=.ref b/\SqT K H a xs/\SqT K H b ys/\xs≠[]/\xs.length+ys.length<=sizeLine /\
 (ys=[]->Q (.ref a) H)/\(ys≠[]->∀p,H p=none->Q (.ref p) (upd H p (.tup (xs++ys))))
theorem Vals.nil_iff {xs:List V} {us:List Value} (r:Vals xs us):us=[]↔xs=[]:=by
 cases r with
 | nil=>simp
 | cons _ _=>simp
theorem jid:OpR X (binaryOp .Add) (rCatT X.K):=by
 intro pins s σ H x y v u Q I rx ry h;obtain⟨a,b,xs,ys,rfl,rfl,ha,hb,hx,hz,q1,q2⟩:=h;cases rx;cases ry;obtain⟨its,r1,p1,_⟩:=I.tuple ha;obtain⟨its2,r2,p2,_⟩:=I.tuple hb;refine HT.cat_tup p1 p2 (fun z=>hx (r1.nil_iff.mp z)) (fun z=>⟨.ref a,H,I,rfl,q1 (r2.nil_iff.mp z)⟩) (fun z=>?_) (by rw[<- r1.length,<- r2.length];exact hz);refine⟨.ref s.heap.objs.size,_,I.laid (t':=s.toks) (o:=.tup (xs++ys)) (fun b ob q=>Heap.get?_push_of_some _ q) (xae _) ?_,rfl,q2 (fun w=>z (r2.nil_iff.mpr w)) _ (I.hok.fresh (xae _))⟩;exact⟨by rw[xaf];exact hz,_,r1.append r2,IsTup.new _ _⟩
end
def ixN (n:Nat) (i:Int):Option Nat:=if 0<=i then (if i<n then some i.toNat else none) else if -(n:Int)<=i then some (i+n).toNat else none
def atI {α:Type} (xs:List α) (i:Int):Option α:=(ixN xs.length i).bind fun j=>xs[j]?
theorem jie {n:Nat} {i:Int} {j:Nat} (h:ixN n i=some j):seqIndex? i n=some j/\j<n/\-(n:Int)<=i/\i<n:=by
 unfold ixN at h;by_cases h0:0<=i
 ·rw[if_pos h0] at h;by_cases h1:i<n
  ·rw[if_pos h1] at h;have e:i.toNat=j:=Option.some.inj h;exact⟨by rw[seqIndex_of h0 h1,e],by omega,by omega,h1⟩
  ·rw[if_neg h1] at h;cases h
 ·rw[if_neg h0] at h;by_cases h1:-(n:Int)<=i
  ·rw[if_pos h1] at h;have e:(i+n).toNat=j:=Option.some.inj h;exact⟨by rw[seqIndex_neg (by omega) h1,e],by omega,h1,by omega⟩
  ·rw[if_neg h1] at h;cases h
theorem jif {α:Type} {xs:List α} {i:Int} {v:α} (h:atI xs i=some v):∃j,seqIndex? i xs.length=some j/\xs[j]?=some v/\j<xs.length/\-(xs.length:Int)<=i/\i<xs.length:=by
  unfold atI at h;cases e:ixN xs.length i with
  | none=>rw[e] at h;cases h
  | some j =>
    rw[e] at h;obtain⟨h1,h2,h3,h4⟩:=jie e;exact⟨j,h1,h,h2,h3,h4⟩
theorem jaF {α:Type} {xs:List α} {j:Nat} {v:α} (h:xs[j]?=some v):atI xs (j:Int)=some v:=by
 have hj:j<xs.length:=(xaj.mp h).1;have e:ixN xs.length (j:Int)=some j:=by
  unfold ixN;rw[if_pos (by omega),if_pos (by omega)];simp
 unfold atI;rw[e];exact h
theorem jjI {α:Type} (xs:List α) (v:α):atI (xs++[v]) (-1)=some v:=by
 have hl:(xs++[v]).length=xs.length+1:=by simp
 have e:ixN (xs++[v]).length (-1)=some xs.length:=by
  unfold ixN;rw[hl,if_neg (by decide),if_pos (by omega)]
  congr 1
  omega
 unfold atI;rw[e];show (xs++[v])[xs.length]?=some v;simp
def jig (b:Expr):Prop:=∀o i,subscripted b false o i=operate [o,i] (getItem o i)
def IxR (X:Cx) (r:R2):Prop :=
  ∀ (value slice : Expr) (pins : List (Addr × Obj)) (s : Shared) (σ : St) (H : Hp) (x y : V) (v u : Value) (Q : VK), Inv X pins σ H s -> RelV x v -> RelV y u -> r x y H Q ->
    subscripted slice false v u=operate [v,u] (getItem v u)->wpAny (model X.prog X.w) X.A (subscriptTail value slice v u) (EP X pins σ Q) X.xe s
def MtR (X:Cx) (id:String) (r:V->List V->Hp->VK->Prop):Prop :=
  ∀ (pins : List (Addr × Obj)) (s : Shared) (σ : St) (H : Hp) (x : V) (xs : List V) (v : Value) (us : List Value) (Q : VK), Inv X pins σ H s -> RelV x v -> Vals xs us -> r x xs H Q ->
    wpAny (model X.prog X.w) X.A (call (.builtin id) (v::us)) (EP X pins σ Q) X.xe s
section
variable {X:Cx} {a b:Expr} {ta tb:TE} {pos:Pos}
theorem IxR.or {r r':R2} (h:IxR X r) (h':IxR X r'):IxR X (fun x y H Q=>r x y H Q\/r' x y H Q):=by
 intro value slice pins s σ H x y v u Q I rx ry q hs;rcases q with q | q
 ·exact h value slice pins s σ H x y v u Q I rx ry q hs
 ·exact h' value slice pins s σ H x y v u Q I rx ry q hs
theorem MtR.or {id:String} {r r':V->List V->Hp->VK->Prop} (h:MtR X id r) (h':MtR X id r'):MtR X id (fun x xs H Q=>r x xs H Q\/r' x xs H Q):=by
 intro pins s σ H x xs v us Q I rx rs q;rcases q with q | q
 ·exact h pins s σ H x xs v us Q I rx rs q
 ·exact h' pins s σ H x xs v us Q I rx rs q
theorem jar {r:R2} (hr:IxR X r) (ha:PE X a ta) (hb:PE X b tb) (hs:jig b:=by exact fun _ _=>rfl):PE X (.Subscript a b pos) (tOp r ta tb):=by
 intro pins s σ H Q I h;exact Subscript_ (binT ha hb I h fun v u s2 x y H2 I2 rx ry q=>hr a b pins s2 σ H2 x y v u Q I2 rx ry q (hs _ _))
def rIxL (K:PySem.W.Frag):R2:=fun x y H Q=>∃p xs i v,x=.ref p/\y=.int i/\SqL K H p xs/\atI xs i=some v/\Q v H
def jmE (K:PySem.W.Frag):R2:=fun x y H Q=>∃p xs i v,x=.ref p/\y=.int i/\SqT K H p xs/\atI xs i=some v/\Q v H
theorem ix_list:IxR X (rIxL X.K):=by
 intro value slice pins s σ H x y v u Q I rx ry h hs;obtain⟨p,xs,i,z,rfl,rfl,hq,he,q⟩:=h;cases rx;obtain⟨t,rfl⟩:=ry;obtain⟨its,r,pl,hz⟩:=I.list hq;obtain⟨j,h1,h2,h3,h4,h5⟩:=jif he;obtain⟨w,ew,rw'⟩:=r.get h2;have hl:=r.length;have hn:=jeZ;have fin:EP X pins σ Q w s:=⟨z,H,I,rw',q⟩;by_cases h0:0<=i
 ·have hj:i.toNat=j:=by
   rw[seqIndex_of h0 h5] at h1;exact Option.some.inj h1
  exact item_listR pl.isList h0 (by omega) (by rw[hj];simpa using ew) fin hs
 ·have hj:(i+(its.toArray.size:Int)).toNat=j:=by
   rw[seqIndex_neg (by omega) h4] at h1;rw[xai,<- hl];exact Option.some.inj h1
  exact subscriptTail_builtinR (x:=w) pl.isList.typeIs slot_list_getitem.lookup
   (wpAny_getItem_list_neg (Q:=fun r s'=>r=w/\EP X pins σ Q r s') pl.isList (by omega) (by rw[xai]<;>omega) (by omega) (by rw[hj];simpa using ew) ⟨rfl,fin⟩) hs
theorem jau:IxR X (jmE X.K):=by
 intro value slice pins s σ H x y v u Q I rx ry h hs;obtain⟨p,xs,i,z,rfl,rfl,hq,he,q⟩:=h;cases rx;obtain⟨t,rfl⟩:=ry;obtain⟨its,r,pl,hz⟩:=I.tuple hq;obtain⟨j,h1,h2,h3,h4,h5⟩:=jif he;obtain⟨w,ew,rw'⟩:=r.get h2;have hl:=r.length;have hn:=jeZ;have fin:EP X pins σ Q w s:=⟨z,H,I,rw',q⟩;exact subscriptTail_builtinR (x:=w) pl.typeIs slot_tuple_getitem.lookup
  (getItem_tuple (j:=j) (Q:=fun r s'=>r=w/\EP X pins σ Q r s') pl (by omega) (by omega) (by rw[xai,<- hl];exact h1) (by simpa using ew) ⟨rfl,fin⟩) hs
theorem jhC (its:List Value) (n j:Nat) (u:Value):Obj.mapSeq (·.setIfInBounds j u) { cls:=.type "list",data:=.seq its.toArray n }={ cls:=.type "list",data:=.seq (its.set j u).toArray n }:=by
 simp [Obj.mapSeq]
theorem Inv.lst {pins:List (Addr × Obj)} {σ:St} {H:Hp} {s:Shared} {p:Addr} {xs:List V} (I:Inv X pins σ H s) (h:H p=some (.lst xs)) :
  ∃(its:List Value) (n:Nat),Vals xs its/\s.heap.get? p=some { cls:=.type "list",data:=.seq its.toArray n }/\xs.length<=sizeLine:=by
 obtain⟨z,its,n,r,e⟩:=I.hok p _ h;exact⟨its,n,r,e,z⟩
theorem Inv.lstUpd {pins:List (Addr × Obj)} {σ:St} {H:Hp} {s:Shared} {p:Addr} {xs ys:List V} {its its':List Value} {n n':Nat} {f:Obj->Obj} (I:Inv X pins σ H s) (h:H p=some (.lst xs))
  (ho:s.heap.get? p=some { cls:=.type "list",data:=.seq its.toArray n }) (hf:f { cls:=.type "list",data:=.seq its.toArray n }={ cls:=.type "list",data:=.seq its'.toArray n' }) (r:Vals ys its') (hz:ys.length<=sizeLine) (t:Nat) :
  Inv X pins σ (upd H p (.lst ys)) { s with heap:=s.heap.update p f,toks:=t }:=by
 have e:(s.heap.update p f).get? p=some { cls:=.type "list",data:=.seq its'.toArray n' }:=by
  rw[Heap.get?_update_self f ho (by rw[hf]<;>rfl),hf]
 refine I.write (x:=p) (e:=p) (by rw[h];trivial) (.inl rfl) (fun b u hb q=>(Heap.get?_update_other _ _ (Ne.symm hb)).trans q) ⟨_,e⟩ ?_;exact⟨hz,its',n',r,e⟩
def rSetL:V->V->V->Hp->(Hp->Prop)->Prop:=fun o i v H Q=>∃p xs k j,o=.ref p/\i=.int k/\H p=some (.lst xs)/\ixN xs.length k=some j/\Q (upd H p (.lst (xs.set j v)))
theorem jjJ:PSet X rSetL:=by
 intro pins s σ H o i v ov iv u Q I ro ri rv h;obtain⟨p,xs,k,j,rfl,rfl,hp,hj,q⟩:=h;cases ro;obtain⟨t,rfl⟩:=ri;obtain⟨its,n,r,ho,hz⟩:=I.lst hp;obtain⟨h1,h2,h3,h4⟩:=jie hj;have hl:=r.length;have hn:=jeZ;have I':Inv X pins σ (upd H p (.lst (xs.set j v))) { s with heap:=s.heap.update p (Obj.mapSeq (·.setIfInBounds j u)) } :=
  I.lstUpd hp ho (jhC its n j u) (r.set rv j) (by rw[List.length_set];exact hz) s.toks
 by_cases h0:0<=k
 ·have hk:k.toNat=j:=by
   rw[seqIndex_of h0 h4] at h1;exact Option.some.inj h1
  exact PySem.W.ki_setAt ho h0 (by omega) (by rw[xai,<- hl];exact h4) (by rw[hk];exact⟨_,I',q⟩)
 ·have hk:(k+(its.toArray.size:Int)).toNat=j:=by
   rw[seqIndex_neg (by omega) h3] at h1;rw[xai,<- hl];exact Option.some.inj h1
  exact PySem.W.ki_setBack ho (by omega) (by rw[xai,<- hl];exact h3) (by omega) (by rw[hk];exact⟨_,I',q⟩)
theorem jfS (lo hi:Option Int) (n:Nat):(sliceBounds lo hi none n).1=((HT.sIx n 0 lo:Nat):Int)/\(sliceBounds lo hi none n).2.1=((HT.sIx n n hi:Nat):Int)/\(sliceBounds lo hi none n).2.2=1:=by
  refine⟨?_,?_,rfl⟩
  . cases lo with
    | none=>simp [sliceBounds,HT.sIx]
    | some i =>
      simp only[sliceBounds,HT.sIx,Option.getD_none,show (1:Int)>0 by decide,if_true];by_cases h:i<0
      . simp only[h,if_true]<;>omega
      . simp only[h,if_false]<;>omega
  . cases hi with
    | none=>simp [sliceBounds,HT.sIx]
    | some i =>
      simp only[sliceBounds,HT.sIx,Option.getD_none,show (1:Int)>0 by decide,if_true];by_cases h:i<0
      . simp only[h,if_true]<;>omega
      . simp only[h,if_false]<;>omega
theorem jfg (its:List Value) (lo hi:Option Int):slicePick its.toArray lo hi none=((its.drop (HT.sIx its.length 0 lo)).take (HT.sIx its.length its.length hi-HT.sIx its.length 0 lo)).toArray:=by
 obtain⟨h1,h2,h3⟩:=jfS lo hi its.toArray.size;unfold slicePick;rw[h1,h2,h3];simp only[sliceRange_one,pick_run,xai]<;>rfl
def rSlL (K:PySem.W.Frag):V->Option Int->Option Int->Hp->VK->Prop:=fun x lo hi H Q=>∃a xs,x=.ref a/\SqL K H a xs/\∀p,H p=none->Q (.ref p) (upd H p (.lst (jeR xs lo hi)))
theorem jbz:SlR X (rSlL X.K):=by
 intro pins s σ H x v vl vu lo hi sl Q I rx hs pl pu h;obtain⟨a,xs,rfl,hx,q⟩:=h;cases rx;obtain⟨its,r,ht,hz⟩:=I.list hx;have hlen:=r.length;refine⟨"list",_,slot_list_getitem.lookup,ht.isList.typeIs,?_⟩;refine wpAny_getItem_list_slice ht.isList hs pl pu .none (by simp) ?_ (by rw[xai]<;>omega);rw[jfg,<- hlen];refine⟨.ref s.heap.objs.size,_,I.laid (t':=s.toks) (o:=.lst (jeR xs lo hi)) (fun b ob q=>Heap.get?_push_of_some _ q) (xae _) ?_,rfl,q _ (I.hok.fresh (xae _))⟩;exact⟨xan (jep xs lo hi) hz,_,0,(r.drop (HT.sIx xs.length 0 lo)).take (HT.sIx xs.length xs.length hi-HT.sIx xs.length 0 lo),Heap.get?_push_size _ rfl⟩
def jeS:V->Bool
 | .non=>true
 | .bl _=>true
 | .int _=>true
 | .str _=>true
 | _=>false
def eqV:V->V->Bool
 | .non,.non=>true
 | .bl a,.bl b=>a==b
 | .bl a,.int b=>(if a then 1 else 0)==b
 | .int a,.bl b=>a==(if b then 1 else 0)
 | .int a,.int b=>a==b
 | .str a,.str b=>a==b
 | _,_=>false
theorem jm3 {A:Around} {s:Shared} {y x:V} {u v:Value} (ry:RelV y u) (rx:RelV x v) (fy:jeS y=true) (fx:jeS x=true):SeqAt.EqAt A s u v (eqV y x):=by
  cases y with
  | non =>
    cases ry;cases x with
    | non=>cases rx;exact SeqAt.EqAt.same _
    | bl b=>cases rx;exact SeqAt.EqAt.none_bool b
    | int b=>obtain⟨t,rfl⟩:=rx;exact SeqAt.EqAt.none_int b t
    | str b=>obtain⟨t,rfl⟩:=rx;exact SeqAt.EqAt.none_str b t
    | _=>exact absurd (show false=true from fx) xar
  | bl a =>
    cases ry;cases x with
    | non=>cases rx;exact SeqAt.EqAt.bool_none a
    | bl b=>cases rx;exact SeqAt.EqAt.bool_bool a b
    | int b=>obtain⟨t,rfl⟩:=rx;exact SeqAt.EqAt.bool_int a b t
    | str b=>obtain⟨t,rfl⟩:=rx;exact SeqAt.EqAt.bool_str a b t
    | _=>exact absurd (show false=true from fx) xar
  | int a =>
    obtain⟨t',rfl⟩:=ry;cases x with
    | non=>cases rx;exact SeqAt.EqAt.int_none a t'
    | bl b=>cases rx;exact SeqAt.EqAt.int_bool a t' b
    | int b=>obtain⟨t,rfl⟩:=rx;exact SeqAt.EqAt.int_int a t' b t
    | str b=>obtain⟨t,rfl⟩:=rx;exact SeqAt.EqAt.int_str a t' b t
    | _=>exact absurd (show false=true from fx) xar
  | str a =>
    obtain⟨t',rfl⟩:=ry;cases x with
    | non=>cases rx;exact SeqAt.EqAt.str_none a t'
    | bl b=>cases rx;exact SeqAt.EqAt.str_bool a t' b
    | int b=>obtain⟨t,rfl⟩:=rx;exact SeqAt.EqAt.str_int a t' b t
    | str b=>obtain⟨t,rfl⟩:=rx;exact SeqAt.EqAt.str_str a t' b t
    | _=>exact absurd (show false=true from fx) xar
  | _=>exact absurd (show false=true from fy) xar
def eqU (x:V) (u:Value):Bool:=match u with
 | .none=>eqV .non x
 | .bool b=>eqV (.bl b) x
 | .int i _=>eqV (.int i) x
 | .str z _=>eqV (.str z) x
 | _=>false
theorem jkG {x y:V} {u:Value} (r:RelV y u) (f:jeS y=true):eqU x u=eqV y x:=by
 cases y with
 | non=>cases r;rfl
 | bl b=>cases r;rfl
 | int i=>obtain⟨t,rfl⟩:=r;rfl
 | str z=>obtain⟨t,rfl⟩:=r;rfl
 | _=>exact absurd (show false=true from f) xar
theorem jeq {x:V}:∀{xs:List V} {us:List Value},Vals xs us->xs.all jeS=true->us.any (eqU x)=xs.any fun y=>eqV y x
  | _,_,.nil,_=>rfl
  | y :: xs, u :: us, .cons r t, f => by
    rw[List.all_cons,xaJ] at f;rw[List.any_cons,List.any_cons,jkG r f.1,jeq t f.2]
theorem jdm {A:Around} {s:Shared} {x:V} {v:Value} (rx:RelV x v) (fx:jeS x=true):∀{xs:List V} {us:List Value},Vals xs us->xs.all jeS=true->∀u∈us,SeqAt.EqAt A s u v (eqU x u)
  | _,_,.nil,_=>fun u hu=>by cases hu
  | y :: xs, u :: us, .cons r t, f => fun u' hu => by
    rw[List.all_cons,xaJ] at f;rcases xac.mp hu with rfl | hu
    . rw[jkG r f.1];exact jm3 r rx f.1 fx
    . exact jdm rx fx t f.2 u' hu
def inV (x:V) (xs:List V):Bool:=xs.any fun y=>eqV y x
def rIn (K:PySem.W.Frag) (neg:Bool):R2:=fun x y H Q=>∃p xs,y=.ref p/\(SqL K H p xs\/SqT K H p xs)/\jeS x=true/\xs.all jeS=true/\Q (.bl (if neg then !inV x xs else inV x xs)) H
theorem jih:OpR X (compareOp .In) (rIn X.K false):=by
 intro pins s σ H x y v u Q I rx ry h;obtain⟨p,xs,rfl,hq,fx,fs,q⟩:=h;cases ry;rcases hq with hq | hq
 ·obtain⟨its,r,pl,hz⟩:=I.list hq;refine SeqAt.in_listAt (eqU x) pl.isList (fun w hw=>jdm rx fx r fs w (by simpa using hw)) ⟨.bl _,H,I,rfl,?_⟩;rw[show its.toArray.any (eqU x)=its.any (eqU x) by simp,jeq r fs];exact q
 ·obtain⟨its,r,pl,hz⟩:=I.tuple hq;refine SeqAt.in_tupleAt (eqU x) pl (fun w hw=>jdm rx fx r fs w (by simpa using hw)) ⟨.bl _,H,I,rfl,?_⟩;rw[show its.toArray.any (eqU x)=its.any (eqU x) by simp,jeq r fs];exact q
theorem jfT:OpR X (compareOp .NotIn) (rIn X.K true):=by
 intro pins s σ H x y v u Q I rx ry h;obtain⟨p,xs,rfl,hq,fx,fs,q⟩:=h;cases ry;rcases hq with hq | hq
 ·obtain⟨its,r,pl,hz⟩:=I.list hq;refine SeqAt.notIn_listAt (eqU x) pl.isList (fun w hw=>jdm rx fx r fs w (by simpa using hw)) ⟨.bl _,H,I,rfl,?_⟩;rw[show its.toArray.any (eqU x)=its.any (eqU x) by simp,jeq r fs];exact q
 ·obtain⟨its,r,pl,hz⟩:=I.tuple hq;refine SeqAt.notIn_tupleAt (eqU x) pl (fun w hw=>jdm rx fx r fs w (by simpa using hw)) ⟨.bl _,H,I,rfl,?_⟩;rw[show its.toArray.any (eqU x)=its.any (eqU x) by simp,jeq r fs];exact q
theorem jaB:CallR X (.builtin "len") (fun xs H Q=>∃p ys,xs=[.ref p]/\(SqL X.K H p ys\/SqT X.K H p ys)/\Q (.int ys.length) H):=by
 intro pins s σ H xs us Q I r h;obtain⟨p,ys,rfl,hq,q⟩:=h;obtain⟨u,rfl,rx⟩:=jcO r;cases rx;have hn:=jeZ;rcases hq with hq | hq
 ·obtain⟨its,r',pl,hz⟩:=I.list hq;have hlen:=r'.length;exact Calls.call_len_list pl.isList (by simp only[xai]<;>omega) ⟨.int ys.length,H,I.tok _,⟨s.toks+1,by rw[xai,hlen]⟩,q⟩
 ·obtain⟨its,r',pl,hz⟩:=I.tuple hq;have hlen:=r'.length;exact len_tuple pl (by simp only[xai]<;>omega) ⟨.int ys.length,H,I.tok _,⟨s.toks+1,by rw[xai,hlen]⟩,q⟩
theorem CallR.or {f:Value} {r r':List V->Hp->VK->Prop} (h:CallR X f r) (h':CallR X f r'):CallR X f (fun xs H Q=>r xs H Q\/r' xs H Q):=by
 intro pins s σ H xs us Q I rs q;rcases q with q | q
 ·exact h pins s σ H xs us Q I rs q
 ·exact h' pins s σ H xs us Q I rs q
theorem jco:CallR X (.type "list") (fun xs H Q=>∃p ys,xs=[.ref p]/\(SqL X.K H p ys\/SqT X.K H p ys)/\∀l,H l=none->Q (.ref l) (upd H l (.lst ys))):=by
 intro pins s σ H xs us Q I r h;obtain⟨p,ys,rfl,hq,q⟩:=h;obtain⟨u,rfl,rx⟩:=jcO r;cases rx;have fin:∀(its:List Value),Vals ys its->ys.length<=sizeLine->∀(h':Heap) (c':Nat),(∀b o',s.heap.get? b=some o'->h'.get? b=some o') ->
   h'.get? s.heap.objs.size=some { cls:=.type "list",dict:=none,data:=.seq its.toArray c',slots:=#[] }->EP X pins σ Q (.ref s.heap.objs.size) { s with heap:=h' }:=fun its r' hz h' c' kp e =>
  ⟨.ref s.heap.objs.size,_,I.laid (t':=s.toks) kp (xae _) (show ObjOk X.prog X.w _ h' _ (.lst ys) from ⟨hz,its,c',r',e⟩),rfl,q _ (I.hok.fresh (xae _))⟩
 rcases hq with hq | hq
 ·obtain⟨its,r',pl,hz⟩:=I.list hq;have hlen:=r'.length;obtain⟨o,ho,hc,n,hd⟩:=pl.isList;exact call_list_seq p (.inl rfl) ho hc hd (fun h' c' kp e=>fin its r' hz h' c' kp e) (by simp only[xai]<;>omega)
 ·obtain⟨its,r',pl,hz⟩:=I.tuple hq;have hlen:=r'.length;obtain⟨o,ho,hc,n,hd⟩:=pl;exact call_list_seq p (.inr rfl) ho hc hd (fun h' c' kp e=>fin its r' hz h' c' kp e) (by simp only[xai]<;>omega)
theorem ja9:CallR X (.type "tuple") (fun xs H Q=>∃p ys,xs=[.ref p]/\((SqL X.K H p ys/\∀l,H l=none->Q (.ref l) (upd H l (.tup ys)))\/(SqT X.K H p ys/\Q (.ref p) H))):=by
 intro pins s σ H xs us Q I r h;obtain⟨p,ys,rfl,h⟩:=h;obtain⟨u,rfl,rx⟩:=jcO r;cases rx;rcases h with ⟨hq,q⟩ | ⟨hq,q⟩
 ·obtain⟨its,r',pl,hz⟩:=I.list hq;have hlen:=r'.length;refine call_tuple_list pl.isList (fun h' kp=>?_) (by simp only[xai]<;>omega);have I1:Inv X pins σ H { s with heap:=h' }:=I.kept (t':=s.toks) kp;have I2:Inv X pins σ (upd H h'.objs.size (.tup ys)) { s with heap:=h'.push { cls:=.type "tuple",data:=.seq its.toArray } } :=
   I1.laid (t':=s.toks) (fun b o e=>Heap.get?_push_of_some _ e) (xae _) (show ObjOk X.prog X.w _ _ _ (.tup ys) from ⟨hz,its,r',IsTup.new _ _⟩)
  exact⟨.ref h'.objs.size,_,I2,rfl,q _ (I1.hok.fresh (xae _))⟩
 ·obtain⟨its,r',pl,hz⟩:=I.tuple hq;exact call_tuple_same pl ⟨.ref p,H,I,rfl,q⟩
def tyV (K:PySem.W.Frag) (T:String) (x:V) (H:Hp):Prop:=match x with
 | .str _=>T="str"
 | .int _=>T="int"
 | .ref p=>(T="list" /\ ∃xs,SqL K H p xs) \/ (T="tuple" /\ ∃o,K.lookup p=some o /\ o.cls=.type "tuple" /\ o.dict=none) \/
   (T="dict"/\((∃kvs,H p=some (.dK kvs))\/∃kvs,H p=some (.dT kvs)))\/(T="set"/\∃S n,H p=some (.set S n))
 | _=>False
theorem jkH {pins:List (Addr × Obj)} {σ:St} {H:Hp} {s:Shared} {T:String} {x:V} {v:Value} (I:Inv X pins σ H s) (r:RelV x v) (ty:tyV X.K T x H) :
    s.TypeIs v T/\∀a,v=.ref a->∃ob,s.heap.get? a=some ob/\ob.dict=none:=by
  cases x with
  | str z =>
    obtain⟨t,rfl⟩:=r;cases (show T="str" from ty);exact⟨typeIs_str s z t,fun _ e=>nomatch e⟩
  | int i =>
    obtain⟨t,rfl⟩:=r;cases (show T="int" from ty);exact⟨typeIs_int s i t,fun _ e=>nomatch e⟩
  | ref p =>
    cases r;rcases ty with ⟨rfl,xs,hq⟩ | ⟨rfl,o,hk,hc,hd⟩ | ⟨rfl,hk⟩ | ⟨rfl,S,n,hk⟩
    . obtain⟨its,_,pl,_⟩:=I.list hq
      refine⟨pl.isList.typeIs,fun a e=>?_⟩;cases e;obtain⟨o,n,e,c,hd,_⟩:=pl;exact⟨o,e,hd⟩
    . refine⟨⟨o,I.kIn p o hk,hc⟩,fun a e=>?_⟩
      cases e;exact⟨o,I.kIn _ o hk,hd⟩
    . have z:∃o,s.heap.get? p=some o/\o.ExactDict:=by
        rcases hk with ⟨kvs,hk⟩ | ⟨kvs,hk⟩
        . obtain⟨_,_,_,_,o,_,_,e,ex,_⟩:=I.hok p _ hk
          exact⟨o,e,ex⟩
        . obtain⟨_,_,_,_,o,_,_,e,ex,_⟩:=I.hok p _ hk
          exact⟨o,e,ex⟩
      obtain⟨o,e,ex⟩:=z;refine⟨⟨o,e,ex.1⟩,fun a e2=>?_⟩;cases e2;exact⟨o,e,ex.2.1⟩
    . obtain⟨o,_,_,_,e,ex,_⟩:=I.hok p _ hk
      refine⟨⟨o,e,ex.1⟩,fun a e2=>?_⟩;cases e2;exact⟨o,e,ex.2.1⟩
  | _=>exact False.elim ty
def jm4 (K:PySem.W.Frag) (T:String) (r:V->List V->Hp->VK->Prop) (to:TE):TE:=fun σ H Q=>to σ H fun x H1=>tyV K T x H1/\r x [] H1 Q
def tBM (K:PySem.W.Frag) (T:String) (r:V->List V->Hp->VK->Prop) (to:TE) (t:TA):TE:=fun σ H Q=>to σ H fun x H1=>tyV K T x H1/\t σ H1 fun xs H2=>r x xs H2 Q
variable {o e:Expr} {es:List Expr} {to:TE} {t:TA} {name:Str} {apos cpos:Pos} {T id:String} {r:V->List V->Hp->VK->Prop}
theorem jkI (pa:PlainAttrs T) (slot:Slot T name id) (hty:typeOf (.builtin id)=pure (.type "method_descriptor")) (hm:MtR X id r) (ho:PE X o to)
  (hbase:attributeBase o name X.env (eval o X.env)=eval o X.env:=by rfl) (hline:(apos.endLine==cpos.line)=true:=by rfl):PE X (.Call (.Attribute o name apos) [] [] cpos) (jm4 X.K T r to):=by
 intro pins s σ H Q I h;refine wpAny_Call_method0_late hbase hline (thn (ho pins s σ H _ I h) fun v s1 ⟨x,H1,I1,r1,ty,q1⟩=>?_);obtain⟨h1,h2⟩:=jkH I1 r1 ty;exact⟨T,id,pa,slot,hty,h1,h2,Calls.callWith_builtin rfl (PySem.evalArgs_none (hm pins s1 σ H1 x [] v [] Q I1 r1 .nil q1))⟩
theorem jb2 (pa:PlainAttrs T) (slot:Slot T name id) (hty:typeOf (.builtin id)=pure (.type "method_descriptor")) (hm:MtR X id r) (ho:PE X o to) (ha:PA X (e::es) t)
  (hbase:attributeBase o name X.env (eval o X.env)=eval o X.env:=by rfl)
  (hfew:((backTo cpos (starEach (e::es) X.env)).all (fun x=>!x.1)&&(backToKw cpos (keywordEach [] X.env)).all (fun x=>x.1.isSome)
   && decide ((e::es).length+([]:List Keyword).length+(if ([]:List Keyword).isEmpty then 0 else 1)<30))=true:=by rfl)
  (hline:(apos.endLine==cpos.line)=true:=by rfl) (hs:starEach (e::es) X.env=(false,eval e X.env)::starEach es X.env:=by rfl) (hplain:(backTo cpos (starEach es X.env)).any (·.1)=false:=by rfl) :
  PE X (.Call (.Attribute o name apos) (e::es) [] cpos) (tBM X.K T r to t):=by
 intro pins s σ H Q I h;refine wpAny_Call_method_late hbase hfew hline rfl (thn (ho pins s σ H _ I h) fun v s1 ⟨x,H1,I1,r1,ty,q1⟩=>?_);obtain⟨h1,h2⟩:=jkH I1 r1 ty;refine⟨T,id,pa,slot,hty,h1,h2,?_⟩;have hA:=ha cpos pins s1 σ H1 _ I1 q1;rw[hs] at hA |-
 refine Calls.callWith_builtin (by show (false||(backTo cpos (starEach es X.env)).any (·.1))=false;rw[hplain]<;>rfl) (Calls.evalArgs_plain ?_);exact thn hA fun us s2 ⟨vs,H2,I2,r2,q2⟩=>hm pins s2 σ H2 x vs v us Q I2 r1 r2 q2
end
def MtM (X:Cx) (id:String) (r:V->List V->Hp->VK->Prop):Prop :=
  ∀ (pins : List (Addr × Obj)) (s : Shared) (σ : St) (H : Hp) (x : V) (xs : List V) (v : Value) (us : List Value) (Q : VK), Inv X pins σ H s -> RelV x v -> Vals xs us -> r x xs H Q ->
    wpAny (model X.prog X.w) X.A (call (.builtin id) (v::us)) (EP X pins σ Q) X.xe s
theorem Vals.one:∀{x:V} {us:List Value},Vals [x] us->∃u,us=[u]/\RelV x u
 | _,_,.cons r .nil=>⟨_,rfl,r⟩
theorem Vals.zero:∀{us:List Value},Vals [] us->us=[]
 | _,.nil=>rfl
theorem Vals.dropLast {xs:List V} {us:List Value} (h:Vals xs us):Vals xs.dropLast us.dropLast:=by
  induction h with
  | nil=>exact .nil
  | cons r t ih =>
    cases t with
    | nil=>exact .nil
    | cons q t'=>exact .cons r ih
theorem Vals.eraseIdx:∀{xs:List V} {us:List Value} (i:Nat),Vals xs us->Vals (xs.eraseIdx i) (us.eraseIdx i)
 | _,_,_,.nil=>.nil
 | _,_,0,.cons _ t=>t
 | _,_,i+1,.cons r t=>.cons r (Vals.eraseIdx i t)
theorem Vals.reverse {xs:List V} {us:List Value} (h:Vals xs us):Vals xs.reverse us.reverse:=by
 induction h with
 | nil=>exact .nil
 | cons r t ih=>rw[xba,xba];exact Vals.append ih (.cons r .nil)
theorem jhD {α:Type} (l:List α):l.eraseIdx (l.length-1)=l.dropLast:=by
  induction l with
  | nil=>rfl
  | cons a r ih =>
    cases r with
    | nil=>rfl
    | cons b r =>
      have e:(a::b::r).length-1=((b::r).length-1)+1:=by
        have h1:(a::b::r).length=r.length+2:=rfl;have h2:(b::r).length=r.length+1:=rfl;omega
      rw[e,List.eraseIdx_cons_succ,ih]
      all_goals rfl
section
variable {X:Cx} {pins:List (Addr × Obj)} {σ:St} {H:Hp} {s:Shared} {l b:Addr} {xs ys zs:List V}
theorem Inv.lset {its its':List Value} {n:Nat} {f:Array Value->Array Value} {t':Nat} (I:Inv X pins σ H s) (hH:H l=some (.lst xs))
  (e:s.heap.get? l=some { cls:=.type "list",data:=.seq its.toArray n }) (hf:f its.toArray=its'.toArray) (hv:Vals ys its') (hz:ys.length<=sizeLine) :
  Inv X pins σ (upd H l (.lst ys)) { s with heap:=s.heap.update l (Obj.mapSeq f),toks:=t' }:=by
 have q:=PySem.IsL.update e f;rw[hf] at q;refine I.write (x:=l) (e:=l) (by rw[hH];exact trivial) (.inl rfl) (fun b' u hb hu=>(Heap.get?_update_other s.heap (Obj.mapSeq f) (Ne.symm hb)).trans hu) ⟨_,q⟩ ?_;exact⟨hz,its',_,hv,q⟩
theorem Inv.lnew {its:List Value} {t':Nat} (I:Inv X pins σ H s) (hv:Vals ys its) (hz:ys.length<=sizeLine) :
  Inv X pins σ (upd H s.heap.objs.size (.lst ys)) { s with heap:=s.heap.push { cls:=.type "list",data:=.seq its.toArray },toks:=t' } :=
 I.laid (fun _ _ q=>Heap.get?_push_of_some _ q) (xae _) ⟨hz,its,0,hv,Heap.get?_push_size _ rfl⟩
theorem Inv.fresh (I:Inv X pins σ H s):H s.heap.objs.size=none:=I.hok.fresh (xae _)
theorem Inv.lstM (I:Inv X pins σ H s) (hH:H l=some (.lst xs)):xs.length<=sizeLine/\∃(its:List Value) (n:Nat),Vals xs its/\xs.length=its.length/\s.heap.get? l=some { cls:=.type "list",data:=.seq its.toArray n }:=by
 obtain⟨z,its,n,r,e⟩:=I.hok l _ hH;exact⟨z,its,n,r,r.length,e⟩
end
section
variable {X:Cx}
def jii:V->List V->Hp->VK->Prop:=fun x vs H Q=>∃l xs y,x=.ref l/\vs=[y]/\H l=some (.lst xs)/\xs.length<sizeLine/\Q .non (upd H l (.lst (xs++[y])))
theorem jbk:MtM X "list.append" jii:=by
 intro pins s σ H x vs v us Q I rx rv h;obtain⟨l,xs,y,rfl,rfl,hH,hz,q⟩:=h;cases rx;obtain⟨u,rfl,ru⟩:=rv.one;obtain⟨z,its,n,r,hl,e⟩:=I.lstM hH;refine call_meets F.slot_list_append ⟨_,e,rfl⟩ F.entry_list_append (F.args_list_append_2 _ _) (PySem.list_append l its.toArray n u (by rw[xai];omega)) ⟨e,?_⟩;refine⟨.non,_,I.lset (its':=its++[u]) hH e (by simp) (r.append (.cons ru .nil)) ?_,rfl,q⟩;rw[xaf,List.length_singleton];omega
def rPop:V->List V->Hp->VK->Prop:=fun x vs H Q=>∃l xs y,x=.ref l/\vs=[]/\H l=some (.lst xs)/\xs[xs.length-1]?=some y/\Q y (upd H l (.lst xs.dropLast))
theorem jm5:MtM X "list.pop" rPop:=by
 intro pins s σ H x vs v us Q I rx rv h;obtain⟨l,xs,y,rfl,rfl,hH,hy,q⟩:=h;cases rx;have hus:=rv.zero;subst hus;obtain⟨z,its,n,r,hl,e⟩:=I.lstM hH;obtain⟨u,hu,ru⟩:=r.get hy;have hy':its.toArray[its.toArray.size-1]?=some u:=by
  show its.toArray[its.length-1]?=some u;rw[<- Array.getElem?_toList,<- hl];exact hu
 refine call_meets F.slot_list_pop ⟨_,e,rfl⟩ F.entry_list_pop (F.args_list_pop_1 _) (MeetsSeq.list_pop_last l its.toArray n u hy' (by rw[xai];omega)) ⟨e,?_⟩;refine⟨y,_,I.lset (its':=its.dropLast) hH e ?_ r.dropLast ?_,ru,q⟩
 ·show its.toArray.eraseIdxIfInBounds (its.toArray.size-1)=its.dropLast.toArray;rw[xai,List.eraseIdxIfInBounds_toArray,jhD]
 ·rw[List.length_dropLast];omega
def rCat:R2:=fun x y H Q=>∃l b xs zs,x=.ref l/\y=.ref b/\H l=some (.lst xs)/\H b=some (.lst zs)/\xs.length+zs.length<=sizeLine/\∀p,H p=none->Q (.ref p) (upd H p (.lst (xs++zs)))
theorem jcS:OpR X (binaryOp .Add) rCat:=by
 intro pins s σ H x y v u Q I rx ry h;obtain⟨l,b,xs,zs,rfl,rfl,hH,hB,hz,q⟩:=h;cases rx;cases ry;obtain⟨z,its,n,r,hl,e⟩:=I.lstM hH;obtain⟨z2,its2,n2,r2,hl2,e2⟩:=I.lstM hB;refine PySem.P.add_list e e2 ?_ (by rw[xai,xai];omega);have ea:its.toArray++its2.toArray=(its++its2).toArray:=by simp
 rw[ea];exact⟨.ref _,_,I.lnew (t':=s.toks) (r.append r2) (by rw[xaf];omega),rfl,q _ I.fresh⟩
end
end L2
namespace Att
open PySem PySem.W PySem.Calls PyProof.Rows
theorem jer {P:Params} {h:Heap}:∀(ns:List Int) (vs:List Value),WellAll P h vs (ns.map WData.int)->IntsAre vs ns:=by
  intro ns;induction ns with
  | nil =>
    intro vs w;rw[List.map_nil] at w;cases w;exact .nil
  | cons n ns ih =>
    intro vs w;rw[xaT] at w;cases w with
    | cons a b =>
      cases a;exact .cons _ _ (ih _ b)
theorem jij {l:OpenLaw} {n:Nat} (hn:l.most=some n) {P:Params} {h:Heap} {args:List WData} {vals:List Value}
    (hpre:l.row.toRowW.claim.pre args=true) (hwl:WellAll P h vals args) :
    ∃a vs ns,vals=[Value.ref a]/\args=[WData.list (ns.map WData.int)]/\h.get? a=some { cls:=.type "list",data:=.seq vs.toArray }/\IntsAre vs ns/\ns.length<=n:=by
  have hsh:WShape.hasAll [] args [.list .int]=true:=(pre_splitW hpre).1;have hc:l.pre.holds [] { args:=args }=true:=(pre_splitW hpre).2;obtain⟨d,r,rfl,h1,h2⟩:=hasAllW_cons hsh;obtain rfl:=hasAllW_nil h2;obtain⟨xs,rfl,h3⟩:=hasW_list h1;obtain⟨ns,rfl⟩:=items_int h3;have hlen:ns.length<=n:=by
    unfold OpenLaw.pre at hc;have h4:(WTm.not (.lt (.lit (.int (n:Int))) (.len (.arg 0)))).holds [] { args:=[.list (ns.map .int)] }=true:=by
      have h4:=(holds_andW hc).1;rw[hn] at h4;exact h4
    have h5:=condW_of h4 (w_not (w_lt w_lit (w_len_list (w_arg rfl))));rw[xaa] at h5;refine Nat.le_of_not_lt fun q=>?_;have q':(n:Int)<((ns.length:Nat):Int):=by omega
    first
      | (rw[decide_eq_true q'] at h5;exact absurd h5 (by decide))
      | (simp at h5;omega)
  cases hwl with
  | cons w1 w2 =>
    cases w2;cases w1 with
    | list ho hall=>exact⟨_,_,ns,rfl,rfl,ho,jer ns _ hall,hlen⟩
theorem jik (l:OpenLaw) (args:List WData):l.row.toRowW.claim.post args (.bool true) args=true :=
 postW_of (r:=l.row.toRowW) (X:=(true==true))
  (show WShape.has [] (.bool true) .bool=true by first | rfl | decide | simp [WShape.has,WShape.arms,WShape.armsAll])
  (show (WTm.eq .res (.lit (.bool true))).value [] { args:=args,res:=some (.bool true),after:=args }=some (.bool (true==true)) from w_eq_bool (w_res rfl) w_lit) rfl
theorem attach_call {l:OpenLaw} {n:Nat} {q:Program} {loose:List Str} {XP:(Str->Option Value)->Heap->Prop} {YP:World->Heap->Prop} {d:DefRec}
  (hn:l.most=some n) (hdf:d.params.defaults=[])
  (call:∀(w:World) (s₀ s₁:Shared) (mg mb:Str->Option Value) (fa:Addr) (o:Obj) (pm cd doc:Value) (a:Addr) (vs:List Value) (ns:List Int),
   Ground q loose [] XP w s₀ mg mb s₁.heap->YP w s₁.heap ->
   s₁.heap.get? fa=some o->o.data=.func (docDef d.name d.params d.body d.scope pm cd doc)->s₁.heap.CodeRec cd d.name->mg d.name=some (.ref fa) ->
   s₁.heap.get? a=some { cls:=.type "list",data:=.seq vs.toArray }->IntsAre vs ns->ns.length<=n->s₁.gens=#[] ->
   codeAny (model l.prog w) callerA (.call (.ref fa) ⟨[.ref a],[]⟩) (fun r s'=>r=.ok (.ret (.bool true))/\OldK s₁.heap s'.heap/\s'.os=s₁.os/\AllBare s'.gens) s₁) :
  WalkO q loose XP YP l.row.toRowW d [] (fun f vs=>PySem.call f vs):=by
 intro w s₀ s₁ mg mb G Y fa o pm cd doc dV kV ho hd hcd hD hmg hg args vals as hpre hlay hrd hwl hlo;obtain rfl:dV=.none:=Dflts.none hD hdf;obtain rfl:kV=.none:=Dflts.noKw hD;obtain⟨a,vs,ns,rfl,rfl,hobj,hints,hlen⟩:=jij hn hpre hwl;refine enter_call (codeAny_mono (call w s₀ s₁ mg mb fa o pm cd doc a vs ns G Y ho (fd_plain hd) hcd hmg hobj hints hlen hg) fun r s' hq=>?_);obtain⟨rfl,h2,h3,h4⟩:=hq;exact⟨.inl ⟨.bool true,.bool true,[],rfl,fun _=>rfl,.bool true,jik l _,fun _=>⟨List.Pairwise.nil,fun _ hm=>(nomatch hm)⟩⟩,h2,h3,h4⟩
end Att
namespace L2
open PySem PySem.Spec PyProof.Rows
theorem jfU:∀{vs:List Value} {ns:List Int},IntsAre vs ns->Vals (ns.map V.int) vs
 | _,_,.nil=>.nil
 | _,_,.cons n t h=>.cons ⟨t,rfl⟩ (jfU h)
def Only (H:Hp):Prop:=∀b,H b=none\/∃o xs,H b=some (.frz o (.lst xs))
theorem jjK {P:Program} {w:World} {K:PySem.W.Frag} {mg mb:Str->Option Value} {CX:CXT} {k:Nat} {fa a:Addr} {fd:FuncData} {x:Str} {sp:Sp} {s₁:Shared} {vs:List Value} {ns:List Int}
    (KX:K.In s₁.heap) (hns:s₁.heap.Ns mainGlobals mg) (hb:s₁.heap.Ns builtinsNs mb) (hbb:∀x:Str,x≠"__name__"->mb x=bootBuiltins x) (hlim:s₁.heap.NoLimit) (hg:s₁.gens=#[])
    (ha:s₁.heap.get? a=some { cls:=.type "list",data:=.seq vs.toArray }) (hi:IntsAre vs ns) (hl:ns.length<=sizeLine) (hr:Room k callerA)
    (F:∀base:Heap,K.In base->base.Ns mainGlobals mg->FnOk P w K mg base CX k fa fd [x] sp) (hbind:∀(s:Shared) (u:Value),BindsTo s fd ⟨[u],[]⟩ [(x,u)])
    (hsp:∀H:Hp,Only H->SqL K H a (ns.map V.int)->sp [.ref a] H (fun v _=>v=.bl true) fun _ _ _=>False)
    (hCX:∀H e s',CX [] H s₁ (fun _ _ _=>False) e s'->False) :
    codeAny (model P w) callerA (.call (.ref fa) ⟨[.ref a],[]⟩) (fun r s'=>r=.ok (.ret (.bool true))/\OldK s₁.heap s'.heap/\s'.os=s₁.os/\AllBare s'.gens) s₁:=by
  have rv:=jfU hi;have lenV:=hi.length;have core:∀H:Hp,Only H->SqL K H a (ns.map V.int)->HOk P w H s₁.heap->(∀b,H b≠none->b=a)->(H a≠none->K.lookup a=none) ->
      codeAny (model P w) callerA (.call (.ref fa) ⟨[.ref a],[]⟩) (fun r s'=>r=.ok (.ret (.bool true))/\OldK s₁.heap s'.heap/\s'.os=s₁.os/\AllBare s'.gens) s₁:=by
    intro H hO hS hok hA hK;have base_of:∀{b:Addr} {o:Obj},s₁.heap.get? b=some o->H b=none->(jjr s₁.heap H).get? b=some o:=fun e n=>jjs e n;have noA:∀{b:Addr} {o:Obj} {es:Array DictEntry} {ep:Nat},s₁.heap.get? b=some o->o.data=.dict es ep->H b=none:=fun {b o es ep} e d=>by
      cases q:H b with
      | none=>rfl
      | some u =>
        have e':b=a:=hA b (by rw[q];simp);subst e';rw[ha] at e;cases e;have d':Data.seq vs.toArray _=Data.dict es ep:=d;cases d'
    have nsK:∀{b:Addr} {m:Str->Option Value},s₁.heap.Ns b m->(jjr s₁.heap H).Ns b m:=fun {b m} ⟨o,es,ep,e,d,r⟩=>⟨o,es,ep,base_of e (noA e d),d,r⟩;have hKb:K.In (jjr s₁.heap H):=fun b o e=>base_of (KX b o e) (by
      cases q:H b with
      | none=>rfl
      | some u =>
        have e':b=a:=hA b (by rw[q];simp);subst e';rw[hK (by rw[q];simp)] at e;cases e)
    have hM:Mod K mg (jjr s₁.heap H):=⟨hKb,nsK hns,⟨mb,nsK hb,hbb⟩,let ⟨mc,h1,h2⟩:=hlim;⟨mc,nsK h1,h2⟩⟩;have e0:Env0 P w K mg (jjr s₁.heap H) callerA [] s₁ H:=⟨rfl,hM,fun b o e=>jln e,Nat.le_of_eq (jhR _ _),trivial,fun b hb=>absurd (show b∈([]:List Addr) from hb) (by simp),hok,.of_eq hg⟩;refine codeAny_mono ((F _ hKb (nsK hns)).run callerA [] s₁ H ⟨[.ref a],[]⟩ [.ref a] [.ref a] _ _ hr e0 (hbind s₁ (.ref a)) (.cons rfl .nil) (hsp H hO hS)) fun r s' h=>?_;cases r with
    | error e=>exact (hCX H e s' h).elim
    | ok fl =>
      cases fl with
      | next=>exact False.elim h
      | brk=>exact False.elim h
      | cont=>exact False.elim h
      | ret u =>
        obtain⟨v,H',os,bare,un,hok',r',q⟩:=h;have q':v=.bl true:=q;subst q';obtain rfl:u=Value.bool true:=r';refine⟨rfl,OldK.of_keep fun b o e=>?_,os,bare⟩;cases q:H b with
        | none=>exact un.keep b o e q (by intro z;exact absurd (show b∈([]:List Addr) from z) (by simp)) (by simp)
        | some u =>
          rcases hO b with z | ⟨ob,xs,z⟩
          . rw[q] at z;cases z
          . have z2:=un.frzs b ob _ z
            obtain⟨e1,_⟩:=hok b _ z;obtain⟨e2,_⟩:=hok' b _ z2;rw[e] at e1;cases e1;exact e2
  cases hk:K.lookup a with
  | some o =>
    have e:=KX a o hk;rw[ha] at e;cases e;refine core (fun _=>none) (fun _=>.inl rfl) (.inr ⟨_,vs.toArray,_,hk,rfl,rfl,rfl,by rw[xai,lenV];exact hl,by simpa using rv⟩) (fun b u z=>by have z':(none:Option HO)=some u:=z;cases z') (fun b z=>absurd rfl z) fun z=>absurd rfl z
  | none =>
    refine core (fun b=>if b=a then some (.frz { cls:=.type "list",data:=.seq vs.toArray } (.lst (ns.map V.int))) else none) (fun b=>?_) (.inl (.inr ⟨{ cls:=.type "list",data:=.seq vs.toArray },if_pos rfl⟩)) (fun b u z=>?_) (fun b z=>?_) fun _=>hk
    . by_cases hb:b=a
      . exact .inr ⟨_,_,if_pos hb⟩
      . exact .inl (if_neg hb)
    . by_cases hb:b=a
      . have z':=(if_pos hb).symm.trans z
        cases z';subst hb;exact⟨ha,by rw[xaa];exact hl,vs,_,rv,ha⟩
      . have z':=(if_neg hb).symm.trans z
        cases z'
    . by_cases hb:b=a
      . exact hb
      . exact absurd (if_neg hb) z
theorem jly {l:PySem.W.OpenLaw} {n k:Nat} {q:Program} {loose:List Str} {XP:(Str->Option Value)->Heap->Prop} {YP:World->Heap->Prop} {d:DefRec} {K:Params->PySem.W.Frag} {CX:World->CXT} {sp:World->Sp} {x:Str}
    (hn:l.most=some n) (hn2:n<=sizeLine) (hdf:d.params.defaults=[]) (hr:Room k callerA)
    (hY:∀(w:World) (h:Heap),YP w h->(K w.params).In h)
    (F:∀(w:World) (mg:Str->Option Value) (fa:Addr) (h:Heap),(K w.params).In h->h.Ns mainGlobals mg->mg d.name=some (.ref fa) ->
      ∃ fd : FuncData, (∀ (s : Shared) (u : Value), BindsTo s fd ⟨[u], []⟩ [(x, u)]) /\
        ∀base:Heap,(K w.params).In base->base.Ns mainGlobals mg->FnOk l.prog w (K w.params) mg base (CX w) k fa fd [x] (sp w))
    (hsp:∀(w:World) (H:Hp) (a:Addr) (ns:List Int),ns.length<=n->Only H->SqL (K w.params) H a (ns.map V.int)->sp w [.ref a] H (fun v _=>v=.bl true) fun _ _ _=>False)
    (hCX:∀(w:World) (H:Hp) (s:Shared) (e:Value) (s':Shared),CX w [] H s (fun _ _ _=>False) e s'->False) :
    PySem.W.WalkO q loose XP YP l.row.toRowW d [] (fun f vs=>PySem.call f vs):=by
  refine Att.attach_call hn hdf fun w s₀ s₁ mg mb fa o pm cd doc a vs ns G Y ho hd hcd hmg hobj hints hlen hg=>?_;have KX:=hY w _ Y;obtain⟨fd,hb,hF⟩:=F w mg fa _ KX G.T.g hmg;exact jjK KX G.T.g G.T.b G.T.builtins G.T.nolimit hg hobj hints (xan hlen hn2) hr hF hb (fun H hO hS=>hsp w H a ns hlen hO hS) fun H e s'=>hCX w H s₁ e s'
def jcp (s:Stmt) (j:Nat):Stmt:=match s with
 | .ClassDef _ _ _ body _ _ _ _ _ _ _=>body.getD j (.Pass ⟨0,0,0,0⟩)
 | _=>.Pass ⟨0,0,0,0⟩
def jbH (s:Stmt):Arguments:=match s with
 | .FunctionDef _ a _ _ _ _ _ _ _ _=>a
 | _=>{ posonlyargs:=[],args:=[],vararg:=none,kwonlyargs:=[],kw_defaults:=[],kwarg:=none,defaults:=[] }
def jaZ (s:Stmt):List Stmt:=match s with
 | .FunctionDef _ _ b _ _ _ _ _ _ _=>b
 | _=>[]
def jad (s:Stmt):Scope:=match s with
 | .FunctionDef _ _ _ _ _ _ sc _ _ _=>sc
 | _=>{ kind:=.function,names:=[],isGenerator:=false,isCoroutine:=false }
abbrev CX0:CXT:=fun _ _ _ _ _ _=>False
abbrev E0:XK:=fun _ _ _=>False
theorem jav {X:Cx}:jbS CX0 X E0:=fun _ _ _ _ _ _ _ h=>h.elim
theorem jil {n:Nat} (h:n<=1000):n<sizeLine:=xaU h (by decide)
section
variable {X:Cx}
theorem pv (i:Nat) {x:Str} {pos:Pos} (hN:X.N[i]?=some x:=by rfl) (hv:Vis X.env.scope x:=by first | exact Or.inl rfl | exact Or.inr (Or.inl rfl) | exact Or.inr (Or.inr rfl)) (hd:(x==("__debug__":Str))=false:=by decide)
  (hcd:(x==("__classdict__":Str))=false:=by decide):PE X (.Name x pos) (jjp i):=jmN hN hv hd hcd
end
theorem jcl {c A B:Prop} [Decidable c] (h1:c->A) (h2:¬c->B):if c then A else B:=by
 by_cases h:c
 ·rw[if_pos h];exact h1 h
 ·rw[if_neg h];exact h2 h
def Same (H H':Hp):Prop:=∀b o,H b=some o->H' b=some o
theorem Same.refl (H:Hp):Same H H:=fun _ _ h=>h
theorem Same.trans {H H1 H2:Hp} (a:Same H H1) (b:Same H1 H2):Same H H2:=fun c o h=>b c o (a c o h)
theorem Same.free {H H':Hp} (e:Same H H') {l:Addr} (h:H' l=Option.none):H l=Option.none:=by
  cases q:H l with
  | none=>rfl
  | some o =>
    rw[e l o q] at h;cases h
theorem Same.seq {K:PySem.W.Frag} {H H':Hp} {a:Addr} {xs:List V} (e:Same H H') (h:SqL K H a xs):SqL K H' a xs:=by
 rcases h with (h | ⟨o,h⟩) | h
 ·exact .inl (.inl (e _ _ h))
 ·exact .inl (.inr ⟨o,e _ _ h⟩)
 ·exact .inr h
section
variable {prog:Program} {w:World} {A:Around} {R:Result->Shared->Prop} {s:Shared}
theorem jfV {elt target iter:Expr} {ifs:List Expr} {scope:Scope} {pos:Pos} {it acc:Value} {env:Env} (I:Nat->Shared->Prop)
    (turn:∀n s,I n s->wpAny (model prog w) A (pyNext it) (fun r s₁=>match r with
      | none=>R (.ok .next) s₁
      | some v=>wpAny (model prog w) A (letOwnedTupleGo target it v) (fun _ s₁'=>wpAny (model prog w) A (assign target env v) (fun _ s₂ =>
          wpAny (model prog w) A (forIn ifs true fun c r=>if r=true then do let ok <- isTrue c env (eval c env);pure (ForInStep.yield ok) else pure (ForInStep.yield r)) (fun ok s₃ =>
            if ok=true then wpAny (model prog w) A (eval elt env) (fun x s₄ =>
              wpAny (model prog w) A (call (.builtin "list.append") [acc,x]) (fun _ s₅=>∃m,m<n/\I m s₅) (notedBy (model prog w) A env fun e s'=>R (.error e) s') s₄) (notedBy (model prog w) A env fun e s'=>R (.error e) s') s₃
            else ∃m,m<n/\I m s₃) (notedBy (model prog w) A env fun e s'=>R (.error e) s') s₂) (notedBy (model prog w) A env fun e s'=>R (.error e) s') s₁') (notedBy (model prog w) A env fun e s'=>R (.error e) s') s₁) (notedBy (model prog w) A env fun e s'=>R (.error e) s') s)
    (n:Nat) (h:I n s) :
    codeAny (model prog w) A (.compLoop (.ListComp elt [⟨target,iter,ifs,0⟩] scope pos) 0 it acc env) R s:=by
  refine codeAny_loop rfl I (fun n s hI=>?_) n h;show wpAny _ A ((compTurn (.ListComp elt [⟨target,iter,ifs,0⟩] scope pos) 0 it acc env).onRaise (fun x=>do noteFrame x env;theTreesLotGoes x)) _ _ s;refine wpAny_noted ?_;rw[compTurn_list];refine wpAny_bind (wpAny_standAt (wpAny_bind (wpAny_mono (turn n s hI) (fun r s₁ h₁=>?_) fun _ _ h'=>h')));cases r with
  | none=>exact wpAny_pure h₁
  | some v =>
    refine wpAny_bind (wpAny_mono h₁ (fun _ s₁' h₁'=>?_) fun _ _ h'=>h');refine wpAny_bind (wpAny_mono h₁' (fun _ s₂ h₂=>wpAny_bind (wpAny_mono h₂ (fun ok s₃ h₃=>?_) fun _ _ h'=>h')) fun _ _ h'=>h');cases ok with
    | false=>exact wpAny_pure ⟨rfl,h₃⟩
    | true =>
      exact wpAny_bind (wpAny_bind (wpAny_mono h₃ (fun x s₄ h₄=>wpAny_bind (wpAny_mono h₄ (fun _ s₅ h₅=>wpAny_pure (wpAny_pure ⟨rfl,h₅⟩)) fun _ _ h'=>h')) fun _ _ h'=>h'))
end
theorem jdD {env:Env}:∀(names:List (Str × NameKind)) (cs:List (Str × Addr)),(∀y∈names,y.2=.free->∃c,env.cells.lookup y.1=some c) ->
    (∀y c,cs.lookup y=some c->env.cells.lookup y=some c) ->
    ∃cl:List (Str × Addr),(forIn (m:=Sem) names cs fun x r=>do
        if (x.2==NameKind.free)=true then do
          let a <- cellOf env x.1
          pure (ForInStep.yield ((x.1,a)::r))
        else pure (ForInStep.yield r))=pure cl/\(∀y c,cl.lookup y=some c->env.cells.lookup y=some c) /\
      (∀y,((y,NameKind.free)∈names\/∃c,cs.lookup y=some c)->∃c,cl.lookup y=some c)
  | [],cs,_,hc=>⟨cs,rfl,hc,fun y h=>h.elim (fun z=>nomatch z) id⟩
  | (n, k) :: r, cs, hn, hc => by
    by_cases hk:k=.free
    . subst hk
      obtain⟨c,e⟩:=hn (n,.free) xav rfl;have hc':∀y d,((n,c)::cs).lookup y=some d->env.cells.lookup y=some d:=fun y d q=>by
        rw[xaw] at q;cases z:y==n with
        | true =>
          rw[z] at q;have:=beq_iff_eq.mp z;subst this;cases q;exact e
        | false=>rw[z] at q;exact hc y d q
      obtain⟨cl,h1,h2,h3⟩:=jdD r ((n,c)::cs) (fun y hy=>hn y (xaq _ hy)) hc';refine⟨cl,?_,h2,fun y hy=>h3 y ?_⟩
      . rw[List.forIn_cons]
        have ec:cellOf env n=pure c:=by unfold cellOf;rw[e]
        show ((if (NameKind.free==NameKind.free)=true then _ else _) >>= _)=_;rw[if_pos (by rfl)];show ((cellOf env n >>= _) >>= _)=_;rw[ec];exact h1
      . rcases hy with hy | ⟨d,hy⟩
        . rcases xac.mp hy with z | z
          . cases z
            exact .inr ⟨c,by rw[xaw,beq_self_eq_true]⟩
          . exact .inl z
        . refine .inr ?_
          rw[xaw];cases z:y==n with
          | true=>exact⟨c,rfl⟩
          | false=>exact⟨d,hy⟩
    . obtain⟨cl,h1,h2,h3⟩:=jdD r cs (fun y hy=>hn y (xaq _ hy)) hc
      refine⟨cl,?_,h2,fun y hy=>h3 y ?_⟩
      . rw[List.forIn_cons]
        have hb:(k==NameKind.free)=false:=by simpa using hk
        show ((if (k==NameKind.free)=true then _ else _) >>= _)=_;rw[if_neg (by rw[hb];decide)];exact h1
      . rcases hy with hy | hy
        . rcases xac.mp hy with z | z
          . cases z;exact absurd rfl hk
          . exact .inl z
        . exact .inr hy
theorem jdE {env:Env} {scope:Scope} (hn:∀y∈scope.names,y.2=.free->∃c,env.cells.lookup y.1=some c) :
  ∃cl:List (Str × Addr),closureFor scope env=pure cl/\(∀y c,cl.lookup y=some c->env.cells.lookup y=some c)/\(∀y,(y,NameKind.free)∈scope.names->∃c,cl.lookup y=some c):=by
 obtain⟨cl,h1,h2,h3⟩:=jdD (env:=env) scope.names [] hn (fun y c q=>nomatch q);refine⟨cl,?_,h2,fun y hy=>h3 y (.inl hy)⟩;unfold closureFor;show (_ >>= fun cs=>pure cs)=_;have e:∀m:Sem (List (Str × Addr)),(m >>= fun cs=>pure cs)=m:=fun m=>bind_pure m;rw[e];exact h1
inductive Ixs (N:List Str) (sc cs:Scope):List Str->List Nat->Prop
 | nil:Ixs N sc cs [] []
 | cons {y r j q} (h1:N[j]?=some y) (h2:sc.names.lookup y=some .cell\/sc.names.lookup y=some .free) (h3:cs.names.lookup y=some .free) (t:Ixs N sc cs r q):Ixs N sc cs (y::r) (j::q)
structure CompScope (N:List Str) (sc:Scope) (N':List Str) (ix:List Nat) (x:Str) (r:List Str) (cs:Scope):Prop where
 eq:N'=x::r
 kind:cs.kind=.function
 hcell:∀y∈cs.names,y.2≠.cell
 hnames:∀y∈cs.names,y.2=.local->cs.names.lookup y.1=some .local
 hx:cs.names.lookup x=some .local
 nd:(x::r).Nodup
 fr:∀y∈cs.names,y.2=.free->sc.names.lookup y.1=some .cell\/sc.names.lookup y.1=some .free
 ixs:Ixs N sc cs r ix
def jaI (σ:St) (ix:List Nat):St:=ix.map fun j=>(σ[j]?).getD none
def jkJ (X:Cx) (N':List Str) (cs:Scope) (cl:List (Str × Addr)) (s3:Shared) (H3:Hp) (fp:List Addr):Cx :=
 { X with N:=N',s₀:=s3,H₀:=H3,env:=compEnvC cs cl s3.heap.objs.size X.env,outer:=X.stack,stack:=X.stack,ex:=fp,fn:=fun _=>false,pn:=[],xe:=fun _ _=>False }
theorem jdP {env:Env} {cs:Scope} (hcell:∀y∈cs.names,y.2≠.cell) {y:Str} {k:NameKind} (h:(relabel cs env).names.lookup y=some k) (hk:k=.cell\/k=.free):(y,NameKind.free)∈cs.names:=by
 have m:=PySem.mem_of_lookup h;obtain⟨⟨n,k0⟩,h1,h2⟩:=xaA.mp m;by_cases c:(k0==NameKind.free&&env.scope.kind==.function&&env.kindOf n==some .cell)=true
 ·have h2':(n,NameKind.cell)=(y,k):=by rw[<- h2];exact (if_pos c).symm
  cases h2';have:k0=.free:=by
   have z:=(xa7.mp (xa7.mp c).1).1;exact beq_iff_eq.mp z
  rw[this] at h1;exact h1
 ·have h2':(n,k0)=(y,k):=by rw[<- h2];exact (if_neg c).symm
  cases h2';rcases hk with rfl | rfl
  ·exact absurd rfl (hcell _ h1)
  ·exact h1
theorem jbf {env:Env}:∀{names:List (Str × NameKind)} {x:Str},names.lookup x=some .free ->
    (names.map fun (n,k)=>if (k==NameKind.free&&env.scope.kind==.function&&env.kindOf n==some .cell) then (n,NameKind.cell) else (n,k)).lookup x=some .cell \/
    (names.map fun (n,k)=>if (k==NameKind.free&&env.scope.kind==.function&&env.kindOf n==some .cell) then (n,NameKind.cell) else (n,k)).lookup x=some .free
  | [],_,h=>by simp at h
  | (n, k) :: r, x, h => by
    have ih:=@jbf env r x;rw[xaT];show List.lookup x ((if (k==NameKind.free&&env.scope.kind==.function&&env.kindOf n==some .cell)=true then (n,NameKind.cell) else (n,k))::_)=_\/List.lookup x ((if (k==NameKind.free&&env.scope.kind==.function&&env.kindOf n==some .cell)=true then (n,NameKind.cell) else (n,k))::_)=_;cases hx:x==n with
    | true =>
      simp only[xaw,hx] at h;cases h;by_cases hc:(NameKind.free==NameKind.free&&env.scope.kind==.function&&env.kindOf n==some .cell)=true
      . rw[if_pos hc];exact .inl (by simp only[xaw,hx])
      . rw[if_neg hc];exact .inr (by simp only[xaw,hx])
    | false =>
      simp only[xaw,hx] at h;by_cases hc:(k==NameKind.free&&env.scope.kind==.function&&env.kindOf n==some .cell)=true
      . rw[if_pos hc];simp only[xaw,hx];exact ih h
      . rw[if_neg hc];simp only[xaw,hx];exact ih h
theorem Ixs.get {N:List Str} {sc cs:Scope}:∀{r:List Str} {ix:List Nat},Ixs N sc cs r ix->∀{i:Nat} {y:Str},r[i]?=some y ->
    ∃j,ix[i]?=some j/\N[j]?=some y/\(sc.names.lookup y=some .cell\/sc.names.lookup y=some .free)/\cs.names.lookup y=some .free
  | _,_,.nil,i,y,h=>by simp at h
  | _,_,.cons h1 h2 h3 t,0,y,h=>by simp at h;subst h;exact⟨_,rfl,h1,h2,h3⟩
  | _, _, .cons h1 h2 h3 t, i + 1, y, h => by
    obtain⟨j,a,b⟩:=Ixs.get t (i:=i) (y:=y) (by simpa using h);exact⟨j,by simpa using a,b⟩
theorem Ixs.len {N:List Str} {sc cs:Scope}:∀{r:List Str} {ix:List Nat},Ixs N sc cs r ix->r.length=ix.length
 | _,_,.nil=>rfl
 | _,_,.cons _ _ _ t=>by rw[xam,xam,t.len]
section
variable {X:Cx} {pins:List (Addr × Obj)} {σ:St} {H:Hp} {s:Shared}
theorem Inv.compOk {N' r:List Str} {ix:List Nat} {x:Str} {cs:Scope} {cl:List (Str × Addr)} {fp:List Addr} (I:Inv X pins σ H s) (S:CompScope X.N X.env.scope N' ix x r cs)
  (h2:∀y c,cl.lookup y=some c->X.env.cells.lookup y=some c) (h3:∀y,(y,NameKind.free)∈cs.names->∃c,cl.lookup y=some c) (hf:∀b∈fp,jfF X pins H b) (hfp:∀b∈fp,b<s.heap.objs.size) :
  (jkJ X N' cs cl s H fp).Ok where
 mod:=I.ok.mod
 kind:=S.kind
 glob:=I.ok.glob
 blt:=I.ok.blt
 above:=xae _
 inj:=fun a b c ha hb=>I.ok.inj a b c (h2 a c ha) (h2 b c hb)
 has:=fun y hy=>h3 y (hy.elim (fun z=>jdP S.hcell z (.inl rfl)) fun z=>jdP S.hcell z (.inr rfl))
 cab:=fun _ _ z=>nomatch z
 hd:=I.ok.hd
 frames:=I.ok.frames
 stk:=.inl rfl
 exf:=fun b hb=>⟨xaz (hfp b hb),fun y c e=>(hf b hb).2.2.2.2.1 y c (h2 y c e)⟩
 bs:=I.bs
 bsz:=xan I.ok.bsz I.sz
 noex:=fun b o e hb=>by
  rcases (hf b hb).2.2.2.1 with z | z
  ·exact I.ok.noex b o e z
  ·exact absurd (xah (Heap.lt_size e) (xan I.ok.bsz z)) (xaS _)
 exfs:=fun b hb hs=>by
  rcases xac.mp (I.stkSub b hs) with z | z
  ·exact (hf b hb).2.1 z
  ·exact (hf b hb).2.2.1 z
 funs:=I.stack
 frf:=I.stkFree
theorem jes {σ:St} {ix:List Nat} {i:Nat} {v:V} (h:(jaI σ ix)[i]?=some (some v)):∃j,ix[i]?=some j/\σ[j]?=some (some v):=by
  unfold jaI at h;rw[xad] at h;cases e:ix[i]? with
  | none=>rw[e] at h;cases h
  | some j =>
    rw[e] at h;refine⟨j,rfl,?_⟩;cases q:σ[j]? with
    | none =>
      have h':((σ[j]?).getD none)=some v:=by simpa using h
      rw[q] at h';cases h'
    | some o =>
      have h':((σ[j]?).getD none)=some v:=by simpa using h
      rw[q] at h';cases o with
      | none=>cases h'
      | some u=>cases h';rfl
theorem Inv.compStart {N' r:List Str} {ix:List Nat} {x:Str} {cs:Scope} {cl:List (Str × Addr)} {fp:List Addr} {h1:Heap} {tk:Nat} {m:Str->Option Value} (I:Inv X pins σ H s) (S:CompScope X.N X.env.scope N' ix x r cs)
    (h2:∀y c,cl.lookup y=some c->X.env.cells.lookup y=some c) (h3:∀y,(y,NameKind.free)∈cs.names->∃c,cl.lookup y=some c) (hf:∀b∈fp,jfF X pins H b) (hfp:∀b∈fp,b<s.heap.objs.size)
    (hn:h1.Ns s.heap.objs.size m) (hk:∀b o,s.heap.get? b=some o->h1.get? b=some o) :
    Inv (jkJ X N' cs cl s H fp) [] (none::jaI σ ix) H { s with heap:=h1,toks:=tk }:=by
  have ok:=I.compOk (N':=N') (fp:=fp) S h2 h3 hf hfp;obtain⟨mo,hno,hlo⟩:=id I.loc;refine⟨ok,rfl,I.bare,Un.kept hk,⟨m,hn,fun i y v e1 e2 e3=>?_⟩,fun y c e=>?_,I.hok.fresh (xae _),fun y c e=>I.freeC y c (h2 y c e),fun p hp=>absurd (show p∈([]:List (Addr × Obj)) from hp) (by simp),I.hok.kept hk,?_⟩
  . cases i with
    | zero=>cases e2
    | succ i =>
      have e1':r[i]?=some y:=by
        have:N'[i+1]?=some y:=e1;rw[S.eq] at this;simpa using this
      obtain⟨j,j1,j2,j3,j4⟩:=S.ixs.get e1';obtain⟨j',k1,k2⟩:=jes (σ:=σ) (ix:=ix) (i:=i) (v:=v) (by simpa using e2);rw[j1] at k1;cases k1;obtain⟨u,ru,lk⟩:=hlo j y v j2 k2 (j3.elim (fun z=>.inr (.inl z)) fun z=>.inr (.inr z));refine⟨u,ru,?_⟩;obtain⟨c,hc⟩:=h3 y (PySem.mem_of_lookup j4);rcases lk with ⟨k,_⟩ | ⟨k,c',e',z⟩
      . have k':X.env.scope.names.lookup y=some .local:=k
        rcases j3 with q | q<;>(rw[q] at k';cases k')
      . rw[h2 y c hc] at e'
        cases e';refine .inr ⟨?_,c,hc,?_⟩
        . exact jbf (env:=X.env) j4
        . obtain⟨o,ho,hd⟩:=z
          exact⟨o,hk c o ho,hd⟩
  . obtain⟨v,o,ho,hd⟩:=I.cell y c (h2 y c e)
    exact⟨v,o,hk c o ho,hd⟩
  . show (none::jaI σ ix).length=N'.length
    rw[S.eq,xam,xam,S.ixs.len];unfold jaI;rw[xaa]
def PTs (X:Cx) (ifs:List Expr) (t:TT):Prop :=
  ∀ (E : Value -> Shared -> Prop) (pins : List (Addr × Obj)) (s : Shared) (σ : St) (H : Hp) (Q : Bool -> Hp -> Prop), (∀ e s', X.xe e s' -> E e s') -> Inv X pins σ H s -> t σ H Q ->
    wpAny (model X.prog X.w) X.A (forIn ifs true fun c r=>if r=true then do let ok <- isTrue c X.env (eval c X.env);pure (ForInStep.yield ok) else pure (ForInStep.yield r)) (TP X pins σ Q) E s
def jb3:TT:=fun _ H Q=>Q true H
theorem ja4 {X:Cx}:PTs X [] jb3:=fun _ _ _ _ H _ _ I h=>wpAny_tests_nil ⟨H,I,h⟩
theorem jfh {X:Cx} {c:Expr} {t:TT} (h:PT X c t):PTs X [c] t:=fun _ pins s σ H Q hE I q=>wpAny_tests_one (wpAny_mono (h pins s σ H Q I q) (fun _ _ z=>z) hE)
def CompGo (J:It) (ρ:St) (g:TG) (tt:TT) (te:TE) (acc:Addr) (Z:Hp->Prop) (H1:Hp):Prop :=
  ∃ W : Nat -> Nat -> List V -> Hp -> Prop, (∃ m, W 0 m [] (upd H1 acc (.lst []))) /\ ∀ i m xs H, W i m xs H ->
    ((J.stop i H /\ Z H) \/ (J.go i H /\ ∃ (Nx : V -> Hp -> Prop) (Nn : Hp -> Prop), (∀ y H4, Nx y H4 -> H4 acc = some (.lst xs) /\ xs.length < sizeLine /\ ∃ m', m' < m /\ W (i + 1) m' (xs ++ [y]) (upd H4 acc (.lst (xs ++ [y])))) /\
      (∀H3,Nn H3->∃m',m'<m/\W (i+1) m' xs H3)/\∀v0 x H',J.yld i H x H'->g x (v0::ρ) H' fun σ2 H2=>(∃v,σ2=v::ρ)/\tt σ2 H2 fun b H3=>if b=true then te σ2 H3 Nx else Nn H3))
end
section
variable {X:Cx} {N' r:List Str} {ix:List Nat} {x:Str} {cs:Scope} {tg iter elt:Expr} {ifs:List Expr} {pos:Pos} {wi:TI} {g:TG} {tt:TT} {te:TE}
def jfW (wi:TI) (ix:List Nat) (g:TG) (tt:TT) (te:TE):TE:=fun σ H Q=>wi σ H fun J H1=>∀acc,H1 acc=none->CompGo J (jaI σ ix) g tt te acc (fun H'=>Q (.ref acc) H') H1
theorem CompScope.clos {sc:Scope} {N:List Str} (S:CompScope N sc N' ix x r cs) {env:Env} (he:env.scope=sc) (has:∀y,(env.kindOf y=some .cell\/env.kindOf y=some .free)->∃c,env.cells.lookup y=some c) :
  ∃cl:List (Str × Addr),closureFor cs env=pure cl/\(∀y c,cl.lookup y=some c->env.cells.lookup y=some c)/\(∀y,(y,NameKind.free)∈cs.names->∃c,cl.lookup y=some c) :=
 jdE fun y hy hk=>has y.1 (by
  subst he;exact S.fr y hy hk)
end
section
variable {ρ:St} {g:TG} {tt:TT} {te:TE} {acc:Addr} {Z:Hp->Prop} {H1:Hp}
theorem je1 {lo:Int} {n:Nat} (Pv:Nat->List V->Hp->Prop) (h0:Pv 0 [] (upd H1 acc (.lst [])))
  (hs:∀i xs H,i<n->Pv i xs H->te (some (.int (lo+i))::ρ) H fun y H4=>H4 acc=some (.lst xs)/\xs.length<sizeLine/\Pv (i+1) (xs++[y]) (upd H4 acc (.lst (xs++[y]))))
  (hd:∀xs H,Pv n xs H->Z H):CompGo (Itr lo n) ρ (jbt 0) jb3 te acc Z H1:=by
 refine⟨fun i m xs H=>Pv i xs H/\i<=n/\m=n-i,⟨n,h0,xaG _,rfl⟩,?_⟩;rintro i m xs H ⟨hp,hi,rfl⟩;by_cases hlt:i<n
 ·refine .inr ⟨hlt,(fun y H4=>H4 acc=some (.lst xs)/\xs.length<sizeLine/\Pv (i+1) (xs++[y]) (upd H4 acc (.lst (xs++[y])))),fun _=>False,fun y H4 q=>⟨q.1,q.2.1,n-(i+1),by omega,q.2.2,hlt,rfl⟩,fun _ z=>z.elim,?_⟩;rintro v0 x H' ⟨rfl,rfl⟩;exact⟨⟨_,rfl⟩,by simp only[jb3,if_true];exact hs i xs H' hlt hp⟩
 ·have:i=n:=by omega
  subst this;exact .inl ⟨xae _,hd xs H hp⟩
theorem jfi {K:PySem.W.Frag} {a:Addr} {zs:List V} (Pv:Nat->List V->Hp->Prop) (h0:Pv 0 [] (upd H1 acc (.lst []))) (hl:∀i xs H,i<=zs.length->Pv i xs H->SqT K H a zs)
  (hs:∀i z xs H,zs[i]?=some z->Pv i xs H->te (some z::ρ) H fun y H4=>H4 acc=some (.lst xs)/\xs.length<sizeLine/\Pv (i+1) (xs++[y]) (upd H4 acc (.lst (xs++[y]))))
  (hd:∀xs H,Pv zs.length xs H->Z H):CompGo (Itt K a) ρ (jbt 0) jb3 te acc Z H1:=by
 refine⟨fun i m xs H=>Pv i xs H/\i<=zs.length/\m=zs.length-i,⟨zs.length,h0,xaG _,rfl⟩,?_⟩;rintro i m xs H ⟨hp,hi,rfl⟩;have sq:=hl i xs H hi hp;by_cases hlt:i<zs.length
 ·refine .inr ⟨⟨zs,zs[i],sq,xab hlt⟩,(fun y H4=>H4 acc=some (.lst xs)/\xs.length<sizeLine/\Pv (i+1) (xs++[y]) (upd H4 acc (.lst (xs++[y])))),fun _=>False,fun y H4 q=>⟨q.1,q.2.1,zs.length-(i+1),by omega,q.2.2,hlt,rfl⟩,fun _ z=>z.elim,?_⟩;rintro v0 x H' ⟨rfl,hx⟩;exact⟨⟨_,rfl⟩,by simp only[jb3,if_true];exact hs i x xs H' (hx zs sq) hp⟩
 ·have:i=zs.length:=by omega
  subst this;exact .inl ⟨⟨zs,sq,xae _⟩,hd xs H hp⟩
theorem jfX {K:PySem.W.Frag} {a:Addr} {zs:List V} (Pv:Nat->List V->Hp->Prop) (h0:Pv 0 [] (upd H1 acc (.lst []))) (hl:∀i xs H,i<=zs.length->Pv i xs H->SqL K H a zs)
  (hs:∀i z xs H,zs[i]?=some z->Pv i xs H->te (some z::ρ) H fun y H4=>H4 acc=some (.lst xs)/\xs.length<sizeLine/\Pv (i+1) (xs++[y]) (upd H4 acc (.lst (xs++[y]))))
  (hd:∀xs H,Pv zs.length xs H->Z H):CompGo (Itl K a) ρ (jbt 0) jb3 te acc Z H1:=by
 refine⟨fun i m xs H=>Pv i xs H/\i<=zs.length/\m=zs.length-i,⟨zs.length,h0,xaG _,rfl⟩,?_⟩;rintro i m xs H ⟨hp,hi,rfl⟩;have sq:=hl i xs H hi hp;by_cases hlt:i<zs.length
 ·refine .inr ⟨⟨zs,zs[i],sq,xab hlt⟩,(fun y H4=>H4 acc=some (.lst xs)/\xs.length<sizeLine/\Pv (i+1) (xs++[y]) (upd H4 acc (.lst (xs++[y])))),fun _=>False,fun y H4 q=>⟨q.1,q.2.1,zs.length-(i+1),by omega,q.2.2,hlt,rfl⟩,fun _ z=>z.elim,?_⟩;rintro v0 x H' ⟨rfl,hx⟩;exact⟨⟨_,rfl⟩,by simp only[jb3,if_true];exact hs i x xs H' (hx zs sq) hp⟩
 ·have:i=zs.length:=by omega
  subst this;exact .inl ⟨⟨zs,sq,xae _⟩,hd xs H hp⟩
end
end L2
namespace L2
open PySem PySem.Spec PyProof.Rows
section
variable {X:Cx}
theorem jdF {k:Int} {n:Nat} (h:k.natAbs<2^n):Builtin.Int.intBits k<=n:=by
 unfold Builtin.Int.intBits;split
 ·exact xaG _
 ·rename_i h0
  have hk:k.natAbs≠0:=by
   intro z;apply h0;have:k=0:=Int.natAbs_eq_zero.mp z;subst this;rfl
  have:k.natAbs.log2<n:=(Nat.log2_lt hk).mpr h;omega
def Fit (i:Int):Prop:=i.natAbs<2^8000
theorem Fit.mul {i j:Int} (hi:Fit i) (hj:Fit j):IntMulOk i j:=by
 have h1:=jdF hi;have h2:=jdF hj;unfold IntMulOk;intro h;have h3:=(xa7.mp h).2;unfold Builtin.Int.intTooBig at h3;have h4:=of_decide_eq_true h3;have h5:(bitsLine:Int)=134217728:=by decide
 omega
theorem jaA:OpR X (binaryOp .Mult) (rI (fun i j=>Fit i/\Fit j) fun i j=>.int (i*j)):=opI fun _ _ _ _ _ _ _ hc q=>mul_int q (hc.1.mul hc.2)
theorem Fit.log {i:Int} (h:Fit i):i.natAbs.log2<9000:=by
 by_cases h0:i.natAbs=0
 ·rw[h0];decide +kernel
 ·have:=(Nat.log2_lt h0).mpr h;omega
theorem jeb:OpR X (binaryOp .FloorDiv) (rI (fun _ j=>0<j/\Fit j) fun i j=>.int (i / j)):=opI fun i j _ _ _ _ _ hc q=>by
 have h1:(0:Int)<j:=hc.1;exact floordiv_int (by omega) (by rw[Int.fdiv_eq_ediv_of_nonneg i (by omega)];exact q) (.inl (PyProof.noPylong_of_log2 hc.2.log))
theorem Fit.of {i:Int} {n:Nat} (h:i.natAbs<2^n) (hn:n<=8000:=by decide):Fit i:=xah h (xbl (by decide) hn)
theorem jet:CallR X (.builtin "isinstance") (fun xs H Q=>∃x c t b,xs=[x,.ty c]/\TyOf X.K H x t/\PySem.W.kitOne X.K t (.type c)=some b/\Q (.bl b) H):=by
 intro pins s σ H xs us Q I r h;obtain⟨x,c,t,b,rfl,ty,e,q⟩:=h;obtain⟨u,w',rfl,r1,r2⟩:=jls r;cases r2;exact jh8 I r1 ty e fun tk=>⟨.bl b,H,I.tok tk,rfl,q⟩
mutual
inductive Rds (K:PySem.W.Frag) (H:Hp):V->PyData->Prop
 | non:Rds K H .non .none
 | bl (b:Bool):Rds K H (.bl b) (.bool b)
 | int (i:Int):Rds K H (.int i) (.int i)
 | str (x:Str):Rds K H (.str x) (.str x)
 | lst {a:Addr} {xs:List V} {ds:List PyData} (h:SqL K H a xs) (t:RdsAll K H xs ds):Rds K H (.ref a) (.list ds)
 | tup {a:Addr} {xs:List V} {ds:List PyData} (h:SqT K H a xs) (t:RdsAll K H xs ds):Rds K H (.ref a) (.tuple ds)
inductive RdsAll (K:PySem.W.Frag) (H:Hp):List V->List PyData->Prop
 | nil:RdsAll K H [] []
 | cons {v:V} {vs:List V} {d:PyData} {ds:List PyData} (h:Rds K H v d) (t:RdsAll K H vs ds):RdsAll K H (v::vs) (d::ds)
end
mutual
theorem Rds.reads {pins:List (Addr × Obj)} {σ:St} {H:Hp} {s:Shared} (I:Inv X pins σ H s):∀{x:V} {d:PyData} {u:Value},Rds X.K H x d->RelV x u->∃as,Reads s.heap u d as
  | _,_,_,.non,r=>by cases r;exact⟨_,.none⟩
  | _,_,_,.bl b,r=>by cases r;exact⟨_,.bool b⟩
  | _,_,_,.int i,r=>by obtain⟨t,rfl⟩:=r;exact⟨_,.int i t⟩
  | _,_,_,.str x,r=>by obtain⟨t,rfl⟩:=r;exact⟨_,.str x t⟩
  | _, _, _, .lst h t, r => by
    cases r;obtain⟨its,rv,pl,_⟩:=I.list h;obtain⟨o,ho,hc,n,hd⟩:=pl.isList;obtain⟨as,q⟩:=RdsAll.reads I t rv;exact⟨_,.list ho hc hd q⟩
  | _, _, _, .tup h t, r => by
    cases r;obtain⟨its,rv,pl,_⟩:=I.tuple h;obtain⟨o,ho,hc,n,hd⟩:=pl;obtain⟨as,q⟩:=RdsAll.reads I t rv;exact⟨_,.tuple ho hc hd q⟩
theorem RdsAll.reads {pins:List (Addr × Obj)} {σ:St} {H:Hp} {s:Shared} (I:Inv X pins σ H s):∀{xs:List V} {ds:List PyData} {us:List Value},RdsAll X.K H xs ds->Vals xs us->∃as,ReadsAll s.heap us ds as
  | _,_,_,.nil,r=>by cases r;exact⟨_,.nil⟩
  | _, _, _, .cons h t, r => by
    cases r with
    | cons r1 r2 =>
      obtain⟨as,q1⟩:=Rds.reads I h r1;obtain⟨bs,q2⟩:=RdsAll.reads I t r2;exact⟨_,.cons q1 q2⟩
end
theorem RdsAll.ints {K:PySem.W.Frag} {H:Hp}:∀ns:List Int,RdsAll K H (ns.map V.int) (ns.map PyData.int)
 | []=>.nil
 | n::r=>.cons (.int n) (RdsAll.ints r)
def jm6 (K:PySem.W.Frag) (neg:Bool):R2:=fun x y H Q=>∃dx dy,Rds K H x dx/\Rds K H y dy/\SeqAt.shaped dx=true/\SeqAt.shaped dy=true/\Q (.bl (if neg then !PyData.eqv dx dy else PyData.eqv dx dy)) H
theorem jkK (hu:X.A.units+64<cLine):OpR X (compareOp .Eq) (jm6 X.K false):=by
 intro pins s σ H x y v u Q I rx ry ⟨dx,dy,hx,hy,sx,sy,q⟩;obtain⟨as,ra⟩:=hx.reads I rx;obtain⟨bs,rb⟩:=hy.reads I ry;exact eq_dataH ra rb sx sy hu ⟨.bl _,H,I,rfl,q⟩
theorem je2 (hu:X.A.units+64<cLine):OpR X (compareOp .NotEq) (jm6 X.K true):=by
 intro pins s σ H x y v u Q I rx ry ⟨dx,dy,hx,hy,sx,sy,q⟩;obtain⟨as,ra⟩:=hx.reads I rx;obtain⟨bs,rb⟩:=hy.reads I ry;exact ne_dataH ra rb sx sy hu ⟨.bl _,H,I,rfl,q⟩
theorem jcT (hc:X.calm=true):CallR X (.builtin "all") (fun xs H Q=>∃(a:Addr) (bs:List Bool),xs=[.ref a]/\SqL X.K H a (bs.map V.bl)/\Q (.bl (bs.all id)) H):=by
  intro pins s σ H xs us Q I r h;obtain⟨a,bs,rfl,hq,q⟩:=h;obtain⟨u,rfl,rx⟩:=jcO r;cases rx;obtain⟨its,rv,pl,hz⟩:=I.list hq;have hl:=pl.isList;have hlt:a<s.heap.objs.size:=by obtain⟨_,e,_⟩:=hl;exact Heap.lt_size e
  refine call_all_walk (wpAny_pyIter_list hl ?_);refine⟨_,[s.heap.objs.size,a],[s.heap.objs.size],_,_,_,fun i=>(bs[i]?).getD true,rfl,Walks.list (A:=X.A.in1) (I.ok.hd hc) _ a (xaz hlt) its.toArray,⟨⟨_,Heap.get?_push_size _ rfl,rfl,rfl⟩,hl.push _⟩,?_,?_⟩
  . intro i v s' Q' E' hP hQ
    have hP':its[i]?=some v:=by simpa using hP
    have hb:∃b,bs[i]?=some b/\v=Value.bool b:=by
      cases e:bs[i]? with
      | none =>
        have l1:its.length=(bs.map V.bl).length:=rv.length.symm;rw[xaa] at l1;have l2:=xbn.mp e;have l3:=(xaj.mp hP').1;omega
      | some b =>
        obtain⟨u,e1,e2⟩:=rv.get (i:=i) (x:=V.bl b) (by rw[xad,e];rfl);rw[e1] at hP';cases hP';exact⟨b,rfl,e2⟩
    obtain⟨b,eb,rfl⟩:=hb;have hQ2:Q' ((bs[i]?).getD true) s':=hQ;rw[eb] at hQ2;exact wpAny_truthy_bool hQ2
  . intro h' tk hk
    have kp:∀b o,s.heap.get? b=some o->h'.get? b=some o:=fun b o e=>hk b o (fun hm=>by
      rcases xac.mp hm with e1 | hm
      . exact absurd (e1▸Heap.lt_size e) (xaS _)
      . cases hm) (Heap.get?_push_of_some _ e)
    refine⟨.bl _,H,I.kept kp,rfl,?_⟩;have l1:its.length=bs.length:=by rw[<- rv.length,xaa]
    have ea:(List.range its.toArray.size).all (fun i=>(bs[i]?).getD true)=bs.all id:=by
      rw[xai,l1,xbq,xaY,xaY];constructor
      . intro h b hb
        obtain⟨i,hi,e⟩:=List.mem_iff_getElem.mp hb;have z:=h i (xaN.mpr hi);rw[xab hi,e] at z;exact z
      . intro h i hi
        have hi':=xaN.mp hi;rw[xab hi'];exact h _ (xbo hi')
    rw[ea];exact q
end
end L2
namespace L2
open PySem PySem.Spec PyProof.Rows
def Keep {α:Type} (Z:Heap->Prop):Sem α->Prop
 | .pure _=>True
 | .raise _=>True
 | .unsupported _=>True
 | .finish _=>True
 | .rule _ k=>Keep Z (k ())
 | .at _ k=>Keep Z (k ())
 | .load _ _ k=>∀o,Keep Z (k o)
 | .update a _ f k=>(∀h,Z h->Z (h.update a f))/\Keep Z (k ())
 | .alloc o k=>(∀h,Z h->Z (h.push o))/\∀a,Keep Z (k a)
 | .loadIfAlive _ k=>∀o,Keep Z (k o)
 | .point _ k=>Keep Z (k ())
 | .register _ _=>True
 | .fresh k=>∀t,Keep Z (k t)
 | .ask k=>∀x,Keep Z (k x)
 | .choose _ _ k=>∀n,Keep Z (k n)
 | .os _ _ k=>∀r,Keep Z (k r)
 | .call ..=>False
 | .handled _ k=>∀x,Keep Z (k x)
 | .newGen _ k=>∀n,Keep Z (k n)
 | .genState _ k=>∀x,Keep Z (k x)
 | .resume ..=>False
 | .yield ..=>True
 | .stack k=>∀l,Keep Z (k l)
 | .fork ..=>True
 | .thread k=>∀n,Keep Z (k n)
 | .await ..=>True
theorem Keep.bind {α β:Type} {Z:Heap->Prop} {t:Sem α} {g:α->Sem β} (h:Keep Z t) (k:∀a,Keep Z (g a)):Keep Z (t >>= g):=by
 show Keep Z (Sem.bind t g);induction t with
 | pure a=>exact k a
 | raise _=>trivial
 | unsupported _=>trivial
 | finish _=>trivial
 | rule _ _ ih=>exact ih () h
 | «at» _ _ ih=>exact ih () h
 | load _ _ _ ih=>exact fun o=>ih o (h o)
 | update _ _ _ _ ih=>exact⟨h.1,ih () h.2⟩
 | alloc _ _ ih=>exact⟨h.1,fun a=>ih a (h.2 a)⟩
 | loadIfAlive _ _ ih=>exact fun o=>ih o (h o)
 | point _ _ ih=>exact ih () h
 | register _ _ _=>trivial
 | fresh _ ih=>exact fun o=>ih o (h o)
 | ask _ ih=>exact fun o=>ih o (h o)
 | choose _ _ _ ih=>exact fun o=>ih o (h o)
 | os _ _ _ ih=>exact fun o=>ih o (h o)
 | call _ _ _ _ _ _=>exact h.elim
 | handled _ _ ih=>exact fun o=>ih o (h o)
 | newGen _ _ ih=>exact fun o=>ih o (h o)
 | genState _ _ ih=>exact fun o=>ih o (h o)
 | resume _ _ _ _ _=>exact h.elim
 | yield _ _ _ _ _=>trivial
 | stack _ ih=>exact fun o=>ih o (h o)
 | fork _ _ _=>trivial
 | thread _ ih=>exact fun o=>ih o (h o)
 | await _ _ _ _ _ _=>trivial
theorem Keep.wp {α:Type} {Z:Heap->Prop} {M:Model} {Γ:PySem.Ctx} {t:Sem α} (h:Keep Z t):∀{Q:α->Pos->Shared->Prop} {E:Value->Pos->Shared->Prop} {p:Pos} {s:Shared},Z s.heap->Sem.wp M Γ t Q E p s ->
  Sem.wp M Γ t (fun a p s'=>Q a p s'/\Z s'.heap) (fun e p s'=>E e p s'/\Z s'.heap) p s:=by
 induction t with
 | pure a=>intro Q E p s z q;rw[Sem.wp] at q |-;exact⟨q,z⟩
 | raise e=>intro Q E p s z q;rw[Sem.wp] at q |-;exact⟨q,z⟩
 | unsupported _=>intro Q E p s z q;rw[Sem.wp] at q;exact q.elim
 | finish _=>intro Q E p s z q;rw[Sem.wp] at q;exact q.elim
 | rule _ _ ih=>intro Q E p s z q;rw[Sem.wp] at q |-;exact ih () h z q
 | «at» _ _ ih=>intro Q E p s z q;rw[Sem.wp] at q |-;exact ih () h z q
 | load _ _ _ ih=>intro Q E p s z q;rw[Sem.wp] at q |-;obtain⟨o,ho,q⟩:=q;exact⟨o,ho,ih o (h o) z q⟩
 | update _ _ _ _ ih=>intro Q E p s z q;rw[Sem.wp] at q |-;exact⟨q.1,ih () h.2 (h.1 _ z) q.2⟩
 | alloc _ _ ih=>intro Q E p s z q;rw[Sem.wp] at q |-;exact ih _ (h.2 _) (h.1 _ z) q
 | loadIfAlive _ _ ih=>intro Q E p s z q;rw[Sem.wp] at q |-;exact ih _ (h _) z q
 | point _ _ ih=>intro Q E p s z q;rw[Sem.wp] at q |-;exact ih () h z q
 | register _ _ _=>intro Q E p s z q;rw[Sem.wp] at q;exact q.elim
 | fresh _ ih=>intro Q E p s z q;rw[Sem.wp] at q |-;exact ih _ (h _) z q
 | ask _ ih=>intro Q E p s z q;rw[Sem.wp] at q |-;exact ih _ (h _) z q
 | choose _ _ _ ih=>intro Q E p s z q;rw[Sem.wp] at q |-;exact⟨q.1,ih _ (h _) z q.2⟩
 | os _ _ _ ih=>intro Q E p s z q;rw[Sem.wp] at q |-;exact ih _ (h _) z q
 | call _ _ _ _ _ _=>exact h.elim
 | handled _ _ ih=>intro Q E p s z q;rw[Sem.wp] at q |-;exact ih _ (h _) z q
 | newGen _ _ ih=>intro Q E p s z q;rw[Sem.wp] at q |-;exact ih _ (h _) z q
 | genState _ _ ih=>intro Q E p s z q;rw[Sem.wp] at q |-;obtain⟨o,ho,q⟩:=q;exact⟨o,ho,ih _ (h _) z q⟩
 | resume _ _ _ _ _=>exact h.elim
 | yield _ _ _ _ _=>intro Q E p s z q;rw[Sem.wp] at q;exact q.elim
 | stack _ ih=>intro Q E p s z q;rw[Sem.wp] at q |-;exact ih _ (h _) z q
 | fork _ _ _=>intro Q E p s z q;rw[Sem.wp] at q;exact q.elim
 | thread _ ih=>intro Q E p s z q;rw[Sem.wp] at q |-;exact ih _ (h _) z q
 | await _ _ _ _ _ _=>intro Q E p s z q;rw[Sem.wp] at q;exact q.elim
theorem Keep.any {α:Type} {Z:Heap->Prop} {M:Model} {A:Around} {t:Sem α} {Q:α->Shared->Prop} {E:Value->Shared->Prop} {s:Shared} (h:Keep Z t) (z:Z s.heap) (q:wpAny M A t Q E s) :
  wpAny M A t (fun a s'=>Q a s'/\Z s'.heap) (fun e s'=>E e s'/\Z s'.heap) s:=fun Γ p hΓ=>h.wp z (q Γ p hΓ)
def DictAt (e dx:Addr) (h:Heap):Prop:=∃o,h.get? e=some o/\o.dict=some dx
theorem DictAt.push {e dx:Addr} {h:Heap} {o:Obj} (z:DictAt e dx h):DictAt e dx (h.push o):=by
 obtain⟨x,h1,h2⟩:=z;exact⟨x,Heap.get?_push_of_some _ h1,h2⟩
theorem DictAt.update {e dx a:Addr} {h:Heap} {f:Obj->Obj} (hd:∀o,(f o).dict=o.dict) (hf:∀o,o.isFreed=false->(f o).isFreed=false) (z:DictAt e dx h):DictAt e dx (h.update a f):=by
 obtain⟨x,h1,h2⟩:=z;by_cases c:a=e
 ·subst c;exact⟨f x,Heap.get?_update_self f h1 (hf x (Heap.get?_some_iff.mp h1).2),(hd x).trans h2⟩
 ·exact⟨x,(Heap.get?_update_other _ _ c).trans h1,h2⟩
theorem jim (g:Array Value->Array Value) (o:Obj):(Obj.mapFields g o).dict=o.dict:=by
 obtain⟨c,d,dt,sl⟩:=o;cases dt<;>rfl
theorem jin (g:Array Value->Array Value) (o:Obj) (h:o.isFreed=false):(Obj.mapFields g o).isFreed=false:=by
 obtain⟨c,d,dt,sl⟩:=o;cases dt<;>first | rfl | exact h
section
variable {e dx:Addr}
theorem jgk (v:Value):Keep (DictAt e dx) (fieldsOf v):=by
  unfold fieldsOf;cases v with
  | ref a =>
    refine fun o=>?_;show Keep _ (match o.data with | .fields vs=>_ | _=>_);cases o.data<;>trivial
  | _=>trivial
theorem jcK (v:Value) (i:Nat):Keep (DictAt e dx) (field v i):=by
 refine Keep.bind (jgk v) fun vs=>?_;cases vs[i]?<;>trivial
theorem jca (v:Value) (i:Nat) (x:Value):Keep (DictAt e dx) (setField v i x):=by
  unfold setField;cases v with
  | ref a =>
    refine fun o=>?_;show Keep _ (match o.data with | .fields vs=>_ | _=>_);cases o.data with
    | fields vs =>
      show Keep _ (if i<vs.size then _ else _);split
      . exact⟨fun h z=>z.update (jim _) (jin _),trivial⟩
      . trivial
    | _=>trivial
  | _=>trivial
theorem jgl (v:Value) (f:Option Addr):Keep (DictAt e dx) (setFlight v f):=by
 refine Keep.bind (jcK v 1) fun tb=>?_;split
 ·exact jca _ _ _
 ·trivial
theorem jeT (T:String) (vs:List Value):Keep (DictAt e dx) (newFields T vs):=by
 unfold newFields newObj;have k:Keep (DictAt e dx) (newObjAsIs (.type T) (.fields vs.toArray)):=⟨fun h z=>z.push,fun a=>trivial⟩;show Keep (DictAt e dx) (if vs.toArray.size>sizeLine+2 then _ else newObjAsIs (.type T) (.fields vs.toArray));split
 ·trivial
 ·exact k
theorem jio (env:Env) (b:Bool) (l:List Env):Keep (DictAt e dx) (keptBack env b l):=by
  cases l with
  | nil =>
    show Keep (DictAt e dx) (if (env.scope.isGenerator||env.scope.isCoroutine)=true then _ else _);split
    . trivial
    . refine Keep.bind (t:=underTheClaimsCaller) ?_ fun c=>trivial
      exact fun l=>trivial
  | cons x r=>trivial
theorem jgm (env:Env) (l:List Env):Keep (DictAt e dx) (behindIsImport env l):=by
 unfold behindIsImport;split
 ·trivial
 ·split
  ·trivial
  ·exact Keep.bind (jcK _ _) fun _=>trivial
theorem je3:∀l:List Env,Keep (DictAt e dx) (readyFrames l)
  | []=>trivial
  | env :: outer => by
    unfold readyFrames;cases env.frame with
    | none=>trivial
    | some f =>
      refine fun o=>?_;show Keep (DictAt e dx) (if (o.slots.getD 3 none).isSome=true then _ else _);split
      . trivial
      . refine Keep.bind (jgm _ _) fun b=>Keep.bind (jio _ _ _) fun c=>⟨fun h z=>z.update (fun o=>rfl) (fun o ho=>?_),je3 outer⟩
        obtain⟨c',d',dt,sl⟩:=o;cases dt<;>first | rfl | exact ho
theorem jfY (env:Env):Keep (DictAt e dx) (PySem.frameOf env):=by
 unfold PySem.frameOf;refine Keep.bind (fun l=>trivial) fun l=>Keep.bind ?_ fun x=>?_
 ·unfold frameObject;cases l.dropWhile (·.frame != env.frame) with
  | nil=>trivial
  | cons x r=>exact Keep.bind (je3 _) fun _=>trivial
 ·cases x<;>trivial
theorem jhE (f:Addr) (b:Bool):Keep (DictAt e dx) (entryPlaceOf f b):=by
 refine fun acts=>?_;show Keep _ (match acts.find? _ with | some (_,pos)=>_ | none=>_);split<;>trivial
theorem jip (v:Value) (env:Env):Keep (DictAt e dx) (noteFrame v env):=by
  unfold noteFrame;cases env.frame with
  | none=>trivial
  | some f =>
    refine Keep.bind (jcK v 1) fun head=>?_;have last:Keep (DictAt e dx) (do setField v 1 (<- EntryCells.newEntry head (<- PySem.frameOf env) .none (rawInt f) .none (<- entryPlaceOf f (head != .none)))) :=
      Keep.bind (jfY env) fun a=>Keep.bind (jhE _ _) fun pl=>Keep.bind (jeT _ _) fun b=>jca _ _ _
    show Keep (DictAt e dx) (if (head != Value.none)=true then _ else _);split
    . refine Keep.bind (jcK _ _) fun x=>?_
      split
      . trivial
      . exact Keep.bind (jca _ _ _) fun _=>last
    . exact last
theorem jfZ (env:Env) (v:Value):Keep (DictAt e dx) (leaving env v):=Keep.bind (jip v env) fun _=>jgl v none
end
def XOk (P:Program) (w:World):CXT:=fun outer H s E e s'=>∃(ea C:Addr) (a0:Value) (H':Hp) (B:Heap) (pd:Option Addr),e=.ref ea/\Heap.FlyingW B outer ea (.ref C) a0 s'.heap/\s'.os=s.os/\AllBare s'.gens /\
 Un (frs outer) [] H H' s.heap s'.heap/\HOk P w H' B/\(∀b o,s.heap.get? b=some o->H b=none->b∉frs outer->B.get? b=some o)/\(∀b o,s.heap.get? b=some o->b∉frs outer->∃o',B.get? b=some o')/\(∀dx,pd=some dx->DictAt ea dx s'.heap)/\E (.ref C) pd H'
structure Top1 (X:Cx):Prop where
 stk:X.stack=X.env::X.outer
 frm:X.env.frame=some X.env.locals
 ex:X.ex=[]
section
variable {X:Cx} {pins:List (Addr × Obj)} {σ:St} {H:Hp} {s:Shared}
theorem Top1.mem (T:Top1 X) {b:Addr}:b∈frs X.stack↔b=X.env.locals\/b∈X.fs:=by
 rw[T.stk];unfold frs;rw[xbp,T.frm];exact xac
theorem Inv.hokB (I:Inv X pins σ H s):HOk X.prog X.w H (PySem.W.hideAll s.heap (frs X.stack)):=fun a o e =>
 (I.hok a o e).stay (fun b u hb q=>PySem.W.hideAll_get _ q fun hm=>by
  have z:=I.stkFree b hm;rcases hb with rfl | hb
  ·rw[z] at e;cases e
  ·rw[z] at hb;cases hb) (fun _ q=>q) fun _ _ q=>q
theorem jiq {E:XK} {E':Value->Shared->Prop} {h2:Heap} {ea C:Addr} {vs:List Value} (T:Top1 X) (I:Inv X pins σ H s) (hx:Heap.MadeExcOf s.heap h2 ea (.ref C) vs) (q:E (.ref C) none H) :
  wpAny (model X.prog X.w) X.A (leaving X.env (.ref ea)) (fun _ s''=>XOk X.prog X.w X.outer X.H₀ X.s₀ E (.ref ea) s'') E' { s with heap:=h2 }:=by
 have hfr:X.A.frames=some (X.env::X.outer):=by rw[<- T.stk];exact I.ok.frames
 have hst:=I.stack;have hin:∀env∈X.stack,∀b,env.frame=some b->b∈frs X.stack:=fun env he b hb=>xbF.mpr ⟨env,he,hb⟩;have hB:=PySem.W.funFrames_hide hst hin;rw[T.stk] at hB;have out:∀b o,X.s₀.heap.get? b=some o->b∉X.fs->b∉frs X.stack:=fun b o e hb hm=>by
  rcases T.mem.mp hm with z | z
  ·exact absurd (xah (Heap.lt_size e) I.ok.above) (by rw[z];exact xaS _)
  ·exact hb z
 have nx:∀b:Addr,b∉X.ex:=fun b z=>by rw[T.ex] at z;cases z
 have toB:∀b o,s.heap.get? b=some o->b∉frs X.stack->(PySem.W.hideAll s.heap (frs X.stack)).get? b=some o:=fun b o e hb=>PySem.W.hideAll_get _ e hb;refine wpAny_leaves_madeW (base:=PySem.W.hideAll s.heap (frs X.stack)) hfr T.frm (fun b o q=>PySem.W.of_hideAll _ q) (by rw[T.stk];exact hB) hx fun h' t x1 _ _ x4=>?_;have slot:∀b,b∈frs X.stack->∀o,s.heap.get? b=some o->∃sl,h'.get? b=some { o with slots:=sl }:=fun b hb o e=>by
  obtain⟨_,o2,e2,nf⟩:=hst.mem hb;rw[e] at e2;cases e2;exact x4 b o (hx.keeps b o e) nf
 refine⟨ea,C,_,H,_,none,rfl,x1,I.os,I.bare,⟨fun b o e n hb _=>?_,fun b o e n hb _=>?_,fun b o e n _=>I.base.free b o e n (nx b),fun b o e _=>?_,I.base.tups,I.base.frzs,I.base.tbls⟩,I.hokB,fun b o e n hb=>?_,fun b o e hb=>?_,(fun _ z=>nomatch z),q⟩
 ·exact x1.1 b o (toB b o (I.base.keep b o e n hb (nx b)) (out b o e hb))
 ·obtain⟨sl,e1⟩:=I.base.slot b o e n hb (nx b);obtain⟨sl2,e2⟩:=slot b (T.mem.mpr (.inr hb)) _ e1;exact⟨sl2,e2⟩
 ·obtain⟨o',e1⟩:=I.base.there b o e (nx b);by_cases hb:b∈frs X.stack
  ·obtain⟨sl,e2⟩:=slot b hb o' e1;exact⟨_,e2⟩
  ·exact⟨o',x1.1 b o' (toB b o' e1 hb)⟩
 ·exact toB b o (I.base.keep b o e n hb (nx b)) (out b o e hb)
 ·obtain⟨o',e1⟩:=I.base.there b o e (nx b);exact⟨o',toB b o' e1 (out b o e hb)⟩
theorem jjL {E:XK} {E':Value->Shared->Prop} {e:Value} {s':Shared} (T:Top1 X) (I:Inv X pins σ H s) (h:XOk X.prog X.w X.stack H s E e s') :
    wpAny (model X.prog X.w) X.A (leaving X.env e) (fun _ s''=>XOk X.prog X.w X.outer X.H₀ X.s₀ E e s'') E' s':=by
  obtain⟨ea,C,a0,H',B,pd,rfl,fl,os,ba,un,hk,kb,tb,dk,q⟩:=h;have hfr:X.A.frames=some (X.env::X.outer):=by rw[<- T.stk];exact I.ok.frames
  have out:∀b o,X.s₀.heap.get? b=some o->b∉X.fs->b∉frs X.stack:=fun b o e hb hm=>by
    rcases T.mem.mp hm with z | z
    . exact absurd (xah (Heap.lt_size e) I.ok.above) (by rw[z];exact xaS _)
    . exact hb z
  have nx:∀b:Addr,b∉X.ex:=fun b z=>by rw[T.ex] at z;cases z
  have n0:∀b:Addr,b∉([]:List Addr):=fun b z=>nomatch z;have fl':=fl;rw[T.stk] at fl;have main:∀h',Heap.FlyingW B X.outer ea (.ref C) a0 h'->s'.heap.UpToSlots h'->(∀dx,pd=some dx->DictAt ea dx h')->XOk X.prog X.w X.outer X.H₀ X.s₀ E (.ref ea) { s' with heap:=h' }:=?_
  . cases pd with
    | none=>exact wpAny_leaves_onW hfr T.frm fl fun h' x1 x2=>main h' x1 x2 (fun _ z=>nomatch z)
    | some dx =>
      refine wpAny_mono (Keep.any (jfZ (e:=ea) (dx:=dx) X.env (.ref ea)) (dk dx rfl) (wpAny_leaves_onW hfr T.frm fl (Q:=fun _ s''=>∃h',s''={ s' with heap:=h' }/\Heap.FlyingW B X.outer ea (.ref C) a0 h'/\s'.heap.UpToSlots h') (E:=E') fun h' x1 x2=>⟨h',rfl,x1,x2⟩)) (fun _ s'' z=>?_) fun _ _ z=>z.1;obtain⟨⟨h',rfl,x1,x2⟩,z⟩:=z;exact main h' x1 x2 (fun dx' e=>by cases e;exact z)
  intro h' x1 x2 dk';have slot:∀b,b∈frs X.stack->∀o,s'.heap.get? b=some o->∃sl,h'.get? b=some { o with slots:=sl }:=fun b hb o e=>by
    obtain⟨_,o2,e2,nf⟩:=fl'.2.2.1.mem hb;rw[e] at e2;cases e2;exact x2 b o e nf
  refine⟨ea,C,a0,H',B,pd,rfl,x1,os.trans I.os,ba,⟨fun b o e n hb _=>?_,fun b o e n hb _=>?_,fun b o e n _=>?_,fun b o e _=>?_,fun b xs z=>un.tups b xs (I.base.tups b xs z),fun b o u z=>un.frzs b o u (I.base.frzs b o u z),fun b ps z=>?_⟩,hk,fun b o e n hb=>?_,fun b o e hb=>?_,dk',q⟩
  . exact x1.1 b o (kb b o (I.base.keep b o e n hb (nx b)) (I.base.free b o e n (nx b)) (out b o e hb))
  . obtain⟨sl,e1⟩:=I.base.slot b o e n hb (nx b)
    obtain⟨sl1,e2⟩:=un.slot b _ e1 (I.base.free b o e n (nx b)) (T.mem.mpr (.inr hb)) (n0 b);obtain⟨sl2,e3⟩:=slot b (T.mem.mpr (.inr hb)) _ e2;exact⟨sl2,e3⟩
  . obtain⟨o',e1⟩:=I.base.there b o e (nx b)
    exact un.free b o' e1 (I.base.free b o e n (nx b)) (n0 b)
  . obtain⟨o',e1⟩:=I.base.there b o e (nx b)
    by_cases hb:b∈frs X.stack
    . obtain⟨o2,e2⟩:=un.there b o' e1 (n0 b)
      obtain⟨sl,e3⟩:=slot b hb o2 e2;exact⟨_,e3⟩
    . obtain⟨o2,e2⟩:=tb b o' e1 hb
      exact⟨o2,x1.1 b o2 e2⟩
  . obtain⟨m1,z1⟩:=I.base.tbls b ps z
    obtain⟨m2,z2⟩:=un.tbls b _ z1;exact⟨m1++m2,by rw[z2,Array.append_assoc]⟩
  . exact kb b o (I.base.keep b o e n hb (nx b)) (I.base.free b o e n (nx b)) (out b o e hb)
  . obtain⟨o',e1⟩:=I.base.there b o e (nx b)
    exact tb b o' e1 (out b o e hb)
theorem jir {K:PySem.W.Frag} {h₀:Heap} {mg:Str->Option Value} {x:Str} {C:Addr} {bmB:List Value} {newId:String} (X:K.In h₀) (hm:mg x=some (.ref C)) (q:PySem.W.excIn K C bmB newId=true):OwnCls x C bmB newId mg h₀:=by
 refine⟨hm,?_⟩;unfold PySem.W.excIn at q;split at q
 ·rename_i dd cd sl ho
  split at q
  ·rename_i C' bm k0 k1 k2 k3 n k5 hm hs
   simp only[xaJ,beq_iff_eq,Bool.not_eq_true'] at q;obtain⟨⟨⟨⟨⟨rfl,rfl⟩,hdel⟩,ht⟩,hok⟩,hni⟩:=q;obtain⟨nm,bs,mro,ns,qn,hd,sn,sub,ab,col,del⟩:=cd;dsimp only at hm hdel hok hni;subst hm hdel;have hsl:sl=#[k0,k1,k2,k3,some (.builtin n),k5]:=by
    obtain⟨l⟩:=sl;simp only at hs;rw[hs]
   subst hsl;exact⟨bm,ns,nm,qn,bs,hd,sn,sub,ab,col,dd,k0,k1,k2,k3,k5,_,X _ _ ho,.of_isNs (PySem.W.isNs_of_in X hok),PySem.W.nsMap_none_of_in X hok hni,PySem.W.tail_of_in X ht⟩
  ·cases q
 ·cases q
structure Exc (K:PySem.W.Frag) (C:Addr) (B newId initId:String) (bmB:List Value):Prop where
 at_:PySem.W.excIn K C bmB newId=true
 base:ExcBaseFacts B newId initId bmB
theorem jbT {x:Str} {C:Addr} {B newId initId:String} {bmB:List Value} {e₀:Expr} {jba:List Expr} {ta:TA} {np cpos pos:Pos} {R:Hp->Prop} (hc:X.calm=true) (hg:Gl X x) (hm:X.mg x=some (.ref C)) (O:Exc X.K C B newId initId bmB)
  (ha:PA X (e₀::jba) ta) (hR:∀pins σ H s h' ea vs,Inv X pins σ H s->Heap.MadeExcOf s.heap h' ea (.ref C) vs->R H->X.xe (.ref ea) { s with heap:=h' })
  (hdb:(x==("__debug__":Str))=false:=by decide) (he:starEach (e₀::jba) X.env=(false,eval e₀ X.env)::starEach jba X.env:=by rfl) (hplain:(backTo cpos (starEach jba X.env)).any (·.1)=false:=by rfl) :
  PS X (.Raise (some (.Call (.Name x np) (e₀::jba) [] cpos)) none pos) (fun _ σ H=>ta σ H fun vs H1=>vs.length<=sizeLine/\R H1):=by
 intro pins s σ H D I h;have OC:OwnCls x C bmB newId X.mg X.base:=jir I.ok.mod.kin hm O.at_;obtain⟨tl,N,nm,q,bs,hdct,sn,sub,ab,col,dd,k0,k1,k2,k3,k5,mN,hC,hN,hni,TL⟩:=id OC.obj;refine wpAny_Raise_call_subT (C:=C) (nm:=nm) (q:=q) (N:=N) (bs:=bs) (bm:=tl) (hdct:=hdct) (sn:=sn) (sub:=sub) (ab:=ab) (col:=col) (dd:=dd) (k0:=k0) (k1:=k1) (k2:=k2) (k3:=k3) (k5:=k5)
  O.base (mN:=mN) (TL.hasType O.base.hasBase) (I.ok.hd hc) (by rw[he];show (false||(backTo cpos (starEach jba X.env)).any (·.1))=false;rw[hplain];rfl) hni (jei I hg hm ⟨rfl,?_⟩ hdb)
 have hA:=ha cpos pins s σ H _ I h;rw[he] at hA |-
 refine Calls.evalArgs_plain (wpAny_mono hA (fun us s2 ⟨vs,H1,I1,r1,hz,hr⟩=>?_) fun _ _ y=>y);have hl:us.length<=sizeLine:=by rw[<- r1.length];exact hz
 exact⟨rfl,hl,I1.bk _ _ hC,hN.keeps I1.bk,TL.keeps I1.bk,fun h' ea hx=>hR pins σ H1 s2 h' ea us I1 hx hr⟩
def XP (X:Cx) (pins:List (Addr × Obj)) (σ:St) (E:XK) (ex:Value) (s':Shared):Prop:=∃H1 s1,Inv X pins σ H1 s1/\XOk X.prog X.w X.stack H1 s1 E ex s'
abbrev TX:=St->Hp->VK->XK->Prop
def PX (X:Cx) (e:Expr) (t:TX):Prop :=
 ∀(pins:List (Addr × Obj)) (s:Shared) (σ:St) (H:Hp) (Q:VK) (E:XK),Inv X pins σ H s->t σ H Q E->wpAny (model X.prog X.w) X.A (eval e X.env) (EP X pins σ Q) (XP X pins σ E) s
theorem px_pe {e:Expr} {t:TE} (h:PE X.nox e t):PX X e (fun σ H Q _=>t σ H Q):=fun pins s σ H Q E I q =>
 wpAny_mono (h pins s σ H Q (I.wish _) q) (fun u s' ⟨v,H',I',r,q'⟩=>⟨v,H',I'.unwish,r,q'⟩) fun _ _ z=>z.elim
abbrev TSX:=Ends->(St->XK)->St->Hp->Prop
def PSX (X:Cx) (st:List Stmt) (t:TSX):Prop :=
 ∀(pins:List (Addr × Obj)) (s:Shared) (σ:St) (H:Hp) (D:Ends) (E:St->XK),Inv X pins σ H s->t D E σ H->wpAny (model X.prog X.w) X.A (execs st X.env) (SP X pins D) (fun ex s'=>∃σ1,XP X pins σ1 (E σ1) ex s') s
def Cx.caught (X:Cx) (e:Value):Cx:={ X with A:=X.A.mark (some e),calm:=false,xe:=fun _ _=>False }
theorem Inv.caught (I:Inv X pins σ H s) (e:Value) (hfr:(X.A.mark (some e)).frames=X.A.frames:=by rfl):Inv (X.caught e) pins σ H s :=
 ⟨⟨I.ok.mod,I.ok.kind,I.ok.glob,I.ok.blt,I.ok.above,I.ok.inj,I.ok.has,I.ok.cab,(fun z=>nomatch z),hfr.trans I.ok.frames,I.ok.stk,I.ok.exf,I.ok.bs,I.ok.bsz,I.ok.noex,I.ok.exfs,I.ok.funs,I.ok.frf⟩,I.os,I.bare,I.base,I.loc,I.cell,I.free,I.freeC,I.pin,I.hok,I.len⟩
theorem Inv.uncaught {e:Value} (ok:X.Ok) (I:Inv (X.caught e) pins σ H s):Inv X pins σ H s:=⟨ok,I.os,I.bare,I.base,I.loc,I.cell,I.free,I.freeC,I.pin,I.hok,I.len⟩
theorem SP.uncaught {e:Value} {D:Ends} {f:Flow} {s':Shared} (ok:X.Ok) (h:SP (X.caught e) pins D f s'):SP X pins D f s':=by
 cases f with
 | next=>obtain⟨a,b,I,q⟩:=h;exact⟨a,b,I.uncaught ok,q⟩
 | brk=>obtain⟨a,b,I,q⟩:=h;exact⟨a,b,I.uncaught ok,q⟩
 | cont=>obtain⟨a,b,I,q⟩:=h;exact⟨a,b,I.uncaught ok,q⟩
 | ret u=>obtain⟨v,a,b,I,r,q⟩:=h;exact⟨v,a,b,I.uncaught ok,r,q⟩
theorem Inv.landed {s':Shared} {H':Hp} {B h5:Heap} (T:Top1 X) (I:Inv X pins σ H s) (os:s'.os=s.os) (ba:AllBare s'.gens) (un:Un (frs X.stack) [] H H' s.heap s'.heap) (hk:HOk X.prog X.w H' B)
  (kb:∀b o,s.heap.get? b=some o->H b=none->b∉frs X.stack->B.get? b=some o) (tb:∀b o,s.heap.get? b=some o->b∉frs X.stack->∃o',B.get? b=some o')
  (st:B.StaysIn h5) (sm:s'.heap.UpToSlots h5) (ff:s'.heap.FunFrames B X.stack):Inv X pins σ H' { s' with heap:=h5 }:=by
 have n0:∀b:Addr,b∉([]:List Addr):=fun b z=>nomatch z;have slot:∀b,b∈frs X.stack->∀o,s'.heap.get? b=some o->∃sl,h5.get? b=some { o with slots:=sl }:=fun b hb o e=>by
  obtain⟨_,o2,e2,nf⟩:=ff.mem hb;rw[e] at e2;cases e2;exact sm b o e nf
 refine I.call' (s':={ s' with heap:=h5 }) (ch:=[]) os ⟨fun b o e n hb _=>st b o (kb b o e n hb),fun b o e n hb _=>?_,fun b o e n _=>un.free b o e n (n0 b),fun b o e _=>?_,un.tups,un.frzs,un.tbls⟩ (hk.kept st) ba fun b hb=>nomatch hb
 ·obtain⟨sl,e1⟩:=un.slot b o e n hb (n0 b);obtain⟨sl2,e2⟩:=slot b hb _ e1;exact⟨sl2,e2⟩
 ·by_cases hb:b∈frs X.stack
  ·obtain⟨o1,e1⟩:=un.there b o e (n0 b);obtain⟨sl,e2⟩:=slot b hb o1 e1;exact⟨_,e2⟩
  ·obtain⟨o1,e1⟩:=tb b o e hb;exact⟨o1,st b o1 e1⟩
theorem jm7 {c:Str} {C:Addr} {B newId initId:String} {bmB:List Value} {body:List Stmt} {b₀:Stmt} {suite:List Stmt} {tb:TSX} {th:TS} {np hpos pos:Pos} (T:Top1 X) (hg:Gl X c) (hm:X.mg c=some (.ref C)) (O:Exc X.K C B newId initId bmB)
  (hb:PSX X body tb) (hs:∀e,PSs (X.caught e) (b₀::suite) th) (hdb:(c==("__debug__":Str))=false:=by decide) :
  PS X (.Try body [.ExceptHandler (some (.Name c np)) none (b₀::suite) hpos] [] [] pos) (fun D σ H=>tb D (fun σ1 cls _ H1=>cls=.ref C/\th D σ1 H1) σ H):=by
 intro pins s σ H D I h;refine wpAny_Try_except (wpAny_mono (hb pins s σ H D _ I h) (fun f s1 q=>?_) fun ex s' ⟨σ1,H1,s1,I1,hx⟩=>?_)
 ·cases f with
  | next=>exact wpAny_execs_nil q
  | brk=>exact q
  | cont=>exact q
  | ret u=>exact q
 ·obtain⟨ea,C',a0,H',Bh,pd,rfl,fl,os,ba,un,hk,kb,tbb,dk,ec,q⟩:=hx;cases ec;have hfr:X.A.frames=some (X.env::X.outer):=by rw[<- T.stk];exact I1.ok.frames
  have ff:=fl.2.2.1;rw[T.stk] at fl;refine wpAny_looks_onW hfr T.frm fl fun h₄ held₄ sm₄=>?_;refine wpAny_landsW held₄ fun h₅ fl₅ sm₅'=>?_;have sm₅:=sm₄.trans sm₅';have I5:Inv X pins σ1 H' { s' with heap:=h₅ }:=I1.landed T os ba un hk kb tbb fl₅.1 sm₅ ff;obtain⟨ob,hob,hobc⟩:=fl₅.there;refine wpAny_handleBy_cons (codeAny_handlers_test (jei (X:=X.caught (.ref ea)) (I5.caught (.ref ea)) hg hm ?_ hdb)) (by intro q;cases q);obtain⟨bm,N,nm,qn,bs,hdct,sn,sub,ab,col,dd,k0,k1,k2,k3,k5,mN,hC,hN,hni,TL⟩:=((jir (h₀:=X.base) I1.ok.mod.kin hm O.at_).keeps I5.bk).obj;refine wpAny_excMatches_sub_self hC hob hobc (TL.hasType O.base.hasBase) (codeAny_handlers_suite ?_);refine lands_againW fl₅ fun h₆ fl₆ sm₆=>?_;have I6:Inv X pins σ1 H' { s' with heap:=h₆ }:=I1.landed T os ba un hk kb tbb fl₆.1 (sm₅.trans sm₆) ff;exact wpAny_mono (hs (.ref ea) pins _ σ1 H' D (I6.caught (.ref ea)) q) (fun f s7 q7=>SP.uncaught I6.ok q7) fun _ _ z=>z.elim
end
section
variable {P:Program} {w:World} {K:PySem.W.Frag} {mg:Str->Option Value} {base:Heap}
abbrev cxX (P:Program) (w:World) (K:PySem.W.Frag) (mg:Str->Option Value) (base:Heap) (N:List Str) (qual:Str) (scope:Scope) (f:Addr) (cd:Value) (A:Around) (outer:List Env) (s:Shared) (H:Hp) (E:XK):Cx:=jgj (XOk P w) P w K mg base N qual scope f cd A outer s H E
theorem jgn {N:List Str} {qual:Str} {scope:Scope} {f:Addr} {cd:Value} {A:Around} {outer:List Env} {s:Shared} {H:Hp} {E:XK} {CX:CXT}:Top1 (jgj CX P w K mg base N qual scope f cd A outer s H E):=⟨rfl,rfl,rfl⟩
theorem jlz {X:Cx} (T:Top1 X):Top1 X.nox:=⟨T.stk,T.frm,T.ex⟩
theorem pass1 {N:List Str} {qual:Str} {scope:Scope} {f:Addr} {cd:Value} {A:Around} {outer:List Env} {s:Shared} {H:Hp} {E:XK}:jbS (XOk P w) (cxX P w K mg base N qual scope f cd A outer s H E) E :=
 fun pins σ H1 s1 e s' I h=>jjL (E':=fun e' s''=>XOk P w outer H s E e' s'') jgn I h
theorem jcq {N:List Str} {qual:Str} {scope:Scope} {f C:Addr} {cd:Value} {A:Around} {outer:List Env} {s:Shared} {H:Hp} {E:XK} :
    ∀ (pins : List (Addr × Obj)) (σ : St) (H1 : Hp) (s1 : Shared) (h' : Heap) (ea : Addr) (vs : List Value), Inv (cxX P w K mg base N qual scope f cd A outer s H E) pins σ H1 s1 -> Heap.MadeExcOf s1.heap h' ea (.ref C) vs -> E (.ref C) none H1 ->
      (cxX P w K mg base N qual scope f cd A outer s H E).xe (.ref ea) { s1 with heap:=h' } :=
  fun pins σ H1 s1 h' ea vs I hx q=>jiq (E':=fun e' s''=>XOk P w outer H s E e' s'') jgn I hx q
structure FunD (K:PySem.W.Frag) (x qual:Str) (st:Stmt) (f:Addr) (fd:FuncData) (dV:Value):Prop where
 ex:∃(oc:Value) (od:Option Addr) (kV doc pm:Value) (an:Option Addr) (cdv ct:Value) (osl:Array (Option Value)),
  fd=PySem.W.fnOf x qual (jbH st) (jaZ st) (jad st) dV kV doc pm an cdv ct/\K.lookup f=some ⟨oc,od,.func fd,osl⟩/\PySem.W.codeIn K cdv qual=true
 kp:PySem.W.keepIn K (.ref f)=true
theorem FunD.okX {x qual:Str} {st:Stmt} {f:Addr} {fd:FuncData} {dV:Value} {N ps:List Str} {k:Nat} {sp:Sp} (F:FunD K x qual st f fd dV) (S:FnScope N ps (jad st)) (len:∀vs H Q E,sp vs H Q E->vs.length=ps.length)
  (hbody:∀(cdv:Value) (A:Around) (outer:List Env) (s:Shared) (H:Hp) (vs:List V) (Q:VK) (E:XK),Room k (A.deeper (envOfC qual (jad st) s.heap.objs.size f cdv))->sp vs H Q E ->
   ∃t,PSs (cxX P w K mg base N qual (jad st) f cdv A outer s H E) (jaZ st) t/\t { nx:=fun _ H'=>Q .non H',rt:=Q } (jbQ N vs) H):FnOk P w K mg base (XOk P w) (k+1) f fd ps sp:=by
 obtain⟨oc,od,kV,doc,pm,an,cdv,ct,osl,rfl,lk,hcd⟩:=F.ex;exact jm1 lk hcd S len fun A outer s H vs Q E hr hsp=>hbody cdv A outer s H vs Q E hr hsp
theorem FunD.ok {x qual:Str} {st:Stmt} {f:Addr} {fd:FuncData} {dV:Value} {N ps:List Str} {k:Nat} {sp:Sp} (F:FunD K x qual st f fd dV) (S:FnScope N ps (jad st)) (len:∀vs H Q E,sp vs H Q E->vs.length=ps.length)
  (hbody:∀(cdv:Value) (A:Around) (outer:List Env) (s:Shared) (H:Hp) (vs:List V) (Q:VK) (E:XK),Room k (A.deeper (envOfC qual (jad st) s.heap.objs.size f cdv))->sp vs H Q E ->
   ∃t,PSs (jgj CX0 P w K mg base N qual (jad st) f cdv A outer s H E).nox (jaZ st) t/\t { nx:=fun _ H'=>Q .non H',rt:=Q } (jbQ N vs) H):FnOk P w K mg base CX0 (k+1) f fd ps sp:=by
 obtain⟨oc,od,kV,doc,pm,an,cdv,ct,osl,rfl,lk,hcd⟩:=F.ex;refine jm1 lk hcd S len fun A outer s H vs Q E hr hsp=>?_;obtain⟨t,h,q⟩:=hbody cdv A outer s H vs Q E hr hsp;exact⟨t,h.nox,q⟩
theorem jgo {x qual:Str} {st:Stmt} {f:Addr} {oc dV:Value} {od an:Option Addr} {osl:Array (Option Value)} {kV doc pm cdv ct:Value} (l:K.lookup f=some ⟨oc,od,.func (PySem.W.fnOf x qual (jbH st) (jaZ st) (jad st) dV kV doc pm an cdv ct),osl⟩)
  (c:PySem.W.codeIn K cdv qual=true) (k:PySem.W.keepIn K (.ref f)=true):FunD K x qual st f (PySem.W.fnOf x qual (jbH st) (jaZ st) (jad st) dV kV doc pm an cdv ct) dV:=⟨⟨oc,od,kV,doc,pm,an,cdv,ct,osl,rfl,l,c⟩,k⟩
end
def At (K:PySem.W.Frag) (mg:Str->Option Value) (x:Str) (st:Stmt) (ps:List Str) (dvs:List V):Prop :=
 ∃f fd dV ds,FunD K x x st f fd dV/\mg x=some (.ref f)/\Binds K fd ps ds/\Vals dvs ds
def jap (P:Program) (w:World) (K:PySem.W.Frag) (mg:Str->Option Value) (base:Heap) (CX:CXT) (k:Nat) (x:Str) (ps:List Str) (dvs:List V) (sp:Sp):Prop :=
 ∃f fd ds,FnOk P w K mg base CX k f fd ps sp/\mg x=some (.ref f)/\PySem.W.keepIn K (.ref f)=true/\Binds K fd ps ds/\Vals dvs ds
section
variable {P:Program} {w:World} {K:PySem.W.Frag} {mg:Str->Option Value} {base:Heap}
theorem At.ok {x:Str} {st:Stmt} {N ps:List Str} {dvs:List V} {k:Nat} {sp:Sp} (F:At K mg x st ps dvs) (S:FnScope N ps (jad st)) (len:∀vs H Q E,sp vs H Q E->vs.length=ps.length)
  (hbody:∀(f:Addr) (cdv:Value) (A:Around) (outer:List Env) (s:Shared) (H:Hp) (vs:List V) (Q:VK) (E:XK),Room k (A.deeper (envOfC x (jad st) s.heap.objs.size f cdv))->sp vs H Q E ->
   ∃t,PSs (jgj CX0 P w K mg base N x (jad st) f cdv A outer s H E).nox (jaZ st) t/\t { nx:=fun _ H'=>Q .non H',rt:=Q } (jbQ N vs) H):jap P w K mg base CX0 (k+1) x ps dvs sp:=by
 obtain⟨f,fd,dV,ds,F1,hm,hb,hd⟩:=F;exact⟨f,fd,ds,F1.ok S len (hbody f),hm,F1.kp,hb,hd⟩
theorem At.okX {x:Str} {st:Stmt} {N ps:List Str} {dvs:List V} {k:Nat} {sp:Sp} (F:At K mg x st ps dvs) (S:FnScope N ps (jad st)) (len:∀vs H Q E,sp vs H Q E->vs.length=ps.length)
  (hbody:∀(f:Addr) (cdv:Value) (A:Around) (outer:List Env) (s:Shared) (H:Hp) (vs:List V) (Q:VK) (E:XK),Room k (A.deeper (envOfC x (jad st) s.heap.objs.size f cdv))->sp vs H Q E ->
   ∃t,PSs (cxX P w K mg base N x (jad st) f cdv A outer s H E) (jaZ st) t/\t { nx:=fun _ H'=>Q .non H',rt:=Q } (jbQ N vs) H):jap P w K mg base (XOk P w) (k+1) x ps dvs sp:=by
 obtain⟨f,fd,dV,ds,F1,hm,hb,hd⟩:=F;exact⟨f,fd,ds,F1.okX S len (hbody f),hm,F1.kp,hb,hd⟩
end
section
variable {X:Cx} {CX:CXT} {k:Nat} {ps:List Str} {sp:Sp} {dvs:List V} {E:XK} {x:Str} {p pos:Pos} {e:Expr} {es:List Expr} {t:TA}
theorem jai (D:jap X.prog X.w X.K X.mg X.base CX k x ps dvs sp) (hr:Room k X.A) (hg:Gl X x) (hx:jbS CX X E) (ha:PA X (e::es) t) (hdb:(x==("__debug__":Str))=false:=by decide)
  (he:starEach (e::es) X.env=(false,eval e X.env)::starEach es X.env:=by rfl) (hpl:(backTo pos (starEach es X.env)).any (·.1)=false:=by rfl):PE X (.Call (.Name x p) (e::es) [] pos) (jfN sp dvs E t):=by
 obtain⟨f,fd,ds,F,hm,hk,hb,hd⟩:=D;exact jlw F hr hg hm hk hb hd hx ha hdb he hpl
theorem ix_lt:IxR X (fun x y H Q=>rIxL X.K x y H Q\/jmE X.K x y H Q):=ix_list.or jau
theorem jlA:MtR X "int.bit_length" (fun x xs H Q=>∃i,x=.int i/\xs=[]/\Q (.int (Builtin.Int.intBits i:Nat)) H):=by
 intro pins s σ H x xs v us Q I rx rv h;obtain⟨i,rfl,rfl,q⟩:=h;obtain⟨t,rfl⟩:=rx;cases rv;refine wpAny_call (codeAny_call_builtin F.slot_int_bit_length.plain F.entry_int_bit_length (F.slot_int_bit_length.check _ _ _ _ _ _ _ _ (typeIs_int s i t) (F.args_int_bit_length_1 _) (AutoIntG2.int_bit_length_int_0 i t _ _ _ (wants _ _) s ?_)));exact⟨.int _,H,I.tok _,⟨_,rfl⟩,q⟩
end
theorem jkL {k:Nat} {A:Around} (hr:Room k A):A.units+64<cLine:=hr.units
theorem jjM {P:Program} {w:World} {X:Cx}:jbS (XOk P w) X (fun _ _ _=>False):=fun _ _ _ _ _ _ _ h=>by
 obtain⟨_,_,_,_,_,_,_,_,_,_,_,_,_,_,_,q⟩:=h;exact q.elim
theorem Same.tup {K:PySem.W.Frag} {H H':Hp} {a:Addr} {xs:List V} (e:Same H H') (h:SqT K H a xs):SqT K H' a xs:=by
 rcases h with (h | ⟨o,h⟩) | h
 ·exact .inl (.inl (e _ _ h))
 ·exact .inl (.inr ⟨o,e _ _ h⟩)
 ·exact .inr h
theorem Same.new {H:Hp} {p:Addr} (h:H p=none) (o:HO):Same H (upd H p o):=fun b u q=>by rw[jak (jal q h)];exact q
theorem at_mk {K:PySem.W.Frag} {h:Heap} {mg:Str->Option Value} {x:Str} {st:Stmt} {ps:List Str} {f:Addr} {oc kV doc pm cdv ct:Value} {od an:Option Addr} {osl:Array (Option Value)} (X:K.In h) (G:h.Ns mainGlobals mg)
  (hb:∀(kV doc pm:Value) (an:Option Addr) (cdv ct:Value) (us:List Value),us.length=ps.length->bindArgs (PySem.W.fnOf x x (jbH st) (jaZ st) (jad st) .none kV doc pm an cdv ct) ⟨us,[]⟩=pure (ps.zip us))
  (a:PySem.W.nsIn K mainGlobals x=some (some (.ref f))) (l:K.lookup f=some ⟨oc,od,.func (PySem.W.fnOf x x (jbH st) (jaZ st) (jad st) .none kV doc pm an cdv ct),osl⟩) (c:PySem.W.codeIn K cdv x=true) (k:PySem.W.keepIn K (.ref f)=true) :
  At K mg x st ps []:=⟨f,_,.none,[],jgo l c k,PySem.W.mg_of X G a,.all (hb kV doc pm an cdv ct),.nil⟩
section
variable {X:Cx} {st:Stmt} {jba:List Stmt} {t u:TS}
def Rest (M:St->Hp->Prop) (u:TS) (D:Ends):Prop:=∀σ' H',M σ' H'->u D σ' H'
def jmF (M:St->Hp->Prop) (t u:TS):TS:=fun D σ H=>t { D with nx:=M } σ H/\Rest M u D
theorem jbA (M:St->Hp->Prop) (h1:PS X st t) (h2:PSs X jba u):PSs X (st::jba) (jmF M t u):=by
  intro pins s σ H D I h;refine wpAny_execs_cons (thn (h1 pins s σ H { D with nx:=M } I h.1) fun f s1 q=>?_);cases f with
  | next =>
    obtain⟨σ',H',I',q⟩:=q;exact h2 pins s1 σ' H' D I' (h.2 σ' H' q)
  | ret v=>exact q
  | brk=>exact q
  | cont=>exact q
end
def Bd (n:Nat) (i:Int):Prop:=i.natAbs<2^n
theorem Bd.mul {n m:Nat} {i j:Int} (hi:Bd n i) (hj:Bd m j):Bd (n+m) (i*j):=by
 unfold Bd at *
 rw[Int.natAbs_mul,Nat.pow_add];exact Nat.mul_lt_mul_of_lt_of_le hi (xa1 hj) (Nat.two_pow_pos m)
theorem Bd.mono {n m:Nat} {i:Int} (hi:Bd n i) (h:n<=m:=by decide):Bd m i:=xah hi (xbl (by decide) h)
theorem Bd.add {n:Nat} {i j:Int} (hi:Bd n i) (hj:Bd n j):Bd (n+1) (i+j):=by
 unfold Bd at *
 rw[Nat.pow_succ];have:=Int.natAbs_add_le i j;omega
theorem Bd.sub {n:Nat} {i j:Int} (hi:Bd n i) (hj:Bd n j):Bd (n+1) (i-j):=by
 unfold Bd at *
 rw[Nat.pow_succ];have:=Int.natAbs_sub_le i j;omega
theorem Bd.neg {n:Nat} {i:Int} (hi:Bd n i):Bd n (-i):=by unfold Bd at *;rw[xbH];exact hi
theorem Bd.fit {n:Nat} {i:Int} (hi:Bd n i) (h:n<=8000:=by decide):Fit i:=xah hi (xbl (by decide) h)
theorem Bd.of {i:Int} (h1:-1606938044258990275541962092341162602522202993782792835301376<i) (h2:i<1606938044258990275541962092341162602522202993782792835301376):Bd 200 i:=by
 unfold Bd;have e:(2^200:Nat)=1606938044258990275541962092341162602522202993782792835301376:=by decide
 rw[e];omega
theorem Fit.o {i:Int} (h1:-1606938044258990275541962092341162602522202993782792835301376<i) (h2:i<1606938044258990275541962092341162602522202993782792835301376):Fit i:=(Bd.of h1 h2).fit
def gk {α:Type} (n m:Nat) (us ws:List α):List α:=if us.length=n/\ws.length=m then us++ws else []
def AtK (K:PySem.W.Frag) (mg:Str->Option Value) (x:Str) (st:Stmt) (ps ks:List Str) (n m:Nat):Prop :=
 ∃f fd dV,FunD K x x st f fd dV/\mg x=some (.ref f)/\KBinds K fd ps ks (gk n m) (gk n m)
def jm8 (P:Program) (w:World) (K:PySem.W.Frag) (mg:Str->Option Value) (base:Heap) (CX:CXT) (k:Nat) (x:Str) (ps ks:List Str) (n m:Nat) (sp:Sp):Prop :=
 ∃f fd,FnOk P w K mg base CX k f fd ps sp/\mg x=some (.ref f)/\PySem.W.keepIn K (.ref f)=true/\KBinds K fd ps ks (gk n m) (gk n m)
section
variable {P:Program} {w:World} {K:PySem.W.Frag} {mg:Str->Option Value} {base:Heap}
theorem AtK.okX {x:Str} {st:Stmt} {N ps ks:List Str} {n m k:Nat} {sp:Sp} (F:AtK K mg x st ps ks n m) (S:FnScope N ps (jad st)) (len:∀vs H Q E,sp vs H Q E->vs.length=ps.length)
  (hbody:∀(f:Addr) (cdv:Value) (A:Around) (outer:List Env) (s:Shared) (H:Hp) (vs:List V) (Q:VK) (E:XK),Room k (A.deeper (envOfC x (jad st) s.heap.objs.size f cdv))->sp vs H Q E ->
   ∃t,PSs (cxX P w K mg base N x (jad st) f cdv A outer s H E) (jaZ st) t/\t { nx:=fun _ H'=>Q .non H',rt:=Q } (jbQ N vs) H):jm8 P w K mg base (XOk P w) (k+1) x ps ks n m sp:=by
 obtain⟨f,fd,dV,F1,hm,hb⟩:=F;exact⟨f,fd,F1.okX S len (hbody f),hm,F1.kp,hb⟩
end
theorem jlB {X:Cx} {K:PySem.W.Frag} (h:X.K=K):IxR X (jmE K):=h▸jau
theorem jfj {X:Cx} {K:PySem.W.Frag} (h:X.K=K):IxR X (rIxL K):=h▸ix_list
end L2
namespace L2
open PySem
theorem ixT {K:PySem.W.Frag} {H:Hp} {r:Addr} {xs:List V} {i:Int} {v:V} {Q:VK} (k:SqT K H r xs) (e:atI xs i=some v) (q:Q v H):jmE K (.ref r) (.int i) H Q:=⟨r,xs,i,v,rfl,rfl,k,e,q⟩
theorem ixL {K:PySem.W.Frag} {H:Hp} {r:Addr} {xs:List V} {i:Int} {v:V} {Q:VK} (k:SqL K H r xs) (e:atI xs i=some v) (q:Q v H):rIxL K (.ref r) (.int i) H Q:=⟨r,xs,i,v,rfl,rfl,k,e,q⟩
def jjq (J:It) (g:TG) (tb:TS) (D:Ends) (σ:St) (H1:Hp):Prop:=∃W:Nat->Nat->St->Hp->Prop,(∃m,W 0 m σ H1)/\∀i m σ H,W i m σ H ->
 (J.stop i H/\D.nx σ H)\/(J.go i H/\∃N:St->Hp->Prop,(∀σ' H',N σ' H'->∃m',m'<m/\W (i+1) m' σ' H')/\∀x H',J.yld i H x H'->g x σ H' fun σ2 H2=>tb { D with nx:=N,ct:=N,bk:=D.nx } σ2 H2)
section
variable {K:PySem.W.Frag} {ta:TA} {tl:TE} {g:TG} {tb:TS} {D:Ends} {σ:St} {H:Hp} {ix:List Nat} {tt:TT} {te:TE} {Q:VK}
theorem jis:jkD (jlq ta) g tb D σ H=ta σ H fun vs H1=>∃j:Int,vs=[.int j]/\-(2^62)<=j/\j<2^62/\jjq (Itr 0 j.toNat) g tb D σ H1:=rfl
theorem jit:jkD (jlr ta) g tb D σ H=ta σ H fun vs H1=>∃i j:Int,vs=[.int i,.int j]/\(-(2^62)<=i/\i<2^62/\-(2^62)<=j/\j<2^62)/\jjq (Itr i (j-i).toNat) g tb D σ H1:=rfl
theorem jkM:jkD (jjy K tl) g tb D σ H=tl σ H fun x H1=>∃a,x=.ref a/\(∃xs,SqL K H1 a xs)/\jjq (Itl K a) g tb D σ H1:=rfl
theorem jkN:jkD (iTup K tl) g tb D σ H=tl σ H fun x H1=>∃a,x=.ref a/\(∃xs,SqT K H1 a xs)/\jjq (Itt K a) g tb D σ H1:=rfl
theorem jgP:jfW (jlq ta) ix g tt te σ H Q=ta σ H fun vs H1=>∃j:Int,vs=[.int j]/\-(2^62)<=j/\j<2^62/\∀acc,H1 acc=none->CompGo (Itr 0 j.toNat) (jaI σ ix) g tt te acc (fun H'=>Q (.ref acc) H') H1:=rfl
theorem jgQ:jfW (jlr ta) ix g tt te σ H Q=ta σ H fun vs H1=>∃i j:Int,vs=[.int i,.int j]/\(-(2^62)<=i/\i<2^62/\-(2^62)<=j/\j<2^62)/\∀acc,H1 acc=none->CompGo (Itr i (j-i).toNat) (jaI σ ix) g tt te acc (fun H'=>Q (.ref acc) H') H1:=rfl
theorem jiu:jfW (jjy K tl) ix g tt te σ H Q=tl σ H fun x H1=>∃a,x=.ref a/\(∃xs,SqL K H1 a xs)/\∀acc,H1 acc=none->CompGo (Itl K a) (jaI σ ix) g tt te acc (fun H'=>Q (.ref acc) H') H1:=rfl
theorem jiv:jfW (iTup K tl) ix g tt te σ H Q=tl σ H fun x H1=>∃a,x=.ref a/\(∃xs,SqT K H1 a xs)/\∀acc,H1 acc=none->CompGo (Itt K a) (jaI σ ix) g tt te acc (fun H'=>Q (.ref acc) H') H1:=rfl
theorem FoR.lst {P:Prop} {a:Addr} {xs:List V} (k:SqL K H a xs) (h:P):(∃xs,SqL K H a xs)/\P:=⟨⟨xs,k⟩,h⟩
theorem FoR.tup {P:Prop} {a:Addr} {xs:List V} (k:SqT K H a xs) (h:P):(∃xs,SqT K H a xs)/\P:=⟨⟨xs,k⟩,h⟩
theorem FoR.len {P:List V->Prop} {a:Addr} {xs:List V} (k:SqL K H a xs) (h:P xs):∃x,(SqL K H a x\/SqT K H a x)/\P x:=⟨xs,.inl k,h⟩
theorem FoR.lenT {P:List V->Prop} {a:Addr} {xs:List V} (k:SqT K H a xs) (h:P xs):∃x,(SqL K H a x\/SqT K H a x)/\P x:=⟨xs,.inr k,h⟩
end
end L2
namespace L2
open PySem PySem.Spec PyProof.Rows
theorem Same.keepN {H H':Hp} {p:Addr} (h:Same H H') (n:H p=none) (o:HO):Same H (upd H' p o):=fun b u q=>by rw[jak (jal q n)];exact h b u q
theorem Same.noneN {H H':Hp} {p:Addr} (h:Same H H') (n:H' p=none):H p=none:=by
  cases e:H p with
  | none=>rfl
  | some o =>
    have z:=h _ _ e;rw[n] at z;cases z
theorem jaH {n:Nat} (h:n<1000):n<sizeLine:=xah h (by decide)
section
variable {ρ:St} {te:TE} {tt:TT} {acc:Addr} {Z:Hp->Prop} {H1:Hp}
theorem jjN {lo:Int} {n:Nat} (f:Nat->V) (hn:n<1000) (hacc:H1 acc=none)
  (hs:∀(i:Nat) (H3:Hp) (R:V->Hp->Prop),i<n->Same H1 H3->(∀H4,Same H3 H4->R (f i) H4)->te (some (.int (lo+i))::ρ) H3 R)
  (hd:∀H',Same H1 H'->H' acc=some (.lst ((List.range n).map f))->Z H'):CompGo (Itr lo n) ρ (jbt 0) jb3 te acc Z H1:=by
 refine je1 (fun i xs H=>Same H1 H/\H acc=some (.lst xs)/\xs=(List.range i).map f) ⟨Same.new hacc _,jaf,rfl⟩ ?_ ?_
 ·rintro i xs H hi ⟨g1,g2,rfl⟩;refine hs i H _ hi g1 fun H4 s4=>⟨s4 _ _ g2,jaH ?_,Same.keepN (g1.trans s4) hacc _,jaf,?_⟩
  ·rw[xaa,xa2];omega
  ·rw[xbg,xal];rfl
 ·rintro xs H ⟨g1,g2,rfl⟩;exact hd H g1 g2
theorem jiw {lo:Int} {n:Nat} (f:Nat->V) (c:Nat->Bool) (hn:n<1000) (hacc:H1 acc=none)
  (ht:∀(i:Nat) (H3:Hp) (R:Bool->Hp->Prop),i<n->Same H1 H3->(∀H4,Same H3 H4->R (c i) H4)->tt (some (.int (lo+i))::ρ) H3 R)
  (hs:∀(i:Nat) (H3:Hp) (R:V->Hp->Prop),i<n->c i=true->Same H1 H3->(∀H4,Same H3 H4->R (f i) H4)->te (some (.int (lo+i))::ρ) H3 R)
  (hd:∀H',Same H1 H'->H' acc=some (.lst (((List.range n).filter c).map f))->Z H'):CompGo (Itr lo n) ρ (jbt 0) tt te acc Z H1:=by
 refine⟨fun i m xs H=>(Same H1 H/\H acc=some (.lst xs)/\xs=((List.range i).filter c).map f)/\i<=n/\m=n-i,⟨n,⟨Same.new hacc _,jaf,rfl⟩,xaG _,rfl⟩,?_⟩;rintro i m xs H ⟨⟨g1,g2,rfl⟩,hi,rfl⟩;have hl:(((List.range i).filter c).map f).length<sizeLine:=jaH (by
  rw[xaa];have:=xbh c (List.range i);rw[xa2] at this;omega)
 by_cases hlt:i<n
 ·refine .inr ⟨hlt,(fun y H4=>y=f i/\c i=true/\Same H1 H4/\H4 acc=some (.lst (((List.range i).filter c).map f))),fun H3=>c i=false/\Same H1 H3/\H3 acc=some (.lst (((List.range i).filter c).map f)),?_,?_,?_⟩
  ·rintro y H4 ⟨rfl,ci,s4,a4⟩;refine⟨a4,hl,n-(i+1),by omega,⟨Same.keepN s4 hacc _,jaf,?_⟩,hlt,rfl⟩;rw[xbg,xbr,xal,xbx,if_pos ci];rfl
  ·rintro H3 ⟨ci,s3,a3⟩;refine⟨n-(i+1),by omega,⟨s3,a3,?_⟩,hlt,rfl⟩;rw[xbg,xbr,xal,xbx,if_neg (by rw[ci];decide)];simp
  ·rintro v0 x H' ⟨rfl,rfl⟩;refine⟨⟨_,rfl⟩,ht i H' _ hlt g1 fun H4 s4=>?_⟩;cases ci:c i with
   | true=>exact if_pos rfl▸hs i H4 _ hlt ci (g1.trans s4) fun H5 s5=>⟨rfl,rfl,g1.trans (s4.trans s5),s5 _ _ (s4 _ _ g2)⟩
   | false=>exact⟨rfl,g1.trans s4,s4 _ _ g2⟩
 ·have:i=n:=by omega
  subst this;exact .inl ⟨xae _,hd H g1 g2⟩
theorem jm9 {K:PySem.W.Frag} {a:Addr} {zs:List V} (f:V->V) (hn:zs.length<1000) (hacc:H1 acc=none) (hz:SqT K H1 a zs)
  (hs:∀(z:V) (H3:Hp) (R:V->Hp->Prop),z∈zs->Same H1 H3->(∀H4,Same H3 H4->R (f z) H4)->te (some z::ρ) H3 R)
  (hd:∀H',Same H1 H'->H' acc=some (.lst (zs.map f))->Z H'):CompGo (Itt K a) ρ (jbt 0) jb3 te acc Z H1:=by
 refine jfi (zs:=zs) (fun i xs H=>Same H1 H/\H acc=some (.lst xs)/\xs=(zs.take i).map f) ⟨Same.new hacc _,jaf,rfl⟩ (fun i xs H _ h=>h.1.tup hz) ?_ ?_
 ·rintro i z xs H hi ⟨g1,g2,rfl⟩;refine hs z H _ (xas hi) g1 fun H4 s4=>⟨s4 _ _ g2,jaH ?_,Same.keepN (g1.trans s4) hacc _,jaf,?_⟩
  ·rw[xaa,xat];omega
  ·rw[xaH,hi,xal];rfl
 ·rintro xs H ⟨g1,g2,rfl⟩;rw[xaL] at g2;exact hd H g1 g2
theorem compL {K:PySem.W.Frag} {a:Addr} {zs:List V} (f:V->V) (hn:zs.length<1000) (hacc:H1 acc=none) (hz:SqL K H1 a zs)
  (hs:∀(z:V) (H3:Hp) (R:V->Hp->Prop),z∈zs->Same H1 H3->(∀H4,Same H3 H4->R (f z) H4)->te (some z::ρ) H3 R)
  (hd:∀H',Same H1 H'->H' acc=some (.lst (zs.map f))->Z H'):CompGo (Itl K a) ρ (jbt 0) jb3 te acc Z H1:=by
 refine jfX (zs:=zs) (fun i xs H=>Same H1 H/\H acc=some (.lst xs)/\xs=(zs.take i).map f) ⟨Same.new hacc _,jaf,rfl⟩ (fun i xs H _ h=>h.1.seq hz) ?_ ?_
 ·rintro i z xs H hi ⟨g1,g2,rfl⟩;refine hs z H _ (xas hi) g1 fun H4 s4=>⟨s4 _ _ g2,jaH ?_,Same.keepN (g1.trans s4) hacc _,jaf,?_⟩
  ·rw[xaa,xat];omega
  ·rw[xaH,hi,xal];rfl
 ·rintro xs H ⟨g1,g2,rfl⟩;rw[xaL] at g2;exact hd H g1 g2
end
section
variable {K:PySem.W.Frag} {H:Hp} {a b:Addr} {Q:VK}
theorem jfk (ns:List Int):SeqAt.shaped (.tuple (ns.map PyData.int))=true:=by
 simp [SeqAt.shaped,PyData.canLay0,PyData.depth,PySem.W.ke_canLayAll0,PySem.W.ke_depthAll]
theorem jjO {x y:List Int} (h1:SqT K H a (x.map V.int)) (h2:SqT K H b (y.map V.int)) (q:Q (.bl (decide (x=y))) H):jm6 K false (.ref a) (.ref b) H Q :=
 ⟨.tuple (x.map PyData.int),.tuple (y.map PyData.int),.tup h1 (RdsAll.ints _),.tup h2 (RdsAll.ints _),jfk _,jfk _,by
  have e:PyData.eqv (.tuple (x.map PyData.int)) (.tuple (y.map PyData.int))=decide (x=y):=PySem.W.ked_eqvAll x y;simp only[Bool.false_eq_true,if_false,e];exact q⟩
theorem jgR {x y:List Int} (h1:SqT K H a (x.map V.int)) (h2:SqT K H b (y.map V.int)) (q:Q (.bl (!decide (x=y))) H):jm6 K true (.ref a) (.ref b) H Q :=
 ⟨.tuple (x.map PyData.int),.tuple (y.map PyData.int),.tup h1 (RdsAll.ints _),.tup h2 (RdsAll.ints _),jfk _,jfk _,by
  have e:PyData.eqv (.tuple (x.map PyData.int)) (.tuple (y.map PyData.int))=decide (x=y):=PySem.W.ked_eqvAll x y;simp only[if_true,e];exact q⟩
theorem FoR.app {X:Prop} {L:Addr} {ps:List V} {x:V} {R:VK} (h:H L=some (.lst ps)) (hl:ps.length<sizeLine) (q:R .non (upd H L (.lst (ps++[x])))):((∃xs,SqL K H L xs)\/X)/\jii (.ref L) [x] H R :=
 ⟨.inl ⟨_,SqL.of h⟩,L,ps,x,rfl,rfl,h,hl,q⟩
end
theorem FoR.tupOf {K:PySem.W.Frag} {H:Hp} {p:Addr} {ys:List V} {X:Prop} {R:Addr->Hp->Prop} (k:SqL K H p ys) (h:∀t H',Same H H'->H' t=some (.tup ys)->R t H'):∃ys,(SqL K H p ys/\∀l,H l=none->R l (upd H l (.tup ys)))\/(SqT K H p ys/\R p H) :=
 ⟨ys,.inl ⟨k,fun l hl=>h l _ (Same.new hl _) jaf⟩⟩
theorem jbh {es:List Expr} {k:Nat} {jba:List Expr} {pos:Pos} {env:Env}:starEach (.Tuple es k pos::jba) env=(false,eval (.Tuple es k pos) env)::starEach jba env:=by
 rw[starEach];intro e p h;cases h
theorem jaj {c:Const} {k:Nat} {jba:List Expr} {pos:Pos} {env:Env}:starEach (.Constant c k pos::jba) env=(false,eval (.Constant c k pos) env)::starEach jba env:=by
 rw[starEach];intro e p h;cases h
theorem se_un {op:UnaryOp} {a:Expr} {jba:List Expr} {pos:Pos} {env:Env}:starEach (.UnaryOp op a pos::jba) env=(false,eval (.UnaryOp op a pos) env)::starEach jba env:=by
 rw[starEach];intro e p h;cases h
theorem jah {x:Str} {jba:List Expr} {pos:Pos} {env:Env}:starEach (.Name x pos::jba) env=(false,eval (.Name x pos) env)::starEach jba env:=by
 rw[starEach];intro e p h;cases h
theorem jaJ {a:Expr} {es:List Expr} {ks:List Keyword} {jba:List Expr} {pos:Pos} {env:Env}:starEach (.Call a es ks pos::jba) env=(false,eval (.Call a es ks pos) env)::starEach jba env:=by
 rw[starEach];intro e p h;cases h
theorem jaX {a b:Expr} {op:Operator} {jba:List Expr} {pos:Pos} {env:Env}:starEach (.BinOp a op b pos::jba) env=(false,eval (.BinOp a op b pos) env)::starEach jba env:=by
 rw[starEach];intro e p h;cases h
theorem jaD {a b:Expr} {jba:List Expr} {pos:Pos} {env:Env}:starEach (.Subscript a b pos::jba) env=(false,eval (.Subscript a b pos) env)::starEach jba env:=by
 rw[starEach];intro e p h;cases h
theorem jkO {es:List Expr} {jba:List Expr} {pos:Pos} {env:Env}:starEach (.List es pos::jba) env=(false,eval (.List es pos) env)::starEach jba env:=by
 rw[starEach];intro e p h;cases h
theorem jcr {a:Expr} {gs:List Comprehension} {sc:Scope} {jba:List Expr} {pos:Pos} {env:Env}:starEach (.ListComp a gs sc pos::jba) env=(false,eval (.ListComp a gs sc pos) env)::starEach jba env:=by
 rw[starEach];intro e p h;cases h
theorem jlC {a:Expr} {os:List CmpOp} {es:List Expr} {jba:List Expr} {pos:Pos} {env:Env}:starEach (.Compare a os es pos::jba) env=(false,eval (.Compare a os es pos) env)::starEach jba env:=by
 rw[starEach];intro e p h;cases h
structure WE (X:Cx) (e:Expr) (t:TE):Prop where
 h:PE X e t
structure WA (X:Cx) (es:List Expr) (t:TA):Prop where
 h:PA X es t
structure WS (X:Cx) (st:Stmt) (t:TS):Prop where
 h:PS X st t
structure WSs (X:Cx) (st:List Stmt) (t:TS):Prop where
 h:PSs X st t
section
variable {X:Cx} {pos:Pos}
theorem jdn {st:Stmt} {jba:List Stmt} {t u:TS} (h1:WS X st t) (h2:WSs X jba u):WSs X (st::jba) (jlp t u):=⟨jae h1.h h2.h⟩
theorem jgp {st:Stmt} {jba:List Stmt} {t u:TS} (M:St->Hp->Prop) (h1:WS X st t) (h2:WSs X jba u):WSs X (st::jba) (jmF M t u):=⟨jbA M h1.h h2.h⟩
theorem jkP {tg e:Expr} {te:TE} {g:TG} (he:WE X e te) (hg:PG X tg g) (hs:swapsWithSole [tg] e pos.line X.env=pure false:=by rfl) (hw:swappedStores [tg] e X.env=pure none:=by rfl)
  (h1:(assignEach [tg] X.env).map (·.2)=[assign tg X.env]:=by rfl):WS X (.Assign [tg] e pos) (jkC te g):=⟨jgH he.h hg hs hw h1⟩
theorem we_ix {r:R2} {a b:Expr} {ta tb:TE} (hr:IxR X r) (ha:WE X a ta) (hb:PE X b tb) (hs:jig b):WE X (.Subscript a b pos) (tOp r ta tb):=⟨jar hr ha.h hb hs⟩
theorem jix {es:List Expr} {t:TA} (h:WA X es t):WE X (.List es pos) (jmD t):=⟨jaV h.h⟩
theorem jbv {es:List Expr} {k:Nat} {t:TA} (h:WA X es t):WE X (.Tuple es k pos) (jmC t):=⟨jbG h.h⟩
theorem jbb:WA X [] jgN:=⟨jac⟩
theorem jam {e:Expr} {es:List Expr} {te:TE} {t:TA} (ha:WE X e te) (hr:WA X es t) (hs:starEach (e::es) X.env=(false,eval e X.env)::starEach es X.env):WA X (e::es) (jfM te t):=⟨jaa ha.h hr.h hs⟩
end
section
variable {P:Program} {w:World} {K:PySem.W.Frag} {mg:Str->Option Value} {base:Heap}
theorem At.okW {x:Str} {st:Stmt} {N ps:List Str} {dvs:List V} {k:Nat} {sp:Sp} (F:At K mg x st ps dvs) (S:FnScope N ps (jad st)) (len:∀vs H Q E,sp vs H Q E->vs.length=ps.length)
  (hbody:∀(f:Addr) (cdv:Value) (A:Around) (outer:List Env) (s:Shared) (H:Hp) (vs:List V) (Q:VK) (E:XK),Room k (A.deeper (envOfC x (jad st) s.heap.objs.size f cdv))->sp vs H Q E ->
   ∃t,WSs (jgj CX0 P w K mg base N x (jad st) f cdv A outer s H E).nox (jaZ st) t/\t { nx:=fun _ H'=>Q .non H',rt:=Q } (jbQ N vs) H):jap P w K mg base CX0 (k+1) x ps dvs sp :=
 F.ok S len fun f cdv A outer s H vs Q E hr h=>let ⟨t,h1,h2⟩:=hbody f cdv A outer s H vs Q E hr h;⟨t,h1.h,h2⟩
end
section
variable {X:Cx}
theorem jlD {K:PySem.W.Frag} (h:X.K=K) (hu:X.A.units+64<cLine):OpR X (compareOp .NotEq) (jm6 K true):=h▸je2 hu
end
section
variable {ρ:St} {te:TE} {tt:TT} {acc:Addr} {Z:Hp->Prop} {H1:Hp}
def SameT (H H':Hp):Prop:=∀a xs,H a=some (.tup xs)->H' a=some (.tup xs)
theorem Same.t {H H':Hp} (s:Same H H'):SameT H H':=fun a xs h=>s a _ h
theorem SameT.trans {H H' J:Hp} (s:SameT H H') (t:SameT H' J):SameT H J:=fun a xs h=>t a xs (s a xs h)
theorem SameT.refl (H:Hp):SameT H H:=fun _ _ h=>h
theorem SameT.upd {H:Hp} {a:Addr} {xs ys:List V} (h:H a=some (.lst xs)):SameT H (upd H a (.lst ys)):=fun b zs hb=>by
 have ne:b≠a:=fun e=>by
  subst e;rw[h] at hb;cases hb
 rw[jak ne];exact hb
def Stab (p:Nat->V->Hp->Prop):Prop:=∀i y H H',p i y H->SameT H H'->p i y H'
theorem jlE {p:Nat->V->Hp->Prop} {xs:List V} {y:V} {i:Nat} {H:Hp} (hl:xs.length=i) (hp:∀j z,xs[j]?=some z->p j z H) (py:p i y H):∀j z,(xs++[y])[j]?=some z->p j z H:=fun j z hz=>by
 by_cases cj:j<xs.length
 ·rw[xaO cj] at hz;exact hp j z hz
 ·have cj2:j<(xs++[y]).length:=(xaj.mp hz).1;rw[xaf] at cj2;have e:j=i:=by
   have:j<xs.length+1:=cj2;omega
  subst e;rw[xaI (by omega),hl,Nat.sub_self] at hz;cases hz;exact py
theorem jf0 {K:PySem.W.Frag} {a:Addr} {zs:List V} (p:Nat->V->Hp->Prop) (st:Stab p) (hn:zs.length<1000) (hacc:H1 acc=none) (hz:SqL K H1 a zs)
  (hs:∀(i:Nat) (z:V) (H3:Hp) (R:V->Hp->Prop),zs[i]?=some z->Same H1 H3->(∀y H4,Same H3 H4->p i y H4->R y H4)->te (some z::ρ) H3 R)
  (hd:∀ys H',Same H1 H'->H' acc=some (.lst ys)->ys.length=zs.length->(∀i y,ys[i]?=some y->p i y H')->Z H'):CompGo (Itl K a) ρ (jbt 0) jb3 te acc Z H1:=by
 refine jfX (zs:=zs) (fun i xs H=>Same H1 H/\H acc=some (.lst xs)/\xs.length=i/\∀j y,xs[j]?=some y->p j y H) ⟨Same.new hacc _,jaf,rfl,fun j y h=>by simp at h⟩ (fun i xs H _ h=>h.1.seq hz) ?_ ?_
 ·rintro i z xs H hi ⟨g1,g2,hl,hp⟩;have hlt:=(xaj.mp hi).1;refine hs i z H _ hi g1 fun y H4 s4 py=>⟨s4 _ _ g2,jaH (by omega),Same.keepN (g1.trans s4) hacc _,jaf,?_,?_⟩
  ·rw[xaf,hl];rfl
  ·have u:=SameT.upd (ys:=xs++[y]) (s4 _ _ g2);exact jlE hl (fun j z hz=>st _ _ _ _ (hp j z hz) (s4.t.trans u)) (st _ _ _ _ py u)
 ·rintro xs H ⟨g1,g2,hl,hp⟩;exact hd xs H g1 g2 hl hp
theorem jna {K:PySem.W.Frag} {a:Addr} {zs:List V} (p:Nat->V->Hp->Prop) (st:Stab p) (hn:zs.length<1000) (hacc:H1 acc=none) (hz:SqT K H1 a zs)
  (hs:∀(i:Nat) (z:V) (H3:Hp) (R:V->Hp->Prop),zs[i]?=some z->Same H1 H3->(∀y H4,Same H3 H4->p i y H4->R y H4)->te (some z::ρ) H3 R)
  (hd:∀ys H',Same H1 H'->H' acc=some (.lst ys)->ys.length=zs.length->(∀i y,ys[i]?=some y->p i y H')->Z H'):CompGo (Itt K a) ρ (jbt 0) jb3 te acc Z H1:=by
 refine jfi (zs:=zs) (fun i xs H=>Same H1 H/\H acc=some (.lst xs)/\xs.length=i/\∀j y,xs[j]?=some y->p j y H) ⟨Same.new hacc _,jaf,rfl,fun j y h=>by simp at h⟩ (fun i xs H _ h=>h.1.tup hz) ?_ ?_
 ·rintro i z xs H hi ⟨g1,g2,hl,hp⟩;have hlt:=(xaj.mp hi).1;refine hs i z H _ hi g1 fun y H4 s4 py=>⟨s4 _ _ g2,jaH (by omega),Same.keepN (g1.trans s4) hacc _,jaf,?_,?_⟩
  ·rw[xaf,hl];rfl
  ·have u:=SameT.upd (ys:=xs++[y]) (s4 _ _ g2);exact jlE hl (fun j z hz=>st _ _ _ _ (hp j z hz) (s4.t.trans u)) (st _ _ _ _ py u)
 ·rintro xs H ⟨g1,g2,hl,hp⟩;exact hd xs H g1 g2 hl hp
theorem jiy {K:PySem.W.Frag} {a:Addr} {zs:List V} (f:Nat->V) (c:Nat->Bool) (hn:zs.length<1000) (hacc:H1 acc=none) (hz:SqL K H1 a zs)
  (ht:∀(i:Nat) (z:V) (H3:Hp) (R:Bool->Hp->Prop),zs[i]?=some z->Same H1 H3->(∀H4,Same H3 H4->R (c i) H4)->tt (some z::ρ) H3 R)
  (hs:∀(i:Nat) (z:V) (H3:Hp) (R:V->Hp->Prop),zs[i]?=some z->c i=true->Same H1 H3->(∀H4,Same H3 H4->R (f i) H4)->te (some z::ρ) H3 R)
  (hd:∀H',Same H1 H'->H' acc=some (.lst (((List.range zs.length).filter c).map f))->Z H'):CompGo (Itl K a) ρ (jbt 0) tt te acc Z H1:=by
 refine⟨fun i m xs H=>(Same H1 H/\H acc=some (.lst xs)/\xs=((List.range i).filter c).map f)/\i<=zs.length/\m=zs.length-i,⟨zs.length,⟨Same.new hacc _,jaf,rfl⟩,xaG _,rfl⟩,?_⟩;rintro i m xs H ⟨⟨g1,g2,rfl⟩,hi,rfl⟩;have sq:=g1.seq hz;have hl:(((List.range i).filter c).map f).length<sizeLine:=jaH (by
  rw[xaa];have:=xbh c (List.range i);rw[xa2] at this;omega)
 by_cases hlt:i<zs.length
 ·have ez:zs[i]?=some zs[i]:=xab hlt;refine .inr ⟨⟨zs,zs[i],sq,ez⟩,(fun y H4=>y=f i/\c i=true/\Same H1 H4/\H4 acc=some (.lst (((List.range i).filter c).map f))),fun H3=>c i=false/\Same H1 H3/\H3 acc=some (.lst (((List.range i).filter c).map f)),?_,?_,?_⟩
  ·rintro y H4 ⟨rfl,ci,s4,a4⟩;refine⟨a4,hl,zs.length-(i+1),by omega,⟨Same.keepN s4 hacc _,jaf,?_⟩,hlt,rfl⟩;rw[xbg,xbr,xal,xbx,if_pos ci];rfl
  ·rintro H3 ⟨ci,s3,a3⟩;refine⟨zs.length-(i+1),by omega,⟨s3,a3,?_⟩,hlt,rfl⟩;rw[xbg,xbr,xal,xbx,if_neg (by rw[ci];decide)];simp
  ·rintro v0 x H' ⟨rfl,hx⟩;have ex:x=zs[i]:=by
    have z:=hx zs sq;rw[ez] at z;exact (Option.some.inj z).symm
   subst ex;refine⟨⟨_,rfl⟩,ht i _ H' _ ez g1 fun H4 s4=>?_⟩;cases ci:c i with
   | true=>exact if_pos rfl▸hs i _ H4 _ ez ci (g1.trans s4) fun H5 s5=>⟨rfl,rfl,g1.trans (s4.trans s5),s5 _ _ (s4 _ _ g2)⟩
   | false=>exact⟨rfl,g1.trans s4,s4 _ _ g2⟩
 ·have:i=zs.length:=by omega
  subst this;exact .inl ⟨⟨zs,sq,xae _⟩,hd H g1 g2⟩
end
section
variable {X:Cx} {tg:Expr}
def Asc (x:Str):Prop:=(x.cps.all fun c=>decide (c<128))=true
def Its (x:Str):It:=⟨fun i _=>i<x.cps.size,fun i H v H'=>H'=H/\∃c,x.cps[i]?=some c/\v=.str ⟨#[c]⟩,fun i _=>x.cps.size<=i⟩
theorem jjP {P:Program} {w:World} {K:PySem.W.Frag} {tg:Expr} (it:Addr) (x:Str) (t:Tok):Turn P w K tg (Its x) [it] it (fun i h=>h.IsStrIter it "str_ascii_iterator" x t i) where
 mem:=by simp
 obj:=fun i h st b hb=>by
  have e:b=it:=by simpa using hb
  subst e;obtain⟨o,e,c,d⟩:=st;exact⟨o,e,fun v z=>by rw[d] at z;cases z⟩
 keep:=fun i h h' st k=>by
  obtain⟨o,e,c,d⟩:=st;exact⟨o,k it (by simp) o e,c,d⟩
 item:=by
  intro X hP hw hK hc i pins s σ H E I hf st hg;subst hP hw hK;have hg':i<x.cps.size:=hg;have hx:x.cps[i]?=some x.cps[i]:=Array.getElem?_eq_getElem hg';obtain⟨f0,f1,f2,f3,f4,f5⟩:=hf it (by simp);refine wpAny_pyNext_ascii_item st hx fun h' st' sb=>?_;have I1:Inv X pins σ H { s with heap:=h',toks:=s.toks+1 }:=I.turned (fun b o hb e=>(sb.2 b hb).trans e) f0 f1 f3 f4 f5;obtain⟨o,e,c,d⟩:=id st';exact⟨_,rfl,jjx (s:={ s with heap:=h',toks:=s.toks+1 }) e c d (by decide) ⟨.str ⟨#[x.cps[i]]⟩,H,I1,⟨_,rfl⟩,⟨rfl,_,hx,rfl⟩,st',fun b hb=>(hf b hb).1⟩⟩
 done:=by
  intro X hP hw hK hc i pins s σ H E I hf st hg;subst hP hw hK;have hg':x.cps.size<=i:=hg;obtain⟨f0,f1,f2,f3,f4,f5⟩:=hf it (by simp);exact wpAny_pyNext_ascii_end (I.ok.hd hc) st (by simpa using hg') fun h' eb=>⟨rfl,I.turned (t':=s.toks) (fun b o hb e=>eb b o hb e) f0 f1 f3 f4 f5⟩
 self:=fun _ _ _ _ _ st h=>wpAny_pyIter_striter_ascii st h
def iStr (tl:TE):TI:=fun σ H R=>tl σ H fun v H1=>∃x,v=.str x/\Asc x/\R (Its x) H1
theorem jkQ {l:Expr} {tl:TE} (hl:PE X l tl):PI X tg l (iStr tl):=by
 intro pins s σ H R I h;refine thn (hl pins s σ H _ I h) fun v s1 ⟨x,H1,I1,r1,q1⟩=>?_;obtain⟨y,e,ha,q⟩:=q1;subst e;obtain⟨t,rfl⟩:=r1;refine wpAny_pyIter_ascii ha ?_;refine⟨s1.heap.objs.size,[s1.heap.objs.size],_,_,H1,rfl,I1.kept (t':=s1.toks) fun b o e=>Heap.get?_push_of_some _ e,jjP _ y t,⟨_,Heap.get?_push_size _ rfl,rfl,rfl⟩,fun b hb=>?_,q⟩;have e:b=s1.heap.objs.size:=by simpa using hb
 subst e;exact I1.fpOk (xae _) (I1.hok.fresh (xae _))
theorem jf1:OpR X (compareOp .LtE) (fun x y H Q=>∃i j,x=.str i/\y=.str j/\Q (.bl (!decide (j.cps.toList<i.cps.toList))) H):=by
 intro pins s σ H x y v u Q I rx ry h;obtain⟨i,j,rfl,rfl,q⟩:=h;obtain⟨t,rfl⟩:=rx;obtain⟨t',rfl⟩:=ry;exact PySem.P.le_str (jaM I q rfl)
end
section
variable {X:Cx} {e:Expr} {lo hi:Option Expr} {te:TE} {tl th:TO} {pos p2:Pos}
theorem jlF {pins:List (Addr × Obj)} {σ:St} {H:Hp} {s:Shared} {z:Str} {t:Tok} {vl vu:Value} {l u:Option Int} {Q:VK} (I:Inv X pins σ H s) (hz:z.length<=sizeLine) (pl:IsPart vl l) (pu:IsPart vu u) (h:l=none/\u≠none\/l≠none/\u=none) (q:Q (.str (Txt.slice z l u)) H) :
    ItemOn (model X.prog X.w) X.A X.xe (.str z t) (.ref s.heap.objs.size) (EP X pins σ Q) { s with heap:=s.heap.push { cls:=.type "slice",data:=.fields #[vl,vu,.none] } }:=by
  cases pl with
  | none =>
    cases pu with
    | none=>simp at h
    | int j tj=>exact SBH.sliceItem_ns (P:=fun h'=>∀b o,s.heap.get? b=some o->h'.get? b=some o) (fun h ob p b o e=>Heap.get?_push_of_some _ (p b o e)) (fun b o e=>e) (fun h' t' k p=>⟨.str _,H,I.kept p,⟨_,rfl⟩,q⟩) hz
  | int i t1 =>
    cases pu with
    | none=>exact SBH.sliceItem_sn (P:=fun h'=>∀b o,s.heap.get? b=some o->h'.get? b=some o) (fun h ob p b o e=>Heap.get?_push_of_some _ (p b o e)) (fun b o e=>e) (fun h' t' k p=>⟨.str _,H,I.kept p,⟨_,rfl⟩,q⟩) hz
    | int j tj=>simp at h
def rSlS:V->Option Int->Option Int->Hp->VK->Prop:=fun x l u H Q=>∃z,x=.str z/\z.length<=sizeLine/\(l=none/\u≠none\/l≠none/\u=none)/\Q (.str (Txt.slice z l u)) H
theorem jf2 (he:PE X e te) (hl:PO X lo tl) (hu:PO X hi th):PE X (.Subscript e (.Slice lo hi none p2) pos) (tSl rSlS te tl th):=by
 intro pins s σ H Q I h;refine Subscript_ (thn (he pins s σ H _ I h) fun v s1 ⟨x,H1,I1,r1,q1⟩=>?_);refine wpAny_Slice (thn (hl pins s1 σ H1 _ I1 q1) fun vl s2 ⟨l,H2,I2,pl,q2⟩=>thn (hu pins s2 σ H2 _ I2 q2) fun vu s3 ⟨u,H3,I3,pu,q3⟩=>?_);rw[evalPart_none];refine wpAny_pure ?_;obtain⟨z,rfl,hz,hh,q⟩:=q3;obtain⟨t,rfl⟩:=r1;obtain⟨T,id,hT,ht,hg⟩:=jlF (t:=t) I3 hz pl pu hh q;show wpAny (model X.prog X.w) X.A (subscriptTail e (.Slice lo hi none p2) (.str z t) (.ref s3.heap.objs.size)) (EP X pins σ Q) X.xe { s3 with heap:=s3.heap.push { cls:=.type "slice",data:=.fields #[vl,vu,.none] } };exact tail_any (ops:=[.ref s3.heap.objs.size,.str z t]) ht hT hg (by with_unfolding_all rfl)
end
section
variable {tl:TE} {g:TG} {tb:TS} {D:Ends} {σ:St} {H:Hp} {ix:List Nat} {tt:TT} {te:TE} {Q:VK}
theorem jkR:jkD (iStr tl) g tb D σ H=tl σ H fun v H1=>∃x,v=.str x/\Asc x/\jjq (Its x) g tb D σ H1:=rfl
theorem jiz:jfW (iStr tl) ix g tt te σ H Q=tl σ H fun v H1=>∃x,v=.str x/\Asc x/\∀acc,H1 acc=none->CompGo (Its x) (jaI σ ix) g tt te acc (fun H'=>Q (.ref acc) H') H1:=rfl
end
section
variable {ρ:St} {te:TE} {acc:Addr} {Z:Hp->Prop} {H1:Hp}
theorem jlG {x:Str} (f:Nat->V) (hn:x.cps.size<1000) (hacc:H1 acc=none)
  (hs:∀(c:Nat) (H3:Hp) (R:V->Hp->Prop),c∈x.cps.toList->Same H1 H3->(∀H4,Same H3 H4->R (f c) H4)->te (some (.str ⟨#[c]⟩)::ρ) H3 R)
  (hd:∀H',Same H1 H'->H' acc=some (.lst (x.cps.toList.map f))->Z H'):CompGo (Its x) ρ (jbt 0) jb3 te acc Z H1:=by
 have hl:x.cps.toList.length=x.cps.size:=Array.length_toList;refine⟨fun i m xs H=>(Same H1 H/\H acc=some (.lst xs)/\xs=(x.cps.toList.take i).map f)/\i<=x.cps.size/\m=x.cps.size-i,⟨x.cps.size,⟨Same.new hacc _,jaf,rfl⟩,xaG _,rfl⟩,?_⟩;rintro i m xs H ⟨⟨g1,g2,rfl⟩,hi,rfl⟩;by_cases hlt:i<x.cps.size
 ·refine .inr ⟨hlt,(fun y H4=>y=f x.cps[i]/\Same H1 H4/\H4 acc=some (.lst ((x.cps.toList.take i).map f))),fun _=>False,?_,fun _ z=>z.elim,?_⟩
  ·rintro y H4 ⟨rfl,s4,a4⟩;refine⟨a4,jaH (by rw[xaa,xat];omega),x.cps.size-(i+1),by omega,⟨Same.keepN s4 hacc _,jaf,?_⟩,hlt,rfl⟩;have ez:x.cps.toList[i]?=some x.cps[i]:=by simp [hlt]
   rw[xaH,ez,xal];rfl
  ·rintro v0 v H' ⟨rfl,c,hc,rfl⟩;have ec:c=x.cps[i]:=by
    rw[Array.getElem?_eq_getElem hlt] at hc;exact (Option.some.inj hc).symm
   subst ec;refine⟨⟨_,rfl⟩,?_⟩;simp only[jb3,if_true];exact hs _ H' _ (by simp) g1 fun H4 s4=>⟨rfl,g1.trans s4,s4 _ _ g2⟩
 ·have:i=x.cps.size:=by omega
  subst this;rw[<- hl,xaL] at g2;exact .inl ⟨xae _,hd H g1 g2⟩
end
theorem jlH:typeLookup (.type "list_reverseiterator") "__len__"=pure none:=by with_unfolding_all rfl
theorem jjQ:typeLookup (.type "list_reverseiterator") "__length_hint__"=pure (some (.builtin "list_reverseiterator.__length_hint__")):=by with_unfolding_all rfl
theorem jjR {M:Model} {A:Around} {E:Value->Shared->Prop} {s:Shared} {Q:Bool->Shared->Prop} {I l:Addr} {i:Int} (h:s.heap.IsRevIter I l i) (q:Q false s):wpAny M A (Builtin.List.listLengthHint (.ref I)) Q E s:=by
 obtain⟨o,ho,hc,hd⟩:=h;have ty:s.TypeIs (.ref I) "list_reverseiterator":=⟨o,ho,hc⟩;unfold Builtin.List.listLengthHint;refine wpAny_bind (wpAny_specialOf ty jlH ?_);dsimp only;refine wpAny_ite_split (fun c=>absurd c (by decide)) fun _=>?_;refine wpAny_ite_split (fun c=>absurd c (by decide)) fun _=>?_;refine wpAny_bind (wpAny_specialOf ty jjQ ?_);dsimp only;have sp:splitId "list_reverseiterator.__length_hint__"=some ("list_reverseiterator","__length_hint__"):=by decide +kernel
 rw[sp];dsimp only;refine wpAny_bind (wpAny_isInstance (b:=true) ty (by with_unfolding_all rfl) ?_);refine wpAny_ite_split (fun c=>absurd c (by decide)) fun _=>?_;refine wpAny_ite_split (fun c=>?_) fun c=>absurd c (by decide);refine wpAny_ite_split (fun c=>absurd c (by decide)) fun _=>?_;exact wpAny_pure q
theorem jhF {prog:Program} {w:World} {A:Around} {s:Shared} {R:Result->Shared->Prop} {I l:Addr} {items:Array Value} (hh:A.handled=none) (hne:l≠I) (S:Addr) (res:Value) (c₀:Nat) (hI:s.heap.IsRevIter I l ((items.size:Int)-1)) (hl:s.heap.IsList l items) (hS:S≠I) (hSl:S≠l)
  (e:s.heap.get? S=some { cls:=.type "list",data:=.seq #[] c₀ }) (hz:items.size<=sizeLine)
  (q:∀(h':Heap) (tk:Nat) (acc':Array Value) (c':Nat),(∀b o,b≠S->b≠I->s.heap.get? b=some o->h'.get? b=some o)->h'.get? S=some { cls:=.type "list",data:=.seq acc' c' }->ItemsOf (fun i v=>items[items.size-1-i]?=some v) acc' items.size->R (.ok (.ret res)) { s with heap:=h',toks:=tk }) :
  wpAny (model prog w) A.in1 (Builtin.List.listExtendWith (.ref S) (.ref I) res)
   (fun fin s'=>match fin with | .done f=>R (.ok f) s' | .again c'=>c'.quiet=true/\codeAny (model prog w) A c' R s') (fun e s'=>R (.error e) s') s:=by
 obtain⟨o,ho,hc,hd⟩:=id hI;have ty:s.TypeIs (.ref I) "list_reverseiterator":=⟨o,ho,hc⟩;unfold Builtin.List.listExtendWith;refine wpAny_bind (wpAny_typeOf ty ?_);refine wpAny_ite_split (fun c=>?_) fun _=>?_
 ·exfalso;have e1:Builtin.List.listSameRef (.ref S) (.ref I)=false:=by
   simp [Builtin.List.listSameRef,hS]
  rw[e1] at c
  revert c
  decide
 refine wpAny_bind (wpAny_pyIter_revIter hI ?_);refine wpAny_bind (wpAny_holding (jjR hI ?_));refine wpAny_ite_split (fun c=>absurd c (by decide)) fun _=>?_;have W:=(Walks.listRev (prog:=prog) (w:=w) (A:=A.in1) hh I l hne items).toS;refine wpAny_pure ⟨plainId_quiet F.plain_extend_loop _,?_⟩;refine codeAny_extend_loopS W hz S (by simp [hS,hSl]) res items.size 0 s #[] c₀ rfl (xaG _) ⟨xaG _,by simpa using hI,hl⟩ e ⟨rfl,fun j v h=>by simp at h⟩ fun s' acc' c' mv e' it=>?_;have eq:=Moved.eq_with mv;rw[eq];exact q s'.heap s'.toks acc' c' (fun b o h1 h2 e=>mv.heap b o (by simp [h1,h2]) e) e' it
theorem jjS {prog:Program} {w:World} {A:Around} {s:Shared} {R:Result->Shared->Prop} {I l:Addr} {items:Array Value} (hh:A.handled=none) (hne:l≠I) (S:Addr) (hI:s.heap.IsRevIter I l ((items.size:Int)-1)) (hl:s.heap.IsList l items) (hS:S≠I) (hSl:S≠l)
  (e:s.heap.get? S=some { cls:=.type "list",data:=.seq #[] }) (hz:items.size<=sizeLine)
  (q:∀(h':Heap) (tk:Nat) (acc':Array Value) (c':Nat),(∀b o,b≠S->b≠I->s.heap.get? b=some o->h'.get? b=some o)->h'.get? S=some { cls:=.type "list",data:=.seq acc' c' }->ItemsOf (fun i v=>items[items.size-1-i]?=some v) acc' items.size->R (.ok (.ret .none)) { s with heap:=h',toks:=tk }) :
  wpAny (model prog w) A.in1 (Builtin.«list.__init__» { pos:=[.ref S,.ref I] })
   (fun fin s'=>match fin with | .done f=>R (.ok f) s' | .again c'=>c'.quiet=true/\codeAny (model prog w) A c' R s') (fun e s'=>R (.error e) s') s:=by
 unfold Builtin.«list.__init__»;dsimp only;refine wpAny_ite_split (fun c=>absurd c (by decide)) fun _=>?_;refine wpAny_ite_split (fun c=>absurd c (by simp)) fun _=>?_;refine wpAny_bind (wpAny_bind (wpAny_seqItems e rfl (wpAny_pure ?_)));refine wpAny_bind (wpAny_updateSeq e rfl ?_ (by simp) (by simp));refine wpAny_bind (wpAny_letGo ?_);have eS:=Heap.get?_update_self (Obj.mapSeq fun _=>(#[]:Array Value)) e rfl;have eO:∀b,b≠S->(s.heap.update S (Obj.mapSeq fun _=>(#[]:Array Value))).get? b=s.heap.get? b:=fun b hb=>Heap.get?_update_other s.heap _ (Ne.symm hb);obtain⟨o,ho,hc,hd⟩:=hI;obtain⟨o2,ho2,hc2,n2,hd2⟩:=hl;refine jhF (s:={ s with heap:=s.heap.update S (Obj.mapSeq fun _=>(#[]:Array Value)) }) (items:=items) hh hne S .none _ ⟨o,(eO I (Ne.symm hS)).trans ho,hc,hd⟩ ⟨o2,(eO l (Ne.symm hSl)).trans ho2,hc2,n2,hd2⟩ hS hSl eS hz fun h' tk acc' c' k e' it=>?_;exact q h' tk acc' c' (fun b o h1 h2 hb=>k b o h1 h2 ((eO b h1).trans hb)) e' it
theorem jfl {prog:Program} {w:World} {A:Around} {E:Value->Shared->Prop} {s:Shared} {Q:Value->Shared->Prop} {I l:Addr} {items:Array Value} (hh:A.handled=none) (hne:l≠I) (hI:s.heap.IsRevIter I l ((items.size:Int)-1)) (hl:s.heap.IsList l items) (hz:items.size<=sizeLine)
  (q:∀(h':Heap) (tk:Nat) (acc':Array Value) (c':Nat),(∀b o,b≠I->s.heap.get? b=some o->h'.get? b=some o)->h'.get? s.heap.objs.size=some { cls:=.type "list",data:=.seq acc' c' }->ItemsOf (fun i v=>items[items.size-1-i]?=some v) acc' items.size->Q (.ref s.heap.objs.size) { s with heap:=h',toks:=tk }) :
  wpAny (model prog w) A (call (.type "list") [.ref I]) Q E s:=by
 obtain⟨o,ho,hc,hd⟩:=hI;obtain⟨o2,ho2,hc2,n2,hd2⟩:=hl;have n1:s.heap.objs.size≠I:=Ne.symm (xaz (Heap.lt_size ho));have n2':s.heap.objs.size≠l:=Ne.symm (xaz (Heap.lt_size ho2));refine callType_codes F.called_list (F.typeCall_list_1 _) F.entry_list_init (Q₁:=fun obj s₁=>obj=.ref s.heap.objs.size/\s₁={ s with heap:=s.heap.push { cls:=.type "list",data:=.seq #[] } }) (code_list_new _ ⟨rfl,rfl⟩) ?_;rintro obj s₁ ⟨rfl,rfl⟩;have eS:(s.heap.push { cls:=.type "list",data:=.seq #[] }).get? s.heap.objs.size=some { cls:=.type "list",data:=.seq #[] }:=Heap.get?_push_size _ rfl;refine⟨⟨_,eS,rfl⟩,F.args_list_init_2 _ _,?_⟩;refine jjS (A:=A.in1) (s:={ s with heap:=s.heap.push { cls:=.type "list",data:=.seq #[] } }) (items:=items) hh hne s.heap.objs.size ⟨o,Heap.get?_push_of_some _ ho,hc,hd⟩ ⟨o2,Heap.get?_push_of_some _ ho2,hc2,n2,hd2⟩ n1 n2' eS hz fun h' tk acc' c' k e' it=>?_;exact⟨rfl,q h' tk acc' c' (fun b o h1 hb=>k b o (xaz (Heap.lt_size hb)) h1 (Heap.get?_push_of_some _ hb)) e' it⟩
theorem Vals.app {xs ys:List V} {us vs:List Value} (h:Vals xs us) (k:Vals ys vs):Vals (xs++ys) (us++vs):=by
 induction h with
 | nil=>exact k
 | cons r _ ih=>exact .cons r ih
theorem Vals.rev {xs:List V} {us:List Value} (h:Vals xs us):Vals xs.reverse us.reverse:=by
  induction h with
  | nil=>exact .nil
  | cons r _ ih =>
    rw[xba,xba];exact Vals.app ih (.cons r .nil)
theorem jiA {items acc:Array Value} (h:ItemsOf (fun i v=>items[items.size-1-i]?=some v) acc items.size):acc.toList=items.toList.reverse:=by
 obtain⟨h1,h2⟩:=h;refine xbw fun i=>?_;by_cases hi:i<items.size
 ·have e:acc[i]?=some acc[i]:=Array.getElem?_eq_getElem (by omega);have z:=h2 i _ e;rw[xbi (by rw[Array.length_toList];exact hi),Array.length_toList,Array.getElem?_toList,Array.getElem?_toList,e,z]
 ·rw[xaK (by rw[Array.length_toList];omega),xaK (by rw[xaV,Array.length_toList];omega)]
section
variable {X:Cx} {e:Expr} {te:TE} {p p' pos pos':Pos}
def jfm (K:PySem.W.Frag) (te:TE):TE:=fun σ H Q=>te σ H fun x H1=>∃a ys,x=.ref a/\SqL K H1 a ys/\∀l,H1 l=none->Q (.ref l) (upd H1 l (.lst ys.reverse))
theorem jhG (hc:X.calm=true) (hg:Gl X "list") (hm:X.mg "list"=none) (hg':Gl X "reversed") (hm':X.mg "reversed"=none) (he:PE X e te)
  (h1:starEach [e] X.env=[(false,eval e X.env)]:=by rfl) (h2:starEach [.Call (.Name "reversed" p') [e] [] pos'] X.env=[(false,eval (.Call (.Name "reversed" p') [e] [] pos') X.env)]:=by rfl) :
  PE X (.Call (.Name "list" p) [.Call (.Name "reversed" p') [e] [] pos'] [] pos) (jfm X.K te):=by
 intro pins s σ H Q I h;refine wpAny_Call_Name_kw (jdj I hg hm boot_list ?_);refine PyProof.Rows.callWith_type1 ?_ h2 rfl;rw[h2];show wpAny _ _ (spliced ((false,eval (.Call (.Name "reversed" p') [e] [] pos') X.env)::[])) _ _ s;refine Calls.spliced_cons ?_;refine wpAny_Call_Name_kw (jdj I hg' hm' boot_reversed ?_);refine PyProof.Rows.callWith_type1 ?_ h1 rfl;rw[h1];show wpAny _ _ (spliced ((false,eval e X.env)::[])) _ _ s;refine Calls.spliced_cons (thn (he pins s σ H _ I h) fun u s1 ⟨x,H1,I1,r1,q1⟩=>?_);obtain⟨a,ys,rfl,hq,q⟩:=q1;cases r1;obtain⟨its,rv,pl,hz⟩:=I1.list hq;have hlen:=rv.length;refine Calls.spliced_nil ?_;refine call_reversed_list pl.isList ?_;refine Calls.spliced_nil ?_;have hla:a<s1.heap.objs.size:=by
  obtain⟨o,ho,_⟩:=pl.isList;exact Heap.lt_size ho
 have hl':(s1.heap.push (revObj a ((its.toArray.size:Int)-1))).IsList a its.toArray:=by
  obtain⟨o,ho,hc',n,hd⟩:=pl.isList;exact⟨o,Heap.get?_push_of_some _ ho,hc',n,hd⟩
 refine jfl (I1.ok.hd hc) (xaz hla) ⟨_,Heap.get?_push_size _ rfl,rfl,rfl⟩ hl' (by rw[xai];omega) fun h' tk acc' c' k e' it=>?_;have er:=jiA it;rw[List.toList_toArray] at er;have kp:∀(b:Addr) (o:Obj),s1.heap.get? b=some o->h'.get? b=some o:=fun b o hb=>k b o (xaz (Heap.lt_size hb)) (Heap.get?_push_of_some _ hb);have sz:(s1.heap.push (revObj a ((its.toArray.size:Int)-1))).objs.size=s1.heap.objs.size+1:=by
  unfold Heap.push;exact Array.size_push ..
 have hle:s1.heap.objs.size<=(s1.heap.push (revObj a ((its.toArray.size:Int)-1))).objs.size:=by omega
 refine⟨.ref _,_,I1.laid (t':=tk) (o:=.lst ys.reverse) kp hle ?_,rfl,q _ (I1.hok.fresh hle)⟩;refine⟨by rw[xaV];exact hz,its.reverse,c',rv.rev,?_⟩;rw[e',<- er]
end
def jdG (J:It) (n:Nat) (ρ:St) (g:TG) (tt:TT) (te:TE) (acc:Addr) (Z:Hp->Prop) (H1:Hp):Prop :=
  ∃ W : Nat -> Nat -> List V -> Hp -> Prop, (∃ m, W 0 m [] (upd H1 acc (.lst []))) /\ ∀ i m xs H, W i m xs H ->
    ((J.stop i H /\ Z H) \/ (J.go i H /\ ∃ (Nx : V -> Hp -> Prop) (Nn : Hp -> Prop), (∀ y H4, Nx y H4 -> H4 acc = some (.lst xs) /\ xs.length < sizeLine /\ ∃ m', m' < m /\ W (i + 1) m' (xs ++ [y]) (upd H4 acc (.lst (xs ++ [y])))) /\
      (∀H3,Nn H3->∃m',m'<m/\W (i+1) m' xs H3)/\∀(v0:St) x H',v0.length=n->J.yld i H x H'->g x (v0++ρ) H' fun σ2 H2=>(∃v:St,v.length=n/\σ2=v++ρ)/\tt σ2 H2 fun b H3=>if b=true then te σ2 H3 Nx else Nn H3))
section
variable {X:Cx} {N' r xs0:List Str} {ix:List Nat} {cs:Scope} {tg iter elt:Expr} {ifs:List Expr} {pos:Pos} {wi:TI} {g:TG} {tt:TT} {te:TE}
def jkS (wi:TI) (ix:List Nat) (n:Nat) (g:TG) (tt:TT) (te:TE):TE:=fun σ H Q=>wi σ H fun J H1=>∀acc,H1 acc=none->jdG J n (jaI σ ix) g tt te acc (fun H'=>Q (.ref acc) H') H1
end
section
variable {K:PySem.W.Frag} {ta:TA} {tl:TE} {ix:List Nat} {n:Nat} {g:TG} {tt:TT} {te:TE} {σ:St} {H:Hp} {Q:VK}
theorem jgS:jkS (jjy K tl) ix n g tt te σ H Q=tl σ H fun x H1=>∃a,x=.ref a/\(∃xs,SqL K H1 a xs)/\∀acc,H1 acc=none->jdG (Itl K a) n (jaI σ ix) g tt te acc (fun H'=>Q (.ref acc) H') H1:=rfl
end
section
variable {X:Cx}
def rCatQ (K:PySem.W.Frag):R2:=fun x y H Q=>∃l b xs zs,x=.ref l/\y=.ref b/\SqL K H l xs/\SqL K H b zs/\xs.length+zs.length<=sizeLine/\∀p,H p=none->Q (.ref p) (upd H p (.lst (xs++zs)))
theorem jhH {prog:Program} {w:World} {A:Around} {E:Value->Shared->Prop} {s:Shared} {l b:Addr} {vs ws:List Value} {Q:Value->Shared->Prop} (h1:s.heap.IsList l vs.toArray) (h2:s.heap.IsList b ws.toArray) (hz:vs.length+ws.length<=sizeLine)
  (q:Q (.ref s.heap.objs.size) { s with heap:=s.heap.push { cls:=.type "list",data:=.seq (vs++ws).toArray } }):wpAny (model prog w) A (binaryOp .Add (.ref l) (.ref b)) Q E s:=by
 obtain⟨⟨cl,dd,da,sl⟩,ho,hc,n,hd⟩:=id h1;obtain⟨⟨cl2,dd2,da2,sl2⟩,ho2,hc2,n2,hd2⟩:=id h2;simp only at hc hd hc2 hd2;subst hc hd hc2 hd2;have hz':vs.toArray.size+ws.toArray.size<=sizeLine:=by rw[xai,xai];exact hz
 refine concat_meets (T:="list") ⟨_,ho,rfl⟩ ⟨_,ho2,rfl⟩ noFill_list_add seq_list_add F.slot_list_add F.entry_list_add (F.args_list_add_2 _ _) (list_addW l b vs.toArray ws.toArray n n2 dd dd2 sl sl2 hz') ⟨ho,ho2,?_⟩;have ea:vs.toArray++ws.toArray=(vs++ws).toArray:=by simp
 rw[ea];exact q
theorem jlI:OpR X (binaryOp .Add) (rCatQ X.K):=by
 intro pins s σ H x y v u Q I rx ry h;obtain⟨l,b,xs,zs,rfl,rfl,hH,hB,hz,q⟩:=h;cases rx;cases ry;obtain⟨its,r,p,_⟩:=I.list hH;obtain⟨its2,r2,p2,_⟩:=I.list hB;have hl:=r.length;have hl2:=r2.length;refine jhH p.isList p2.isList (by omega) ?_;exact⟨.ref _,_,I.lnew (t':=s.toks) (r.append r2) (by rw[xaf];omega),rfl,q _ I.fresh⟩
end
theorem jbg {X:Cx}:CallR X (.type "tuple") (fun xs H Q=>∃p ys,xs=[.ref p]/\SqL X.K H p ys/\∀l,H l=none->Q (.ref l) (upd H l (.tup ys))):=fun pins s σ H xs us Q I r ⟨p,ys,e,k,q⟩=>ja9 pins s σ H xs us Q I r ⟨p,ys,e,.inl ⟨k,q⟩⟩
theorem jgq {X:Cx} {K:PySem.W.Frag} {es:List Expr} {k:Nat} {t:TGs} {n:Nat} {pos:Pos} (hK:X.K=K) (hc:X.calm=true) (h:PGs X es t)
  (hn:(assignEach es X.env).length=n:=by rfl) (hst:(assignEach es X.env).findIdx? (·.1)=none:=by rfl):PG X (.Tuple es k pos) (jjw K n t):=hK▸jeV hc h hn hst
def SameB (L:Addr) (H H':Hp):Prop:=∀b o,b≠L->H b=some o->H' b=some o
theorem SameB.refl (L:Addr) (H:Hp):SameB L H H:=fun _ _ _ h=>h
theorem SameB.trans {L:Addr} {H H' J:Hp} (s:SameB L H H') (t:SameB L H' J):SameB L H J:=fun b o n h=>t b o n (s b o n h)
theorem Same.b {L:Addr} {H H':Hp} (s:Same H H'):SameB L H H':=fun b o _ h=>s b o h
theorem SameB.acc {L acc:Addr} {H H':Hp} {o:HO} (s:SameB L H H') (h:H acc=none):SameB L H (upd H' acc o):=fun b u n q=>by rw[jak (jal q h)];exact s b u n q
theorem SameB.box {L:Addr} {H H':Hp} {o:HO} (s:SameB L H H'):SameB L H (upd H' L o):=fun b u n q=>by rw[jak n];exact s b u n q
theorem SameB.none {L b:Addr} {H H':Hp} (s:SameB L H H') (n:b≠L) (h:H' b=none):H b=none:=by
 cases e:H b with
 | none=>rfl
 | some o=>rw[s b o n e] at h;cases h
theorem SameB.set {L:Addr} {H:Hp} {o:HO}:SameB L H (upd H L o):=fun b u n h=>by rw[jak n];exact h
end L2
namespace L2
open PySem PyProof.Rows PySem.Calls
section
variable {X:Cx} {e st:Expr} {te ts:TE} {pos p2:Pos}
def jnb (K:PySem.W.Frag) (te ts:TE):TE:=fun σ H Q=>te σ H fun x H1=>ts σ H1 fun k H2=>k=.int (-1)/\∃a xs,x=.ref a/\SqL K H2 a xs/\∀p,H2 p=none->Q (.ref p) (upd H2 p (.lst xs.reverse))
theorem jgr (he:PE X e te) (hs:PE X st ts):PE X (.Subscript e (.Slice none none (some st) p2) pos) (jnb X.K te ts):=by
 intro pins s σ H Q I h;refine Subscript_ (thn (he pins s σ H _ I h) fun v s1 ⟨x,H1,I1,r1,q1⟩=>?_);refine wpAny_Slice ?_;rw[evalPart_none];refine wpAny_pure (wpAny_pure ?_);rw[evalPart_some];refine thn (hs pins s1 σ H1 _ I1 q1) fun u s2 ⟨k,H2,I2,r2,q2⟩=>?_;obtain⟨rfl,a,xs,rfl,hx,q⟩:=q2;obtain⟨t,rfl⟩:=r2;cases r1;have I4:Inv X pins σ H2 { s2 with heap:=s2.heap.push { cls:=.type "slice",data:=.fields #[.none,.none,.int (-1) t] } }:=I2.kept (t':=s2.toks) fun b ob q=>Heap.get?_push_of_some _ q;obtain⟨its,r,ht,hz⟩:=I4.list hx;have hlen:=r.length;show wpAny (model X.prog X.w) X.A (subscriptTail e (.Slice none none (some st) p2) (.ref a) (.ref s2.heap.objs.size)) (EP X pins σ Q) X.xe { s2 with heap:=s2.heap.push { cls:=.type "slice",data:=.fields #[.none,.none,.int (-1) t] } };refine tail_any (ops:=[.ref a,.ref s2.heap.objs.size]) ht.isList.typeIs slot_list_getitem.lookup ?_ (by with_unfolding_all rfl);refine wpAny_getItem_list_slice ht.isList (Heap.IsSliceOf.new ..) .none .none (.int (-1) t) (by simp) ?_ (by rw[xai]<;>omega);rw[PySem.W.krv_pick];refine⟨.ref _,_,I4.laid (t':=s2.toks) (o:=.lst xs.reverse) (fun b ob q=>Heap.get?_push_of_some _ q) (xae _) ?_,rfl,q _ (I4.hok.fresh (xae _))⟩;exact⟨by rw[xaV];exact hz,_,0,r.reverse,Heap.get?_push_size _ rfl⟩
theorem jfn {K:PySem.W.Frag} (h:X.K=K):CallR X (.builtin "len") (fun xs H Q=>∃p ys,xs=[.ref p]/\(SqL K H p ys\/SqT K H p ys)/\Q (.int ys.length) H):=h▸jaB
end
end L2
namespace L2
open PySem PySem.Spec PyProof.Rows
section
variable {X:Cx} {tg:Expr}
def It3 (lo c:Int) (n:Nat):It:=⟨fun i _=>i<n,fun i H x H'=>H'=H/\x=.int (lo+i*c),fun i _=>n<=i⟩
def iRng3 (ta:TA):TI:=fun σ H R=>ta σ H fun vs H1=>∃i j c:Int,vs=[.int i,.int j,.int c]/\(-(2^30)<=i/\i<2^30/\-(2^30)<=j/\j<2^30/\1<=c/\c<2^30)/\R (It3 i c (Builtin.Range.rangeSize i j c).toNat) H1
end
end L2
namespace L2
section
variable {K:PySem.W.Frag} {tl:TE} {ta:TA} {ix:List Nat} {g:TG} {tt:TT} {te:TE} {σ:St} {H:Hp} {Q:VK}
theorem jgT:jfW (iRng3 ta) ix g tt te σ H Q=ta σ H fun vs H1=>∃i j c:Int,vs=[.int i,.int j,.int c]/\(-(2^30)<=i/\i<2^30/\-(2^30)<=j/\j<2^30/\1<=c/\c<2^30)/\∀acc,H1 acc=none->CompGo (It3 i c (PySem.Builtin.Range.rangeSize i j c).toNat) (jaI σ ix) g tt te acc (fun H'=>Q (.ref acc) H') H1:=rfl
end
end L2
namespace L2
open PySem PySem.Spec PyProof.Rows
theorem jfo {M:Model} {A:Around} {E:Value->Shared->Prop} {s:Shared} {scope:Scope} {globals:Addr} {cl:List (Str × Addr)} {qual:Str} {env:Env} {Q:Env->Shared->Prop}
  (hQ:Q (newEnv scope s.heap.objs.size globals (cellsFrom (s.heap.objs.size+1) scope.names cl) qual none .none (some env) builtinsNs) { s with heap:=pushCells (s.heap.push { cls:=.type "dict",data:=.dict #[] }) scope.names }) :
  wpAny M A (newFunctionEnv scope globals cl [] qual none .none (some env)) Q E s:=by
 simp only[newFunctionEnv,Option.isSome_some,if_true];refine wpAny_bind (wpAny_alloc ?_);refine wpAny_bind (wpAny_layCells _ (fun name kind cells=>by cases hkc:kind==NameKind.cell<;>simp [hkc]) _ _ _ _ ?_);rw[show ({ s with heap:=s.heap.push { cls:=.type "dict",data:=.dict #[] } }:Shared).heap.objs.size=s.heap.objs.size+1 from Heap.size_push ..];rw[List.forIn_nil];exact wpAny_bind (wpAny_pure (wpAny_pure hQ))
structure CfOk (n:Nat) (cs:List (Str × Addr)):Prop where
 lt:∀y c,cs.lookup y=some c->c<n
 inj:∀x y c,cs.lookup x=some c->cs.lookup y=some c->x=y
theorem jlJ {n:Nat} {name:Str} {acc:List (Str × Addr)} (k:CfOk n acc):CfOk (n+1) ((name,n)::acc):=by
  refine⟨fun y c e=>?_,fun x y c e1 e2=>?_⟩
  . rw[xaw] at e
    cases z:y==name with
    | true=>rw[z] at e;cases e;exact Nat.lt_succ_self _
    | false=>rw[z] at e;exact xbj (k.lt y c e)
  . rw[xaw] at e1 e2
    cases z1:x==name with
    | true =>
      cases z2:y==name with
      | true=>exact (beq_iff_eq.mp z1).trans (beq_iff_eq.mp z2).symm
      | false =>
        rw[z1] at e1;rw[z2] at e2;cases e1;exact absurd (k.lt y _ e2) (xaS _)
    | false =>
      cases z2:y==name with
      | true =>
        rw[z1] at e1;rw[z2] at e2;cases e2;exact absurd (k.lt x _ e1) (xaS _)
      | false =>
        rw[z1] at e1;rw[z2] at e2;exact k.inj x y c e1 e2
theorem jlK:∀(names:List (Str × NameKind)) (h:Heap) (acc:List (Str × Addr)),CfOk h.objs.size acc->CfOk (pushCells h names).objs.size (cellsFrom h.objs.size names acc)
  | [],_,_,k=>k
  | (name, kind) :: r, h, acc, k => by
    unfold pushCells cellsFrom;split
    . have z:=jlK r (h.push { cls:=.type "cell",data:=.cell none }) ((name,h.objs.size)::acc) (by rw[Heap.size_push]; exact jlJ k)
      rwa [Heap.size_push] at z
    . exact jlK r h acc k
theorem jgs:∀(names:List (Str × NameKind)) (h:Heap) (acc:List (Str × Addr)) (y:Str) (c:Addr),(cellsFrom h.objs.size names acc).lookup y=some c ->
    acc.lookup y=some c\/((y,NameKind.cell)∈names/\h.objs.size<=c/\(pushCells h names).IsCell c none)
  | [],_,_,_,_,e=>.inl e
  | (name, kind) :: r, h, acc, y, c, e => by
    unfold pushCells;unfold cellsFrom at e;by_cases hk:(kind==NameKind.cell)=true
    . rw[if_pos hk] at e |-
      rw[<- Heap.size_push (h:=h) (o:={ cls:=.type "cell",data:=.cell none })] at e;rcases jgs r _ _ y c e with z | ⟨z1,z2,z3⟩
      . rw[xaw] at z
        cases q:y==name with
        | true =>
          rw[q] at z;cases z;have e1:=beq_iff_eq.mp q;have e2:=beq_iff_eq.mp hk;subst e1;subst e2;refine .inr ⟨xav,xae _,⟨_,pushCells_keeps r _ _ _ (Heap.get?_push_size _ rfl),rfl⟩⟩
        | false =>
          rw[q] at z;exact .inl z
      . rw[Heap.size_push] at z2
        exact .inr ⟨xaq _ z1,by omega,z3⟩
    . rw[if_neg hk] at e |-
      rcases jgs r h acc y c e with z | ⟨z1,z2,z3⟩
      . exact .inl z
      . exact .inr ⟨xaq _ z1,z2,z3⟩
theorem jf3:∀(names:List (Str × NameKind)) (n:Nat) (acc:List (Str × Addr)) (y:Str),(y,NameKind.cell)∉names->(cellsFrom n names acc).lookup y=acc.lookup y
  | [],_,_,_,_=>rfl
  | (name, kind) :: r, n, acc, y, hn => by
    unfold cellsFrom;have hr:(y,NameKind.cell)∉r:=fun z=>hn (xaq _ z);by_cases hk:(kind==NameKind.cell)=true
    . rw[if_pos hk,jf3 r _ _ y hr,xaw]
      cases q:y==name with
      | true =>
        have e1:=beq_iff_eq.mp q;have e2:=beq_iff_eq.mp hk;subst e1;subst e2;exact absurd xav hn
      | false=>rfl
    . rw[if_neg hk,jf3 r _ _ y hr]
theorem jf4:∀(names:List (Str × NameKind)) (n:Nat) (acc:List (Str × Addr)) (y:Str),(y,NameKind.cell)∈names->∃c,(cellsFrom n names acc).lookup y=some c/\n<=c
  | (name, kind) :: r, n, acc, y, hy => by
    unfold cellsFrom;by_cases hr:(y,NameKind.cell)∈r
    . by_cases hk:(kind==NameKind.cell)=true
      . rw[if_pos hk]
        obtain⟨c,h1,h2⟩:=jf4 r (n+1) ((name,n)::acc) y hr;exact⟨c,h1,by omega⟩
      . rw[if_neg hk]
        exact jf4 r n acc y hr
    . rcases xac.mp hy with z | z
      . cases z
        rw[if_pos (by rfl),jf3 r _ _ _ hr,xaw];exact⟨n,by rw[beq_self_eq_true],xae _⟩
      . exact absurd z hr
theorem jlL {names:List (Str × NameKind)} {n:Nat} {acc:List (Str × Addr)} {y:Str} (h:∃c,acc.lookup y=some c):∃c,(cellsFrom n names acc).lookup y=some c:=by
 by_cases hy:(y,NameKind.cell)∈names
 ·obtain⟨c,h1,_⟩:=jf4 names n acc y hy;exact⟨c,h1⟩
 ·rw[jf3 names n acc y hy];exact h
structure CompScopeC (N:List Str) (sc:Scope) (N':List Str) (ix:List Nat) (x:Str) (r:List Str) (cs:Scope):Prop where
 eq:N'=x::r
 kind:cs.kind=.function
 hown:∀y∈cs.names,y.2=.cell->cs.names.lookup y.1=some .cell
 hnames:∀y∈cs.names,y.2=.local->cs.names.lookup y.1=some .local
 nd:(x::r).Nodup
 fr:∀y∈cs.names,y.2=.free->sc.names.lookup y.1=some .cell\/sc.names.lookup y.1=some .free
 ixs:Ixs N sc cs r ix
def jaN (X:Cx) (N':List Str) (cs:Scope) (cl:List (Str × Addr)) (s3:Shared) (H3:Hp) (fp:List Addr):Cx :=
 { X with N:=N',s₀:=s3,H₀:=H3,env:=compEnvC cs (cellsFrom (s3.heap.objs.size+1) cs.names cl) s3.heap.objs.size X.env,outer:=X.stack,stack:=X.stack,ex:=fp,fn:=fun y=>cs.names.lookup y==some .cell,pn:=[],xe:=fun _ _=>False }
theorem jdo {env:Env} {cs:Scope} {y:Str} {k:NameKind} (h:(relabel cs env).names.lookup y=some k) (hk:k=.cell\/k=.free):(y,NameKind.free)∈cs.names\/(y,NameKind.cell)∈cs.names:=by
 have m:=PySem.mem_of_lookup h;obtain⟨⟨n,k0⟩,h1,h2⟩:=xaA.mp m;by_cases c:(k0==NameKind.free&&env.scope.kind==.function&&env.kindOf n==some .cell)=true
 ·have h2':(n,NameKind.cell)=(y,k):=by rw[<- h2];exact (if_pos c).symm
  cases h2';have:k0=.free:=by
   have z:=(xa7.mp (xa7.mp c).1).1;exact beq_iff_eq.mp z
  rw[this] at h1;exact .inl h1
 ·have h2':(n,k0)=(y,k):=by rw[<- h2];exact (if_neg c).symm
  cases h2';rcases hk with rfl | rfl
  ·exact .inr h1
  ·exact .inl h1
section
variable {X:Cx} {pins:List (Addr × Obj)} {σ:St} {H:Hp} {s:Shared}
theorem Inv.cfs {cs:Scope} {cl:List (Str × Addr)} (I:Inv X pins σ H s) (h2:∀y c,cl.lookup y=some c->X.env.cells.lookup y=some c) :
  CfOk (pushCells (s.heap.push { cls:=.type "dict",data:=.dict #[] }) cs.names).objs.size (cellsFrom (s.heap.objs.size+1) cs.names cl) /\
  ∀y c,(cellsFrom (s.heap.objs.size+1) cs.names cl).lookup y=some c->X.env.cells.lookup y=some c\/((y,NameKind.cell)∈cs.names/\s.heap.objs.size+1<=c/\(pushCells (s.heap.push { cls:=.type "dict",data:=.dict #[] }) cs.names).IsCell c none):=by
 have e:s.heap.objs.size+1=(s.heap.push { cls:=.type "dict",data:=.dict #[] }).objs.size:=(Heap.size_push ..).symm;rw[e];refine⟨jlK _ _ _ ⟨fun y c q=>?_,fun a b c ha hb=>I.ok.inj a b c (h2 a c ha) (h2 b c hb)⟩,fun y c q=>?_⟩
 ·obtain⟨v,o,ho,_⟩:=I.cell y c (h2 y c q);rw[<- e];exact xbj (Heap.lt_size ho)
 ·rcases jgs _ _ _ y c q with z | z
  ·exact .inl (h2 y c z)
  ·exact .inr z
end
section
variable {X:Cx} {N' r:List Str} {ix:List Nat} {x:Str} {cs:Scope} {tg iter elt:Expr} {ifs:List Expr} {pos:Pos} {wi:TI} {g:TG} {tt:TT} {te:TE}
theorem CompScopeC.clos {sc:Scope} {N:List Str} (S:CompScopeC N sc N' ix x r cs) {env:Env} (he:env.scope=sc) (has:∀y,(env.kindOf y=some .cell\/env.kindOf y=some .free)->∃c,env.cells.lookup y=some c) :
  ∃cl:List (Str × Addr),closureFor cs env=pure cl/\(∀y c,cl.lookup y=some c->env.cells.lookup y=some c)/\(∀y,(y,NameKind.free)∈cs.names->∃c,cl.lookup y=some c) :=
 jdE fun y hy hk=>has y.1 (by
  subst he;exact S.fr y hy hk)
end
end L2
namespace L2
open PySem PyProof.Rows
end L2
namespace L2
open PySem PySem.Spec PyProof.Rows
section
variable {X:Cx} {pins:List (Addr × Obj)} {σ:St} {H:Hp} {s:Shared} {h':Heap}
theorem Inv.turnedL {t':Nat} {ch:List Addr} (I:Inv X pins σ H s) (k:∀b o,b∉ch->s.heap.get? b=some o->h'.get? b=some o) (hf:∀b∈ch,jfF X pins H b):Inv X pins σ H { s with heap:=h',toks:=t' }:=by
 have nit:∀b u,H b=some u->b∉ch:=fun b u e z=>by rw[(hf b z).1] at e;cases e
 refine I.step (g':=s.gens) (d':=s.drawn) (ch:=ch) (fun b hb=>⟨(hf b hb).2.2.2.1,(hf b hb).2.1,(hf b hb).2.2.2.2.1,(hf b hb).2.2.2.2.2⟩) (fun b o _ _ hc e _=>k b o hc e) (fun b o _ _ hc e _=>⟨o.slots,k b o hc e⟩) (fun _ _ _ _ n=>n)
  (fun b o hc e=>⟨o,k b o hc e⟩) (fun _ _ e=>e) (fun _ _ _ e=>e) (fun b ps e=>⟨#[],by rw[e];simp⟩) (fun m hm=>?_) (fun b u e=>?_) I.bare
 ·obtain⟨o,es,ep,ho,r⟩:=hm;exact⟨o,es,ep,k _ o (fun z=>(hf _ z).2.1 rfl) ho,r⟩
 ·refine (I.hok b u e).stay (fun c v hc q=>k c v ?_ q) (fun _ q=>q) fun _ _ q=>q;rcases hc with z | z
  ·rw[z];exact nit b u e
  ·exact nit c _ z
end
def Ite (K:PySem.W.Frag) (a:Addr):It :=
 ⟨fun i H=>∃xs x,SqL K H a xs/\xs[i]?=some x,fun i H x H'=>∃T v,x=.ref T/\H T=none/\H'=upd H T (.tup [.int i,v])/\∀xs,SqL K H a xs->xs[i]?=some v,fun i H=>∃xs,SqL K H a xs/\xs.length<=i⟩
theorem jiB {P:Program} {w:World} {K:PySem.W.Frag} {elts:List Expr} {x1:Nat} {tpos:Pos} (a e it:Addr) (hei:e≠it):Turn P w K (.Tuple elts x1 tpos) (Ite K a) [e,it] e (fun i h=>(∃old,IsEnum h e it (i:Nat) old)/\h.IsListIter it a i) where
 mem:=by simp
 obj:=fun i h st b hb=>by
  obtain⟨⟨old,he⟩,o,e1,c,d⟩:=st;rcases xac.mp hb with rfl | hb
  ·exact⟨_,he,fun v z=>by
    have z':Data.fields _=Data.cell v:=z;cases z'⟩
  ·have e2:b=it:=by simpa using hb
   subst e2;exact⟨o,e1,fun v z=>by rw[d] at z;cases z⟩
 keep:=fun i h h' st k=>by
  obtain⟨⟨old,he⟩,hi⟩:=st;exact⟨⟨old,k e (by simp) _ he⟩,hi.at fun o q=>k it (by simp) o q⟩
 item:=by
  intro X hP hw hK hc i pins s σ H E I hf st hg;subst hP hw hK;obtain⟨⟨old,he⟩,hit⟩:=st;obtain⟨xs,x,hq,hx⟩:=hg;obtain⟨its,rv,p,hz⟩:=I.list hq;obtain⟨u,hu,ru⟩:=rv.get hx;have heS:e<s.heap.objs.size:=Heap.lt_size he;have hiS:it<s.heap.objs.size:=by
   obtain⟨o,e1,_⟩:=id hit;exact Heap.lt_size e1
  refine wpAny_pyNext_enum_item he hit p.isList (x:=u) (by simpa using hu) hei fun h₁ heo hit₁ ht₁ hz₁ hk₁=>?_;refine⟨_,rfl,wpAny_letOwnedTupleGo_enum heo fun h₂ he₂ hs₂=>?_⟩;have fr:H s.heap.objs.size=none:=I.hok.fresh (xae _);have I1:Inv X pins σ (upd H s.heap.objs.size (.tup [.int i,x])) { s with heap:=s.heap.push { cls:=.type "tuple",data:=.seq #[.int i s.toks,u] } } :=
   I.laid (t':=s.toks) (fun b o q=>Heap.get?_push_of_some _ q) (xae _) ⟨(show 2<=sizeLine by decide),[.int i s.toks,u],.cons ⟨_,rfl⟩ (.cons ru .nil),⟨_,Heap.get?_push_size _ rfl,rfl,_,rfl⟩⟩
  have nT:∀b∈[e,it],b≠s.heap.objs.size:=fun b hb=>by
   rcases xac.mp hb with rfl | hb
   ·exact xaz heS
   ·have e2:b=it:=by simpa using hb
    rw[e2];exact xaz hiS
  have hf1:∀b∈[e,it],jfF X pins (upd H s.heap.objs.size (.tup [.int i,x])) b:=fun b hb=>⟨by rw[jak (nT b hb)];exact (hf b hb).1,(hf b hb).2⟩;have I2:Inv X pins σ (upd H s.heap.objs.size (.tup [.int i,x])) { s with heap:=h₂,toks:=s.toks+1 }:=Inv.turnedL (s:={ s with heap:=s.heap.push { cls:=.type "tuple",data:=.seq #[.int i s.toks,u] } }) (h':=h₂) (t':=s.toks+1) (ch:=[e,it]) I1 (fun b o hb q=>by
   have nb1:b≠e:=fun z=>hb (by simp [z]);have nb2:b≠it:=fun z=>hb (by simp [z]);refine hs₂.extBut b o nb1 ?_;have q2:(s.heap.push { cls:=.type "tuple",data:=.seq #[.int i s.toks,u] }).get? b=some o:=q;rcases Heap.get?_push_cases q2 with ⟨rfl,rfl⟩ | q'
   ·exact ht₁
   ·exact hk₁ b o nb1 nb2 q') hf1
  refine⟨.ref s.heap.objs.size,_,I2,rfl,(show (Ite X.K a).yld i H _ _ from ⟨_,x,rfl,fr,rfl,fun ys hy=>by rw[I.list_inj hy hq];exact hx⟩),⟨⟨u,?_⟩,hit₁.extBut hs₂.extBut (Ne.symm hei)⟩,fun b hb=>(hf1 b hb).1⟩;exact he₂
 done:=by
  intro X hP hw hK hc i pins s σ H E I hf st hg;subst hP hw hK;obtain⟨⟨old,he⟩,hit⟩:=st;obtain⟨xs,hq,hx⟩:=hg;obtain⟨its,rv,p,hz⟩:=I.list hq;have hl:=rv.length;exact wpAny_pyNext_enum_end (I.ok.hd hc) he hit p.isList (by simp;omega) fun h' eb=>⟨rfl,I.turnedL (ch:=[it]) (t':=s.toks) (fun b o hb q=>eb b o (fun z=>hb (by simp [z])) q) fun b hb=>hf b (by simp at hb;simp [hb])⟩
 self:=fun _ _ _ _ _ st h=>by
  obtain⟨⟨old,he⟩,_⟩:=st;exact wpAny_pyIter_enum he h
section
variable {X:Cx} {elts:List Expr} {x1:Nat} {tpos:Pos}
def jnc (K:PySem.W.Frag) (ta:TA):TI:=fun σ H R=>ta σ H fun vs H1=>∃a,vs=[.ref a]/\(∃xs,SqL K H1 a xs)/\R (Ite K a) H1
theorem jlM {l:Expr} {ta:TA} {p pos:Pos} (hg:Gl X "enumerate") (hm:X.mg "enumerate"=none) (ha:PA X [l] ta) (hs:starEach [l] X.env=[(false,eval l X.env)]:=by rfl):PI X (.Tuple elts x1 tpos) (.Call (.Name "enumerate" p) [l] [] pos) (jnc X.K ta):=by
  intro pins s σ H R I h;refine Call_ (jdj I hg hm boot_enumerate (PyProof.Rows.callWith_type1 (thn (ha pos pins s σ H _ I h) fun us s1 ⟨vs,H1,I1,r1,q1⟩=>?_) hs rfl));obtain⟨a,e,⟨xs,hq⟩,q⟩:=q1;subst e;cases r1 with
  | cons r rr =>
    cases rr;cases r;obtain⟨its,rv,pl,hz⟩:=I1.list hq;refine call_enumerate_list pl.isList fun h' he hit hsz hk=>?_;refine wpAny_pyIter_enum he ?_;have I2:Inv X pins σ H1 { s1 with heap:=h' }:=I1.kept (t':=s1.toks) hk;refine⟨s1.heap.objs.size+1,[s1.heap.objs.size+1,s1.heap.objs.size],_,_,H1,rfl,I2,jiB a _ _ (Nat.succ_ne_self _),⟨⟨_,he⟩,hit⟩,fun b hb=>?_,q⟩;rcases xac.mp hb with rfl | hb
    . exact I1.fpOk (xbB _) (I1.hok.fresh (xbB _))
    . have e2:b=s1.heap.objs.size:=by simpa using hb
      subst e2;exact I1.fpOk (xae _) (I1.hok.fresh (xae _))
end
section
variable {K:PySem.W.Frag} {ta:TA} {tl:TE} {g:TG} {tb:TS} {D:Ends} {σ:St} {H:Hp}
theorem jkT:jkD (jnc K ta) g tb D σ H=ta σ H fun vs H1=>∃a,vs=[.ref a]/\(∃xs,SqL K H1 a xs)/\jjq (Ite K a) g tb D σ H1:=rfl
theorem jjT {a:Addr} {xs:List V} (Pv:Nat->St->Hp->Prop) (h0:Pv 0 σ H) (hl:∀i σ H,i<=xs.length->Pv i σ H->SqL K H a xs)
  (hs:∀i x σ H T,xs[i]?=some x->Pv i σ H->H T=none->g (.ref T) σ (upd H T (.tup [.int i,x])) fun σ2 H2=>tb { D with nx:=Pv (i+1),ct:=Pv (i+1),bk:=D.nx } σ2 H2) (hd:∀σ H,Pv xs.length σ H->D.nx σ H) :
  jjq (Ite K a) g tb D σ H:=by
 refine⟨fun i m σ H=>m=xs.length-i/\i<=xs.length/\Pv i σ H,⟨xs.length,by simp,xaG _,h0⟩,?_⟩;rintro i m σ H ⟨rfl,hi,p⟩;have q:=hl i σ H hi p;by_cases h:i<xs.length
 ·refine .inr ⟨⟨xs,xs[i],q,xab h⟩,Pv (i+1),fun σ' H' z=>⟨xs.length-(i+1),by omega,rfl,by omega,z⟩,?_⟩;rintro x H' ⟨T,v,rfl,hT,rfl,hv⟩;have e:=hv xs q;exact hs i v σ H T e p hT
 ·have e:i=xs.length:=by omega
  subst e;exact .inl ⟨⟨xs,q,xae _⟩,hd σ H p⟩
end
structure XCls (K:PySem.W.Frag) (C:Addr):Prop where
 cls:(PySem.W.clsIn K C).isSome=true
 ga:PySem.W.findIn K (.ref C) "__getattribute__"=some (some (.builtin "BaseException.__getattribute__"))
 gh:PySem.W.findIn K (.ref C) "__getattr__"=some none
 be:PySem.W.subIn K (.ref C) (.type "BaseException")=some true
 ca:PySem.W.findIn K (.ref C) "__class__"=some (some (.builtin "object.__class__"))
 cg:PySem.W.specialIn K (.builtin "object.__class__") "__get__"=some (some (.builtin "getset_descriptor.__get__"))
 ct:PySem.W.takesIn K (.builtin "object.__class__")=some true
 ob:PySem.W.mroIn K C (.type "object")=some true
section
variable {P:Program} {w:World} {H:Hp} {h h':Heap} {a:Addr} {o:HO}
theorem ObjOk.get (x:ObjOk P w H h a o):∃ob,h.get? a=some ob:=by
 cases o with
 | lst xs=>obtain⟨_,_,_,_,e⟩:=x;exact⟨_,e⟩
 | tup xs=>obtain⟨_,_,_,ob,e,_⟩:=x;exact⟨_,e⟩
 | dK kvs=>obtain⟨_,_,_,_,o,_,_,e,_⟩:=x;exact⟨_,e⟩
 | dT kvs=>obtain⟨_,_,_,_,o,_,_,e,_⟩:=x;exact⟨_,e⟩
 | set S n=>obtain⟨o,_,_,_,e,_⟩:=x;exact⟨_,e⟩
 | ins C dx fs=>obtain⟨_,_,_,e,_⟩:=x;exact⟨_,e⟩
 | own y=>exact x
 | xd fs=>obtain⟨_,⟨_,_,_,e,_⟩,_⟩:=x;exact⟨_,e⟩
 | rng lo hi=>obtain⟨_,_,_,e⟩:=x;exact⟨_,e⟩
 | frz ob u=>obtain⟨e,_⟩:=x;exact⟨_,e⟩
 | tbl ps=>exact⟨_,(show h.get? a=some _ from x)⟩
 | met f y=>exact⟨_,(show h.get? a=some _ from x)⟩
 | ext φ=>obtain⟨_,e,_⟩:=x;exact e
end
section
open PySem.W PySem.Calls PySem.Builtin PySem.Builtin.ObjectAttr
variable {prog:Program} {w:World} {A:Around} {K:PySem.W.Frag} {x C:Addr} {ox:Obj} {od:Option Obj} {s:Shared} {name:Str} {tk:Tok} {v:Value} {R:Result->Shared->Prop}
end
theorem jiC {a:Expr} {f:Str} {jba:List Expr} {pos:Pos} {env:Env}:starEach (.Attribute a f pos::jba) env=(false,eval (.Attribute a f pos) env)::starEach jba env:=by rfl
section
open PySem.W PySem.Calls PySem.Builtin PySem.Builtin.ObjectAttr PySem.Builtin.Getset_descriptor
variable {prog:Program} {w:World} {A:Around} {E:Value->Shared->Prop} {K:PySem.W.Frag} {x C:Addr} {s:Shared} {name:Str} {tk:Tok} {v:Value}
end
section
variable {X:Cx}
theorem jgU {e:Expr} {t:TX} {pos:Pos} (he:PX X e t) (hs:swapsWith e none pos.line X.env=pure false:=by rfl) :
  PSX X [.Expr e pos] (fun D E σ H=>t σ H (fun _ H1=>D.nx σ H1) (E σ)):=by
 intro pins s σ H D E I h;refine wpAny_execs_cons (wpAny_Expr_any (wpAny_mono (he pins s σ H _ (E σ) I h) (fun u s1 ⟨v,H1,I1,r,q⟩=>?_) fun ex s' z=>⟨σ,z⟩) I.quiet hs);exact wpAny_execs_nil ⟨σ,H1,I1,q⟩
end
def del (H:Hp) (q:Addr):Hp:=fun b=>if b=q then none else H b
section
variable {X:Cx}
theorem jjU:MtR X "str.zfill" (fun x xs H Q=>∃z i,x=.str z/\xs=[.int i]/\PadOk i=true/\Q (.str (Txt.zfill z i)) H):=by
 intro pins s σ H x xs v us Q I rx rv h;obtain⟨z,i,rfl,rfl,hp,q⟩:=h;obtain⟨t,rfl⟩:=rx;obtain⟨u,rfl,r1⟩:=jcO rv;obtain⟨t1,rfl⟩:=r1;exact SC.zfill hp fun t' k=>⟨.str _,H,I.tok _,⟨_,rfl⟩,q⟩
theorem jhI:MtR X "str.lstrip" (fun x xs H Q=>∃z y,x=.str z/\xs=[.str y]/\z.length<=sizeLine/\Q (.str (Txt.lstripChars z y)) H):=by
 intro pins s σ H x xs v us Q I rx rv h;obtain⟨z,y,rfl,rfl,hp,q⟩:=h;obtain⟨t,rfl⟩:=rx;obtain⟨u,rfl,r1⟩:=jcO rv;obtain⟨t1,rfl⟩:=r1;exact SC.lstripChars (fun t' k=>⟨.str _,H,I.tok _,⟨_,rfl⟩,q⟩) hp
theorem jiD:MtR X "str.startswith" (fun x xs H Q=>∃z y,x=.str z/\xs=[.str y]/\Q (.bl (Txt.startswith z y)) H):=by
 intro pins s σ H x xs v us Q I rx rv h;obtain⟨z,y,rfl,rfl,q⟩:=h;obtain⟨t,rfl⟩:=rx;obtain⟨u,rfl,r1⟩:=jcO rv;obtain⟨t1,rfl⟩:=r1;exact SC.startswith ⟨.bl _,H,I,rfl,q⟩
theorem jgt:∀{xs:List Str} {us:List Value},Vals (xs.map V.str) us->∃l:List (Str × Tok),us=strValues l/\l.map (·.1)=xs:=fun {xs us} h=>by
  induction xs generalizing us with
  | nil=>cases h;exact⟨[],rfl,rfl⟩
  | cons x r ih =>
    cases h with
    | cons h1 h2 =>
      obtain⟨t,rfl⟩:=h1;obtain⟨l,rfl,e⟩:=ih h2;exact⟨(x,t)::l,rfl,by rw[xaT,e]⟩
theorem jgu (l:List (Str × Tok)):Vals ((l.map (·.1)).map V.str) (strValues l):=by
 induction l with
 | nil=>exact .nil
 | cons p r ih=>exact .cons ⟨p.2,rfl⟩ ih
theorem jeu:MtR X "str.join" (fun x xs H Q=>∃z a ys,x=.str z/\xs=[.ref a]/\SqL X.K H a (ys.map V.str)/\JoinOk z ys=true/\Q (.str (Txt.join z ys)) H):=by
 intro pins s σ H x xs v us Q I rx rv h;obtain⟨z,a,ys,rfl,rfl,hq,hj,q⟩:=h;obtain⟨t,rfl⟩:=rx;obtain⟨u,rfl,r1⟩:=jcO rv;cases r1;obtain⟨its,r',pl,_⟩:=I.list hq;obtain⟨l,rfl,e⟩:=jgt r';exact SC.join (l:=l) pl.isList e hj fun t' k=>⟨.str _,H,I.tok _,⟨_,rfl⟩,q⟩
theorem jf5:MtR X "str.partition" (fun x xs H Q=>∃z y,x=.str z/\xs=[.str y]/\(y.length==0)=false/\z.length<=sizeLine/\∀p,H p=none->Q (.ref p) (upd H p (.tup [.str (Txt.partition z y).1,.str (Txt.partition z y).2.1,.str (Txt.partition z y).2.2]))):=by
 intro pins s σ H x xs v us Q I rx rv h;obtain⟨z,y,rfl,rfl,hy,hz,q⟩:=h;obtain⟨t,rfl⟩:=rx;obtain⟨u,rfl,r1⟩:=jcO rv;obtain⟨t1,rfl⟩:=r1;refine call_meets F.slot_str_partition (typeIs_str _ _ _) F.entry_str_partition (F.args_str_partition_2 _ _) (meets_str_partition z y t t1 hy hz) ?_;have key:∀(a b c:Str) (ta tb tc:Tok) (k:Nat),(∀p,H p=none->Q (.ref p) (upd H p (.tup [.str a,.str b,.str c])))->EP X pins σ Q (.ref s.heap.objs.size) { s with toks:=k,heap:=s.heap.push { cls:=.type "tuple",data:=.seq [.str a ta,.str b tb,.str c tc].toArray } }:=fun a b c ta tb tc k q=>by
  have I2:Inv X pins σ (upd H s.heap.objs.size (.tup [.str a,.str b,.str c])) { s with toks:=k,heap:=s.heap.push { cls:=.type "tuple",data:=.seq [.str a ta,.str b tb,.str c tc].toArray } } :=
   I.laid (t':=k) (fun b o e=>Heap.get?_push_of_some _ e) (xae _) (show ObjOk X.prog X.w _ _ _ (.tup [.str a,.str b,.str c]) from ⟨xa1 (jaH (show 3<1000 by decide)),_,.cons ⟨ta,rfl⟩ (.cons ⟨tb,rfl⟩ (.cons ⟨tc,rfl⟩ .nil)),IsTup.new _ _⟩)
  exact⟨.ref s.heap.objs.size,_,I2,rfl,q _ (I.hok.fresh (xae _))⟩
 revert q
 unfold Txt.partition;cases Builtin.Str.occurrences z y 0 z.length 1 with
 | nil=>intro q;exact key _ _ _ _ _ _ _ q
 | cons i r=>intro q;exact key _ _ _ _ _ _ _ q
theorem jfp:MtR X "str.split" (fun x xs H Q=>∃z y,x=.str z/\xs=[.str y]/\(y.length==0)=false/\z.length<=sizeLine/\(Txt.split z y).length<=sizeLine/\(Builtin.Str.partsBetween z (Builtin.Str.occurrences z y 0 z.length (z.length+1)) y.length).length<=sizeLine/\∀p,H p=none->Q (.ref p) (upd H p (.lst ((Txt.split z y).map V.str)))):=by
 intro pins s σ H x xs v us Q I rx rv h;obtain⟨z,y,rfl,rfl,hy,hz,hz1,hz2,q⟩:=h;obtain⟨t,rfl⟩:=rx;obtain⟨u,rfl,r1⟩:=jcO rv;obtain⟨t1,rfl⟩:=r1;have key:∀(l:List (Str × Tok)) (k:Nat),l.map (·.1)=Txt.split z y->EP X pins σ Q (.ref s.heap.objs.size) { s with toks:=k,heap:=s.heap.push { cls:=.type "list",data:=.seq (strValues l).toArray } }:=fun l k e=>by
  have I2:Inv X pins σ (upd H s.heap.objs.size (.lst ((Txt.split z y).map V.str))) { s with toks:=k,heap:=s.heap.push { cls:=.type "list",data:=.seq (strValues l).toArray } } :=
   I.laid (t':=k) (fun b o e=>Heap.get?_push_of_some _ e) (xae _) (show ObjOk X.prog X.w _ _ _ (.lst ((Txt.split z y).map V.str)) from ⟨by rw[xaa];exact hz1,_,_,e▸jgu l,Heap.get?_push_size _ rfl⟩)
  exact⟨.ref s.heap.objs.size,_,I2,rfl,q _ (I.hok.fresh (xae _))⟩
 cases h1:(decide (z.length<y.length)||decide (Builtin.Str.strKind z<Builtin.Str.strKind y))
 ·cases hf:(Builtin.Str.occurrences z y 0 z.length (z.length+1)).isEmpty
  ·refine call_meets F.slot_str_split (typeIs_str _ _ _) F.entry_str_split (F.args_str_split_2 _ _) (meets_str_split_sep z y t t1 h1 hy hf hz hz2) ?_;show wants _ _ _ { s with toks:=_,heap:=s.heap.push { cls:=.type "list",data:=.seq (strsFrom s.toks (Builtin.Str.partsBetween z (Builtin.Str.occurrences z y 0 z.length (z.length+1)) y.length)).toArray } };rw[strsFrom_eq];refine key (numbered s.toks _) _ ((numbered_texts _ _).trans ?_);unfold Txt.split;rw[if_neg (ne_true_of_eq_false h1),if_neg (ne_true_of_eq_false hf)]
  ·refine call_meets F.slot_str_split (typeIs_str _ _ _) F.entry_str_split (F.args_str_split_2 _ _) (meets_str_split_not_found z y t t1 h1 hy hf) ?_;refine key [(z,t)] _ ?_;unfold Txt.split;rw[if_neg (ne_true_of_eq_false h1),if_pos hf];rfl
 ·refine call_meets F.slot_str_split (typeIs_str _ _ _) F.entry_str_split (F.args_str_split_2 _ _) (meets_str_split_cannot_occur z y t t1 h1) ?_;refine key [(z,t)] _ ?_;unfold Txt.split;rw[if_pos h1];rfl
theorem jcs:CallR X (.type "str") (fun xs H Q=>∃i,xs=[.int i]/\i.natAbs<2^1900/\Q (.str (Str.ofString (toString i))) H):=by
 intro pins s σ H xs us Q I r h;obtain⟨i,rfl,hi,q⟩:=h;obtain⟨u,rfl,rx⟩:=jcO r;obtain⟨t,rfl⟩:=rx;have hl:i.natAbs.log2<1920:=by
  by_cases e:i.natAbs=0
  ·rw[e];decide
  ·exact (Nat.log2_lt e).mpr (xah hi (xbl (by decide) (by decide)))
 exact P.str_of_int hl ⟨.str _,H,I.tok _,⟨_,rfl⟩,q⟩
theorem jiE:CallR X (.type "int") (fun xs H Q=>∃x n,xs=[.str x]/\PySem.intText? x=some n/\x.length<=640/\Q (.int n) H):=by
 intro pins s σ H xs us Q I r h;obtain⟨x,n,rfl,hn,hl,q⟩:=h;obtain⟨u,rfl,rx⟩:=jcO r;obtain⟨t,rfl⟩:=rx;exact PySem.W.KIN.call_text hn hl ⟨.int n,H,I.tok _,⟨_,rfl⟩,q⟩
end
@[elab_as_elim] theorem ja6 {C:Hp->Prop} {H:Hp} {p:Addr} {o:HO} (hp:H p=none) (k:∀J,Same H J->J p=some o->C J):C (upd H p o):=k _ (Same.new hp o) jaf
theorem lt3 {i:Nat} (h:i<3):i=0\/i=1\/i=2:=by omega
section
open PySem.AutoSeq1 (wpAny_loadPart')
open PySem.MeetsSeq3 (plain_eq_loop entry_eq_loop)
end
structure CompScopeMC (N:List Str) (sc:Scope) (N':List Str) (ix:List Nat) (xs0:List Str) (r:List Str) (cs:Scope):Prop where
 eq:N'=xs0++r
 kind:cs.kind=.function
 hown:∀y∈cs.names,y.2=.cell->cs.names.lookup y.1=some .cell
 hnames:∀y∈cs.names,y.2=.local->cs.names.lookup y.1=some .local
 nd:(xs0++r).Nodup
 fr:∀y∈cs.names,y.2=.free->sc.names.lookup y.1=some .cell\/sc.names.lookup y.1=some .free
 ixs:Ixs N sc cs r ix
section
variable {X:Cx} {pins:List (Addr × Obj)} {σ:St} {H:Hp} {s:Shared}
theorem Inv.compOkMC {N' r:List Str} {ix:List Nat} {xs0:List Str} {cs:Scope} {cl:List (Str × Addr)} {fp:List Addr} (I:Inv X pins σ H s) (S:CompScopeMC X.N X.env.scope N' ix xs0 r cs)
  (h2:∀y c,cl.lookup y=some c->X.env.cells.lookup y=some c) (h3:∀y,(y,NameKind.free)∈cs.names->∃c,cl.lookup y=some c) (hf:∀b∈fp,jfF X pins H b) (hfp:∀b∈fp,b<s.heap.objs.size) :
  (jaN X N' cs cl s H fp).Ok where
 mod:=I.ok.mod
 kind:=S.kind
 glob:=I.ok.glob
 blt:=I.ok.blt
 above:=xae _
 inj:=(I.cfs (cs:=cs) h2).1.inj
 has:=fun y hy=>by
  rcases hy.elim (fun z=>jdo z (.inl rfl)) fun z=>jdo z (.inr rfl) with z | z
  ·exact jlL (h3 y z)
  ·obtain⟨c,h,_⟩:=jf4 cs.names (s.heap.objs.size+1) cl y z;exact⟨c,h⟩
 cab:=fun y c hy e=>by
  have z:cs.names.lookup y=some .cell:=beq_iff_eq.mp hy;obtain⟨c',h,hl⟩:=jf4 cs.names (s.heap.objs.size+1) cl y (PySem.mem_of_lookup z);have e':(cellsFrom (s.heap.objs.size+1) cs.names cl).lookup y=some c:=e;rw[h] at e';cases e';exact xan (xbB _) hl
 hd:=I.ok.hd
 frames:=I.ok.frames
 stk:=.inl rfl
 exf:=fun b hb=>⟨xaz (hfp b hb),fun y c e=>by
  rcases (I.cfs (cs:=cs) h2).2 y c e with z | ⟨_,z,_⟩
  ·exact (hf b hb).2.2.2.2.1 y c z
  ·exact Nat.ne_of_gt (xah (xbj (hfp b hb)) z)⟩
 bs:=I.bs
 bsz:=xan I.ok.bsz I.sz
 noex:=fun b o e hb=>by
  rcases (hf b hb).2.2.2.1 with z | z
  ·exact I.ok.noex b o e z
  ·exact absurd (xah (Heap.lt_size e) (xan I.ok.bsz z)) (xaS _)
 exfs:=fun b hb hs=>by
  rcases xac.mp (I.stkSub b hs) with z | z
  ·exact (hf b hb).2.1 z
  ·exact (hf b hb).2.2.1 z
 funs:=I.stack
 frf:=I.stkFree
theorem Inv.compStartMC {N' r:List Str} {ix:List Nat} {xs0:List Str} {cs:Scope} {cl:List (Str × Addr)} {fp:List Addr} (I:Inv X pins σ H s) (S:CompScopeMC X.N X.env.scope N' ix xs0 r cs)
  (h2:∀y c,cl.lookup y=some c->X.env.cells.lookup y=some c) (h3:∀y,(y,NameKind.free)∈cs.names->∃c,cl.lookup y=some c) (hf:∀b∈fp,jfF X pins H b) (hfp:∀b∈fp,b<s.heap.objs.size) :
  Inv (jaN X N' cs cl s H fp) [] (List.replicate xs0.length none++jaI σ ix) H { s with heap:=pushCells (s.heap.push { cls:=.type "dict",data:=.dict #[] }) cs.names }:=by
 have ok:=I.compOkMC (N':=N') (fp:=fp) S h2 h3 hf hfp;obtain⟨mo,hno,hlo⟩:=id I.loc;have hk:∀b o,s.heap.get? b=some o->(pushCells (s.heap.push { cls:=.type "dict",data:=.dict #[] }) cs.names).get? b=some o:=fun b o e=>pushCells_keeps _ _ _ _ (Heap.get?_push_of_some _ e);have cf:=(I.cfs (cs:=cs) h2).2;refine⟨ok,rfl,I.bare,Un.kept hk,⟨fun _=>none,(Heap.Ns.new s.heap (.type "dict")).keeps (pushCells_keeps _ _),fun i y v e1 e2 e3=>?_⟩,fun y c e=>?_,I.hok.fresh (xae _),fun y c e=>?_,fun p hp=>absurd (show p∈([]:List (Addr × Obj)) from hp) (by simp),I.hok.kept hk,?_⟩
 ·by_cases hi:i<xs0.length
  ·rw[xaO (by rw[xaQ];exact hi),List.getElem?_replicate,if_pos hi] at e2;cases e2
  ·have e1':r[i-xs0.length]?=some y:=by
    have:N'[i]?=some y:=e1;rw[S.eq,xaI (by omega)] at this;exact this
   have e2:(jaI σ ix)[i-xs0.length]?=some (some v):=by
    rw[xaI (by rw[xaQ];omega),xaQ] at e2;exact e2
   obtain⟨j,j1,j2,j3,j4⟩:=S.ixs.get e1';obtain⟨j',k1,k2⟩:=jes (σ:=σ) (ix:=ix) (i:=i-xs0.length) (v:=v) e2;rw[j1] at k1;cases k1;obtain⟨u,ru,lk⟩:=hlo j y v j2 k2 (j3.elim (fun z=>.inr (.inl z)) fun z=>.inr (.inr z));refine⟨u,ru,?_⟩;obtain⟨c,hc⟩:=h3 y (PySem.mem_of_lookup j4);rcases lk with ⟨k,_⟩ | ⟨k,c',e',z⟩
   ·have k':X.env.scope.names.lookup y=some .local:=k;rcases j3 with q | q<;>(rw[q] at k';cases k')
   ·rw[h2 y c hc] at e';cases e';refine .inr ⟨?_,c,?_,?_⟩
    ·exact jbf (env:=X.env) j4
    ·have no:(y,NameKind.cell)∉cs.names:=fun q=>by
      have:=S.hown _ q rfl;rw[j4] at this;cases this
     show (cellsFrom (s.heap.objs.size+1) cs.names cl).lookup y=some c;rw[jf3 _ _ _ y no];exact hc
    ·obtain⟨o,ho,hd⟩:=z;exact⟨o,hk c o ho,hd⟩
 ·rcases cf y c e with z | ⟨_,_,z⟩
  ·obtain⟨v,o,ho,hd⟩:=I.cell y c z;exact⟨v,o,hk c o ho,hd⟩
  ·exact⟨none,z⟩
 ·rcases cf y c e with z | ⟨_,z,_⟩
  ·exact I.freeC y c z
  ·exact I.hok.fresh (xan (xbB _) z)
 ·show (List.replicate xs0.length none++jaI σ ix).length=N'.length;rw[S.eq,xaf,xaf,xaQ,S.ixs.len];unfold jaI;rw[xaa]
theorem jc6 {N' r:List Str} {ix:List Nat} {xs0:List Str} {cs:Scope} {cl:List (Str × Addr)} {tg iter elt:Expr} {ifs:List Expr} {pos:Pos} {J:It} {fp:List Addr} {it:Addr} {tn:Nat->Heap->Prop} {g:TG} {tt:TT} {te:TE} {Z:Addr->Hp->Prop}
    {RR:Value->Addr->Result->Shared->Prop} {E:Value->Shared->Prop}
    (I:Inv X pins σ H s) (hc:X.calm=true) (S:CompScopeMC X.N X.env.scope N' ix xs0 r cs) (h2:∀y c,cl.lookup y=some c->X.env.cells.lookup y=some c) (h3:∀y,(y,NameKind.free)∈cs.names->∃c,cl.lookup y=some c)
    (T:Turn X.prog X.w X.K tg J fp it tn) (st:tn 0 s.heap) (hf:∀b∈fp,jfF X pins H b)
    (hg:∀s3 H3,PG (jaN X N' cs cl s3 H3 fp) tg g) (ht:∀s3 H3,PTs (jaN X N' cs cl s3 H3 fp) ifs tt) (he:∀s3 H3,PE (jaN X N' cs cl s3 H3 fp) elt te)
    (go:∀acc,H acc=none->jdG J xs0.length (jaI σ ix) g tt te acc (Z acc) H)
    (fin:∀acc C s' H' m,Inv X pins σ H' s'->jfF X pins H' C->s'.heap.Ns C m->Z acc H'->RR (.ref acc) C (.ok .next) s') :
    wpAny (model X.prog X.w) X.A (newList []) (fun acc s₃=>wpAny (model X.prog X.w) X.A (newFunctionEnv cs X.env.globals cl [] X.env.qual none .none (some X.env)) (fun cenv s₄ =>
      codeAny (model X.prog X.w) X.A (.compStart (.ListComp elt [⟨tg,iter,ifs,0⟩] cs pos) 0 (.ref it) acc { cenv with scope:=relabel cs X.env }) (RR acc cenv.locals) s₄) E s₃) E s:=by
  refine wpAny_newObj_type (jfo ?_);dsimp only;have hfs:∀b∈fp,b<s.heap.objs.size:=fun b hb=>by
    obtain⟨o,e,_⟩:=T.obj _ _ st b hb;exact Heap.lt_size e
  have I3:Inv X pins σ (upd H s.heap.objs.size (.lst [])) { s with heap:=s.heap.push { cls:=.type "list",data:=.seq ([]:List Value).toArray } }:=I.lnew (its:=[]) (t':=s.toks) .nil (xaG _);have nacc:H s.heap.objs.size=none:=I.fresh;have hf3:∀b∈fp,jfF X pins (upd H s.heap.objs.size (.lst [])) b:=fun b hb=>⟨by rw[jak (xaz (hfs b hb))];exact (hf b hb).1,(hf b hb).2⟩;have hfs3:∀b∈fp,b<(s.heap.push { cls:=.type "list",data:=.seq ([]:List Value).toArray }).objs.size:=fun b hb=>by
    rw[Heap.size_push];exact xbj (hfs b hb)
  generalize hs3:({ s with heap:=s.heap.push { cls:=.type "list",data:=.seq ([]:List Value).toArray } }:Shared)=s3 at I3;generalize hH3:upd H s.heap.objs.size (.lst [])=H3 at I3 hf3;have eh:s.heap.push { cls:=.type "list",data:=.seq ([]:List Value).toArray }=s3.heap:=by rw[<- hs3]
  rw[eh] at hfs3;have I4:Inv (jaN X N' cs cl s3 H3 fp) [] (List.replicate xs0.length none++jaI σ ix) H3 { s3 with heap:=pushCells (s3.heap.push { cls:=.type "dict",data:=.dict #[] }) cs.names } :=
    I3.compStartMC S h2 h3 hf3 hfs3
  have cf:=(I3.cfs (cs:=cs) h2).2;have kp2:∀b o,s.heap.get? b=some o->(pushCells (s3.heap.push { cls:=.type "dict",data:=.dict #[] }) cs.names).get? b=some o:=fun b o e=>pushCells_keeps _ _ _ _ (Heap.get?_push_of_some _ (by rw[<- eh];exact Heap.get?_push_of_some _ e));have st4:tn 0 (pushCells (s3.heap.push { cls:=.type "dict",data:=.dict #[] }) cs.names):=T.keep _ _ _ st fun b hb o e=>kp2 b o e;obtain⟨W,⟨m0,w0⟩,turn⟩:=go s.heap.objs.size nacc;rw[hH3] at w0;have stat:∀{H':Hp},(∀b∈fp,H' b=none)->∀b∈fp,jfF (jaN X N' cs cl s3 H3 fp) [] H' b:=fun hn b hb =>
    ⟨hn b hb,xaz (hfs3 b hb),fun hs=>by
      rcases xac.mp (I.stkSub b hs) with z | z
      . exact (hf b hb).2.1 z
      . exact (hf b hb).2.2.1 z,.inl hb,fun y c e=>by
        rcases cf y c e with z | ⟨_,z,_⟩
        . exact (hf b hb).2.2.2.2.1 y c z
        . exact Nat.ne_of_gt (xah (xbj (hfs3 b hb)) z),fun p hp=>absurd (show p∈([]:List (Addr × Obj)) from hp) (by simp)⟩
  have es:s3.heap.objs.size=s.heap.objs.size+1:=by rw[<- eh,Heap.size_push]
  have loop:codeAny (model X.prog X.w) X.A (.compLoop (.ListComp elt [⟨tg,iter,ifs,0⟩] cs pos) 0 (.ref it) (.ref s.heap.objs.size) (jaN X N' cs cl s3 H3 fp).env)
      (RR (.ref s.heap.objs.size) s3.heap.objs.size) { s3 with heap:=pushCells (s3.heap.push { cls:=.type "dict",data:=.dict #[] }) cs.names }:=by
    refine jfV (fun n s'=>∃i v0 H' xs,v0.length=xs0.length/\Inv (jaN X N' cs cl s3 H3 fp) [] (v0++jaI σ ix) H' s'/\tn i s'.heap/\(∀b∈fp,H' b=none)/\W i n xs H') ?_ m0
      ⟨0,List.replicate xs0.length none,H3,[],xaQ,I4,st4,fun b hb=>(hf3 b hb).1,w0⟩
    rintro n s5 ⟨i,v0,H5,xs,l5,I5,st5,fr5,w5⟩;rcases turn i n xs H5 w5 with ⟨stop,q⟩ | ⟨hgo,Nx,Nn,hNx,hNn,step⟩
    . refine thn (T.done (jaN X N' cs cl s3 H3 fp) rfl rfl rfl hc i [] s5 _ H5 _ I5 (stat fr5) st5 stop) fun r' s6 ⟨hr,I6⟩=>?_
      subst hr;have u:Un (frs X.stack) fp H H5 s.heap s6.heap:=by
        refine Un.trans (H1:=H3) (h1:=s3.heap) ?_ I6.base;rw[<- hH3,<- eh];exact Un.laid (fun _ _ q=>Heap.get?_push_of_some _ q) (xae _) nacc
      have e3:s3.os=s.os:=by rw[<- hs3]
      have os6:s6.os=s.os:=I6.os.trans e3;have J6:Inv X pins σ H5 s6:=I.call' os6 u I6.hok I6.bare fun b hb=>⟨(hf b hb).2.2.2.1,(hf b hb).2.1,(hf b hb).2.2.2.2.1,(hf b hb).2.2.2.2.2⟩;obtain⟨m6,n6,_⟩:=I6.loc;exact fin _ _ s6 H5 m6 J6 (I.fpOk (by rw[es];exact xbB _) I6.free) n6 q
    . refine thn (T.item (jaN X N' cs cl s3 H3 fp) rfl rfl rfl hc i [] s5 _ H5 _ I5 (stat fr5) st5 hgo) fun r' s6 ⟨u,hr,h6⟩=>?_
      subst hr;refine thn h6 fun _ s7 ⟨y,H7,I7,r7,y7,st7,fr7⟩=>?_;have I7':=I7.pinned (stat fr7) (T.obj _ _ st7);refine wpAny_mono (hg s3 H3 _ s7 _ H7 y u _ I7' r7 (step v0 y H7 l5 y7)) (fun _ s8 ⟨σ8,H8,I8,⟨v8,l8,e8⟩,q8⟩=>?_) fun _ _ z=>z.elim;subst e8;have back:∀{s9:Shared} {H9:Hp} {m':Nat} {xs':List V},Inv (jaN X N' cs cl s3 H3 fp) ([]++jfI fp s7.heap) (v8++jaI σ ix) H9 s9->m'<n->W (i+1) m' xs' H9 ->
          ∃m,m<n/\∃i v0 H' xs,v0.length=xs0.length/\Inv (jaN X N' cs cl s3 H3 fp) [] (v0++jaI σ ix) H' s9/\tn i s9.heap/\(∀b∈fp,H' b=none)/\W i m xs H':=fun {s9 H9 m' xs'} I9 hm w9 =>
        ⟨m',hm,i+1,v8,H9,xs',l8,I9.unpinned,T.keep _ _ _ st7 fun b hb o e=>(I9.pin (b,o) (xaD _ (xaD _ (jcJ hb e)))).1,fun b hb=>by
          obtain⟨o,e,d⟩:=T.obj _ _ st7 b hb;exact (I9.pin (b,o) (xaD _ (xaD _ (jcJ hb e)))).2.1,w9⟩
      refine thn (ht s3 H3 _ _ s8 _ H8 _ (fun _ _ z=>z.elim) I8 q8) fun b s9 ⟨H9,I9,q9⟩=>?_;cases b with
      | false =>
        rw[if_neg xar] at q9 |-
        obtain⟨m',hm,w9⟩:=hNn H9 q9;exact back I9 hm w9
      | true =>
        rw[if_pos rfl] at q9 |-
        refine wpAny_mono (he s3 H3 _ s9 _ H9 _ I9 q9) (fun u2 s10 ⟨y2,H10,I10,r10,q10⟩=>?_) fun _ _ z=>z.elim;obtain⟨a10,z10,m',hm,w10⟩:=hNx y2 H10 q10;refine wpAny_mono (jbk (X:=jaN X N' cs cl s3 H3 fp) _ s10 _ H10 (.ref s.heap.objs.size) [y2] (.ref s.heap.objs.size) [u2] (fun _ H'=>H'=upd H10 s.heap.objs.size (.lst (xs++[y2]))) I10 rfl (.cons r10 .nil) ⟨_,xs,y2,rfl,rfl,a10,z10,rfl⟩) (fun _ s11 ⟨_,H11,I11,_,e11⟩=>?_) fun _ _ z=>z.elim;subst e11;exact back I11 hm w10
  subst hs3;exact codeAny_compStart_list loop (T.self X.A 0 _ _ _ st4 loop)
end
section
variable {X:Cx} {N' r xs0:List Str} {ix:List Nat} {cs:Scope} {tg iter elt:Expr} {ifs:List Expr} {pos:Pos} {wi:TI} {g:TG} {tt:TT} {te:TE}
theorem CompScopeMC.clos {sc:Scope} {N:List Str} (S:CompScopeMC N sc N' ix xs0 r cs) {env:Env} (he:env.scope=sc) (has:∀y,(env.kindOf y=some .cell\/env.kindOf y=some .free)->∃c,env.cells.lookup y=some c) :
  ∃cl:List (Str × Addr),closureFor cs env=pure cl/\(∀y c,cl.lookup y=some c->env.cells.lookup y=some c)/\(∀y,(y,NameKind.free)∈cs.names->∃c,cl.lookup y=some c) :=
 jdE fun y hy hk=>has y.1 (by
  subst he;exact S.fr y hy hk)
theorem jev (hc:X.calm=true) (S:CompScopeMC X.N X.env.scope N' ix xs0 r cs) (hi:PI X tg iter wi)
  (hg:∀cl s3 H3 fp,PG (jaN X N' cs cl s3 H3 fp) tg g) (ht:∀cl s3 H3 fp,PTs (jaN X N' cs cl s3 H3 fp) ifs tt) (he:∀cl s3 H3 fp,PE (jaN X N' cs cl s3 H3 fp) elt te)
  (hs:∀x,foldedSetIterable iter X.env x=pure x:=by intro _;rfl):PE X (.ListComp elt [⟨tg,iter,ifs,0⟩] cs pos) (jkS wi ix xs0.length g tt te):=by
 intro pins s σ H Q I h;obtain⟨cl,c1,c2,c3⟩:=S.clos rfl I.ok.has;rw[eval_ListComp];refine wpAny_comprehension_free (use:=none) rfl hs c1 S.kind S.hnames (thn (hi pins s σ H _ I h) fun v s1 h1=>thn h1 fun itv s2 h2=>?_);obtain⟨it,fp,tn,J,H2,e,I2,T,st2,f2,R⟩:=h2;subst e;refine jc6 (RR:=fun acc C=>compPost (model X.prog X.w) X.A X.xe none (EP X pins σ Q) acc C) I2 hc S c2 c3 T st2 f2 (fun s3 H3=>hg cl s3 H3 fp) (fun s3 H3=>ht cl s3 H3 fp) (fun s3 H3=>he cl s3 H3 fp) R ?_;intro acc C s' H' m I' fC hn q;refine⟨m,hn,fun h' hb=>⟨.ref acc,H',?_,rfl,q⟩⟩;exact I'.turned (t':=s'.toks) (fun b o hne e=>(hb.2 b hne).trans e) fC.1 fC.2.1 fC.2.2.2.1 fC.2.2.2.2.1 fC.2.2.2.2.2
end
section
variable {X:Cx} {tg:Expr}
def iLT (K:PySem.W.Frag) (tl:TE):TI:=fun σ H R=>tl σ H fun x H1=>∃a,x=.ref a/\(((∃xs,SqL K H1 a xs)/\R (Itl K a) H1)\/((∃xs,SqT K H1 a xs)/\R (Itt K a) H1))
theorem pi_lt {l:Expr} {tl:TE} (hl:PE X l tl):PI X tg l (iLT X.K tl):=by
 intro pins s σ H R I h;refine thn (hl pins s σ H _ I h) fun v s1 ⟨x,H1,I1,r1,q1⟩=>?_;obtain⟨a,e,q1⟩:=q1;subst e;cases r1;rcases q1 with ⟨⟨xs,hq⟩,q⟩ | ⟨⟨xs,hq⟩,q⟩
 ·obtain⟨its,rv,p,hz⟩:=I1.list hq;refine wpAny_pyIter_list p.isList ?_;refine⟨s1.heap.objs.size,[s1.heap.objs.size],_,_,H1,rfl,I1.kept (t':=s1.toks) fun b o e=>Heap.get?_push_of_some _ e,jfG a _,⟨_,Heap.get?_push_size _ rfl,rfl,rfl⟩,fun b hb=>?_,q⟩;have e:b=s1.heap.objs.size:=by simpa using hb
  subst e;exact I1.fpOk (xae _) (I1.hok.fresh (xae _))
 ·obtain⟨its,rv,p,hz⟩:=I1.tuple hq;refine wpAny_pyIter_tuple (show s1.heap.IsTuple a its.toArray from p) ?_;refine⟨s1.heap.objs.size,[s1.heap.objs.size],_,_,H1,rfl,I1.kept (t':=s1.toks) fun b o e=>Heap.get?_push_of_some _ e,jeW a _,⟨_,Heap.get?_push_size _ rfl,rfl,rfl⟩,fun b hb=>?_,q⟩;have e:b=s1.heap.objs.size:=by simpa using hb
  subst e;exact I1.fpOk (xae _) (I1.hok.fresh (xae _))
end
theorem CompScopeC.mc {N:List Str} {sc:Scope} {N':List Str} {ix:List Nat} {x:Str} {r:List Str} {cs:Scope} (S:CompScopeC N sc N' ix x r cs):CompScopeMC N sc N' ix [x] r cs:=⟨S.eq,S.kind,S.hown,S.hnames,S.nd,S.fr,S.ixs⟩
theorem CompGo.m1 {J:It} {ρ:St} {g:TG} {tt:TT} {te:TE} {acc:Addr} {Z:Hp->Prop} {H1:Hp} (h:CompGo J ρ g tt te acc Z H1):jdG J [("":Str)].length ρ g tt te acc Z H1:=by
 obtain⟨W,h0,hs⟩:=h;refine⟨W,h0,fun i m xs H w=>?_⟩;rcases hs i m xs H w with h | ⟨hg,Nx,Nn,h1,h2,step⟩
 ·exact .inl h
 ·refine .inr ⟨hg,Nx,Nn,h1,h2,fun v0 x H' l0 y=>?_⟩;obtain⟨a,rfl⟩:=List.length_eq_one_iff.mp l0;have e:(fun (σ2:St) (H2:Hp)=>(∃v,σ2=v::ρ)/\tt σ2 H2 fun b H3=>if b=true then te σ2 H3 Nx else Nn H3)=fun σ2 H2=>(∃v:St,v.length=[("":Str)].length/\σ2=v++ρ)/\tt σ2 H2 fun b H3=>if b=true then te σ2 H3 Nx else Nn H3:=by
   funext σ2 H2
   refine congrArg (·/\_) (propext ⟨fun ⟨v,e⟩=>⟨[v],rfl,e⟩,fun ⟨v,l,e⟩=>?_⟩);obtain⟨b,rfl⟩:=List.length_eq_one_iff.mp l;exact⟨b,e⟩
  have:=step a x H' y;rw[e] at this;exact this
section
variable {X:Cx} {N' r:List Str} {ix:List Nat} {x:Str} {cs:Scope} {tg iter elt:Expr} {ifs:List Expr} {pos:Pos} {wi:TI} {g:TG} {tt:TT} {te:TE}
theorem jaU (hc:X.calm=true) (S:CompScopeC X.N X.env.scope N' ix x r cs) (hi:PI X tg iter wi)
  (hg:∀cl s3 H3 fp,PG (jaN X N' cs cl s3 H3 fp) tg g) (ht:∀cl s3 H3 fp,PTs (jaN X N' cs cl s3 H3 fp) ifs tt) (he:∀cl s3 H3 fp,PE (jaN X N' cs cl s3 H3 fp) elt te)
  (hs:∀x,foldedSetIterable iter X.env x=pure x:=by intro _;rfl):PE X (.ListComp elt [⟨tg,iter,ifs,0⟩] cs pos) (jfW wi ix g tt te):=by
 intro pins s σ H Q I h;obtain⟨cl,c1,c2,c3⟩:=S.mc.clos rfl I.ok.has;rw[eval_ListComp];refine wpAny_comprehension_free (use:=none) rfl hs c1 S.kind S.hnames (thn (hi pins s σ H _ I h) fun v s1 h1=>thn h1 fun itv s2 h2=>?_);obtain⟨it,fp,tn,J,H2,e,I2,T,st2,f2,R⟩:=h2;subst e;refine jc6 (RR:=fun acc C=>compPost (model X.prog X.w) X.A X.xe none (EP X pins σ Q) acc C) I2 hc S.mc c2 c3 T st2 f2 (fun s3 H3=>hg cl s3 H3 fp) (fun s3 H3=>ht cl s3 H3 fp) (fun s3 H3=>he cl s3 H3 fp) (fun acc h=>(R acc h).m1) ?_;intro acc C s' H' m I' fC hn q;refine⟨m,hn,fun h' hb=>⟨.ref acc,H',?_,rfl,q⟩⟩;exact I'.turned (t':=s'.toks) (fun b o hne e=>(hb.2 b hne).trans e) fC.1 fC.2.1 fC.2.2.2.1 fC.2.2.2.2.1 fC.2.2.2.2.2
theorem jc7 {i:Nat} {y:Str} {py spos:Pos} (hc:X.calm=true) (hN:X.N.Nodup) (hiN:X.N[i]?=some y) (hy:X.env.scope.names.lookup y=some .local) (S:CompScopeC X.N X.env.scope N' ix x r cs) (hi:PI X tg iter wi)
  (hg:∀cl s3 H3 fp,PG (jaN X N' cs cl s3 H3 fp) tg g) (ht:∀cl s3 H3 fp,PTs (jaN X N' cs cl s3 H3 fp) ifs tt) (he:∀cl s3 H3 fp,PE (jaN X N' cs cl s3 H3 fp) elt te)
  (hsw:swapsWith (.ListComp elt [⟨tg,iter,ifs,0⟩] cs pos) (some (.Name y py)) spos.line X.env=pure true:=by rfl)
  (hs:∀x,foldedSetIterable iter X.env x=pure x:=by intro _;rfl):PS X (.Assign [.Name y py] (.ListComp elt [⟨tg,iter,ifs,0⟩] cs pos) spos) (jkC (jfW wi ix g tt te) (jbt i)):=by
 intro pins s σ H D I h;obtain⟨cl,c1,c2,c3⟩:=S.mc.clos rfl I.ok.has;rw[exec_Assign_Name_used _ _ _ _ hsw];refine wpAny_bind (wpAny_standAt (wpAny_bind ?_));show wpAny _ X.A (do let _ <- comprehension (.ListComp elt [⟨tg,iter,ifs,0⟩] cs pos) cs X.env _ (newList []) false (eval iter X.env) (some (assign (.Name y py) X.env))) _ _ s;refine wpAny_bind (wpAny_mono (wpAny_comprehension_free (use:=some (assign (.Name y py) X.env)) (Q:=fun _ s'=>SP X pins D .next s') rfl hs c1 S.kind S.hnames
  (thn (hi pins s σ H _ I h) fun v s1 h1=>thn h1 fun itv s2 h2=>?_)) (fun _ s' hq=>wpAny_pure (wpAny_pure hq)) fun _ _ e=>e)
 obtain⟨it,fp,tn,J,H2,e,I2,T,st2,f2,R⟩:=h2;subst e;refine jc6 (RR:=fun acc C=>compPost (model X.prog X.w) X.A X.xe (some (assign (.Name y py) X.env)) (fun _ s'=>SP X pins D .next s') acc C) I2 hc S.mc c2 c3 T st2 f2 (fun s3 H3=>hg cl s3 H3 fp) (fun s3 H3=>ht cl s3 H3 fp) (fun s3 H3=>he cl s3 H3 fp) (fun acc h=>(R acc h).m1) ?_;intro acc C s' H' m I' fC hn q;show wpAny _ X.A (assign (.Name y py) X.env (.ref acc)) _ _ _;refine wpAny_assign_Name (jfE (v:=.ref acc) I' hN hiN (.inl hy) rfl (fun s'' I'' ⟨a,hb,ha⟩=>?_) (.inr hy));have hCa:C≠a:=fun z=>by
  rcases ha with ha | ha
  ·exact fC.2.1 (z.trans ha)
  ·exact fC.2.2.2.2.1 y a ha z.symm
 refine⟨m,hn.sameBut hb hCa,fun h' hb'=>⟨_,H',?_,q⟩⟩;exact I''.turned (t':=s''.toks) (fun b o hne e=>(hb'.2 b hne).trans e) fC.1 fC.2.1 fC.2.2.2.1 fC.2.2.2.2.1 fC.2.2.2.2.2
end
def AtM (K:PySem.W.Frag) (C:Addr) (m qual:Str) (st:Stmt) (ps:List Str):Prop:=∃f fd dV,FunD K m qual st f fd dV/\Meth K C m f/\Binds K fd ps []
def MethOk (P:Program) (w:World) (K:PySem.W.Frag) (mg:Str->Option Value) (base:Heap) (CX:CXT) (k:Nat) (C:Addr) (m:Str) (ps:List Str) (sp:Sp):Prop :=
 ∃f fd,FnOk P w K mg base CX k f fd ps sp/\Meth K C m f/\Binds K fd ps []
section
variable {P:Program} {w:World} {K:PySem.W.Frag} {mg:Str->Option Value} {base:Heap}
theorem AtM.ok {C:Addr} {m qual:Str} {st:Stmt} {N ps:List Str} {k:Nat} {sp:Sp} (F:AtM K C m qual st ps) (S:FnScope N ps (jad st)) (len:∀vs H Q E,sp vs H Q E->vs.length=ps.length)
  (hbody:∀(f:Addr) (cdv:Value) (A:Around) (outer:List Env) (s:Shared) (H:Hp) (vs:List V) (Q:VK) (E:XK),Room k (A.deeper (envOfC qual (jad st) s.heap.objs.size f cdv))->sp vs H Q E ->
   ∃t,PSs (jgj CX0 P w K mg base N qual (jad st) f cdv A outer s H E).nox (jaZ st) t/\t { nx:=fun _ H'=>Q .non H',rt:=Q } (jbQ N vs) H):MethOk P w K mg base CX0 (k+1) C m ps sp:=by
 obtain⟨f,fd,dV,F1,hm,hb⟩:=F;exact⟨f,fd,F1.ok S len (hbody f),hm,hb⟩
theorem AtM.okX {C:Addr} {m qual:Str} {st:Stmt} {N ps:List Str} {k:Nat} {sp:Sp} (F:AtM K C m qual st ps) (S:FnScope N ps (jad st)) (len:∀vs H Q E,sp vs H Q E->vs.length=ps.length)
  (hbody:∀(f:Addr) (cdv:Value) (A:Around) (outer:List Env) (s:Shared) (H:Hp) (vs:List V) (Q:VK) (E:XK),Room k (A.deeper (envOfC qual (jad st) s.heap.objs.size f cdv))->sp vs H Q E ->
   ∃t,PSs (cxX P w K mg base N qual (jad st) f cdv A outer s H E) (jaZ st) t/\t { nx:=fun _ H'=>Q .non H',rt:=Q } (jbQ N vs) H):MethOk P w K mg base (XOk P w) (k+1) C m ps sp:=by
 obtain⟨f,fd,dV,F1,hm,hb⟩:=F;exact⟨f,fd,F1.okX S len (hbody f),hm,hb⟩
end
section
variable {X:Cx} {CX:CXT} {k:Nat} {C:Addr} {ps:List Str} {sp:Sp} {E:XK} {m x:Str} {p pos apos:Pos} {e o:Expr} {es:List Expr} {ta:TE} {t:TA}
theorem jec {pl:Sem Bool} (D:MethOk X.prog X.w X.K X.mg X.base CX k C m ps sp) (he:PE X o ta) (c:Cls X.K C) (hr:Room k X.A) (hx:jbS CX X E) (ha:PA X (e::es) t)
  (hst:starEach (e::es) X.env=(false,eval e X.env)::starEach es X.env:=by rfl) (hpl:(backTo pos (starEach es X.env)).any (·.1)=false:=by rfl)
  (ht:eval (.Call (.Attribute o m apos) (e::es) [] pos) X.env=(do
   let ov <- eval o X.env
   standAt apos.atName
   let (f,first) <- holding [ov] (getMethod ov m pl)
   callWith pos f first (backTo pos (starEach (e::es) X.env)) (backToKw pos (keywordEach [] X.env))):=by rfl) :
  PE X (.Call (.Attribute o m apos) (e::es) [] pos) (jhz C m sp [] E ta t):=by
 obtain⟨f,fd,F,hm,hb⟩:=D;exact jlx he c hm F hr hb .nil hx ha hst hpl ht
theorem jaR {pl:Sem Bool} (D:MethOk X.prog X.w X.K X.mg X.base CX k C m ps sp) (he:PE X o ta) (c:Cls X.K C) (hr:Room k X.A) (hx:jbS CX X E)
  (ht:eval (.Call (.Attribute o m apos) [] [] pos) X.env=(do
   let ov <- eval o X.env
   standAt apos.atName
   let (f,first) <- holding [ov] (getMethod ov m pl)
   callWith pos f first (backTo pos (starEach [] X.env)) (backToKw pos (keywordEach [] X.env))):=by rfl) :
  PE X (.Call (.Attribute o m apos) [] [] pos) (jhz C m sp [] E ta jgN):=by
 obtain⟨f,fd,F,hm,hb⟩:=D;exact jjE he c hm F hr hb .nil hx ht
theorem jew (D:MethOk X.prog X.w X.K X.mg X.base CX k C "__init__" ps sp) (mk:PySem.W.makesIn X.K C=true) (kp:PySem.W.keepIn X.K (.ref C)=true) (hr:Room (k+1) X.A) (hg:Gl X x) (hm:X.mg x=some (.ref C)) (hx:jbS CX X E)
  (hdb:(x==("__debug__":Str))=false:=by decide):PE X (.Call (.Name x p) [] [] pos) (jm0 C sp [] E jgN):=by
 obtain⟨f,fd,F,M,hb⟩:=D;exact jjG ⟨mk,M.at_,M.fn,kp⟩ F hr hg hm hb .nil hx hdb
theorem jlN {f:Addr} {fd:FuncData} {pins:List (Addr × Obj)} {σ:St} {H:Hp} {s:Shared} {Q:VK} {us:List Value} {vs:List V} (F:FnOk X.prog X.w X.K X.mg X.base (XOk X.prog X.w) k f fd ps sp) (hr:Room k X.A) (hb:Binds X.K fd ps [])
    (I:Inv X pins σ H s) (r:Vals vs us) (h:sp vs H Q E):wpAny (model X.prog X.w) X.A (call (.ref f) us) (EP X pins σ Q) (XP X pins σ E) s:=by
  have hl:(us++[]).length=ps.length:=by rw[xbA,<- r.length];exact F.len _ _ _ _ h
  have hbb:=hb s us I.kIn hl;rw[xbA] at hbb;refine wpAny_call (codeAny_mono (F.run X.A X.stack s H ⟨us,[]⟩ us vs Q E hr I.env0 hbb r h) fun r s' hq=>?_);cases r with
  | error e=>exact⟨H,s,I,hq⟩
  | ok fl =>
    cases fl with
    | ret u=>exact I.after hq
    | next=>exact False.elim hq
    | brk=>exact False.elim hq
    | cont=>exact False.elim hq
def jnd (C:Addr) (m:Str) (sp:Sp) (ta:TE) (t:TA):TX:=fun σ H Q E=>ta σ H fun x H1=>∃a dx fs,x=.ref a/\H1 a=some (.ins C dx fs)/\fs.lookup m=none/\t σ H1 fun vs H2=>sp (x::vs) H2 Q E
theorem jiF {pl:Sem Bool} (D:MethOk X.prog X.w X.K X.mg X.base (XOk X.prog X.w) k C m ps sp) (he:PE X.nox o ta) (c:Cls X.K C) (hr:Room k X.A)
  (ht:eval (.Call (.Attribute o m apos) [] [] pos) X.env=(do
   let ov <- eval o X.env
   standAt apos.atName
   let (f,first) <- holding [ov] (getMethod ov m pl)
   callWith pos f first (backTo pos (starEach [] X.env)) (backToKw pos (keywordEach [] X.env))):=by rfl) :
  PX X (.Call (.Attribute o m apos) [] [] pos) (jnd C m sp ta jgN):=by
 obtain⟨f,fd,F,hm,hb⟩:=D;intro pins s σ H Q E I h;refine PySem.W.methodCall_KW (pl:=pl) (wpAny_mono (he pins s σ H _ (I.wish _) h) (fun u s1 ⟨x,H1,I1',rx,a,dx,fs,ex,ea,l,q⟩=>?_) fun _ _ z=>z.elim) ht;have I1:Inv X pins σ H1 s1:=I1'.unwish;subst ex;obtain rfl:u=Value.ref a:=rx;refine jdC I1 ea c hm l ?_;exact PySem.W.callWith_K0 (first:=[.ref a]) I1.kIn hm.kp (jlN (us:=[.ref a]) (vs:=[.ref a]) F hr hb I1 (.cons rfl .nil) q)
end
structure RoomN (k:Nat) (A:Around):Prop where
 dp:A.depth+3*k+5<recursionLimit
 un:A.units+16*k+200<cLine
theorem RoomN.deeper {k:Nat} {A:Around} (r:RoomN (k+1) A) (env:Env):RoomN k (A.deeper env) :=
 ⟨by have:=r.dp;show A.depth+1+3*k+5<_;omega,by have:=r.un;show A.units+3+16*k+200<_;omega⟩
theorem RoomN.depth {k:Nat} {A:Around} (r:RoomN k A):A.depth<recursionLimit:=by have:=r.dp;omega
theorem Room.caught {j k:Nat} {A:Around} {e:Value} (r:Room k A) (h:j<=k):RoomN j (A.mark (some e)):=⟨by have:=r.dp;show A.depth+3*j+5<_;omega,by have:=r.un;show A.units+16*j+200<_;omega⟩
section
variable {X:Cx} {k:Nat} {ps:List Str} {sp:Sp} {x:Str} {p pos:Pos} {e:Expr} {es:List Expr} {t:TA}
def tCutE (M:St->Hp->St->Hp->Prop) (t u:TS):TS:=fun D σ H=>t { D with nx:=M σ H } σ H/\∀σ' H',M σ H σ' H'->u D σ' H'
theorem jgV {st:Stmt} {jba:List Stmt} {t u:TS} (M:St->Hp->St->Hp->Prop) (h1:PS X st t) (h2:PSs X jba u):PSs X (st::jba) (tCutE M t u):=by
  intro pins s σ H D I h;refine wpAny_execs_cons (thn (h1 pins s σ H { D with nx:=M σ H } I h.1) fun f s1 q=>?_);cases f with
  | next =>
    obtain⟨σ',H',I',q⟩:=q;exact h2 pins s1 σ' H' D I' (h.2 σ' H' q)
  | ret v=>exact q
  | brk=>exact q
  | cont=>exact q
end
section
open PySem.AutoSeq1 (wpAny_loadPart')
open PySem.MeetsSeq3 (plain_eq_loop entry_eq_loop)
end
def Itz (K:PySem.W.Frag) (a b:Addr):It :=
 ⟨fun i H=>∃xs ys x y,SqL K H a xs/\SqL K H b ys/\xs[i]?=some x/\ys[i]?=some y,fun i H x H'=>∃T u v,x=.ref T/\H T=none/\H'=upd H T (.tup [u,v])/\(∀xs,SqL K H a xs->xs[i]?=some u)/\∀ys,SqL K H b ys->ys[i]?=some v,fun i H=>∃xs ys,SqL K H a xs/\SqL K H b ys/\(xs.length<=i\/ys.length<=i)⟩
structure ZAp (z TI TO i1 i2:Addr):Prop where
 TIz:TI≠z
 TOz:TO≠z
 i1z:i1≠z
 i2z:i2≠z
 TITO:TI≠TO
 TIi1:TI≠i1
 TIi2:TI≠i2
 TOi1:TO≠i1
 TOi2:TO≠i2
 i12:i1≠i2
theorem zap5 (n:Nat):ZAp (n+4) (n+2) (n+3) n (n+1):=by
 constructor<;>(intro h;have h':=congrArg (fun x:Nat=>x) h;simp at h')
abbrev ZSt (z TI TO i1 i2 a b:Addr) (i:Nat) (h:Heap):Prop:=IsZip h z TI TO .none/\IsPair h TI (.ref i1) (.ref i2)/\(∃u v,IsPair h TO u v)/\h.IsListIter i1 a i/\h.IsListIter i2 b i
theorem zap {z TI TO i1 i2 a b l:Addr} {i:Nat} {h:Heap} {its:Array Value} (st:ZSt z TI TO i1 i2 a b i h) (hl:h.IsList l its):l≠z/\l≠TO/\l≠i1/\l≠i2:=by
 obtain⟨hz,hTI,⟨u,v,hTO⟩,⟨o1,e1,c1,d1⟩,⟨o2,e2,c2,d2⟩⟩:=st;obtain⟨o,e,c,d⟩:=hl;refine⟨fun q=>?_,fun q=>?_,fun q=>?_,fun q=>?_⟩
 ·subst q;rw[hz] at e;cases e;simp at c
 ·subst q;rw[hTO] at e;cases e;simp at c
 ·subst q;rw[e1] at e;cases e;rw[c1] at c;simp at c
 ·subst q;rw[e2] at e;cases e;rw[c2] at c;simp at c
theorem jjV {P:Program} {w:World} {K:PySem.W.Frag} {elts:List Expr} {x1:Nat} {tpos:Pos} (a b z TI TO i1 i2:Addr) (D:ZAp z TI TO i1 i2):Turn P w K (.Tuple elts x1 tpos) (Itz K a b) [z,TI,TO,i1,i2] z (ZSt z TI TO i1 i2 a b) where
 mem:=by simp
 obj:=fun i h st c hc=>by
  obtain⟨hz,hTI,⟨u,v,hTO⟩,⟨o1,e1,c1,d1⟩,⟨o2,e2,c2,d2⟩⟩:=st;simp only[xac,xao,or_false] at hc;rcases hc with rfl | rfl | rfl | rfl | rfl
  ·exact⟨_,hz,fun v z=>nomatch z⟩
  ·exact⟨_,hTI,fun v z=>nomatch z⟩
  ·exact⟨_,hTO,fun v z=>nomatch z⟩
  ·exact⟨o1,e1,fun v z=>by rw[d1] at z;cases z⟩
  ·exact⟨o2,e2,fun v z=>by rw[d2] at z;cases z⟩
 keep:=fun i h h' st k=>by
  obtain⟨hz,hTI,⟨u,v,hTO⟩,h1,h2⟩:=st;exact⟨k z (by simp) _ hz,k TI (by simp) _ hTI,⟨u,v,k TO (by simp) _ hTO⟩,h1.at fun o q=>k i1 (by simp) o q,h2.at fun o q=>k i2 (by simp) o q⟩
 item:=by
  intro X hP hw hK hc i pins s σ H E I hf st hg;subst hP hw hK;have st':=st;obtain⟨hz,hTI,⟨u,v,hTO⟩,h1,h2⟩:=st;obtain⟨xs,ys,x,y,hq,hr,hx,hy⟩:=hg;obtain⟨its,rv,p,hpz⟩:=I.list hq;obtain⟨jts,rw',p',hpz'⟩:=I.list hr;obtain⟨ux,hux,rux⟩:=rv.get hx;obtain⟨uy,huy,ruy⟩:=rw'.get hy;obtain⟨q1,q2,q3,q4⟩:=zap st' p.isList;obtain⟨r1,r2,r3,r4⟩:=zap st' p'.isList;have Da:ZipApart z TI TO i1 i2 a b:=⟨D.TIz,D.TOz,D.i1z,D.i2z,D.TITO,D.TIi1,D.TIi2,D.TOi1,D.TOi2,D.i12,q1,q2,q3,q4,r1,r2,r3,r4⟩;have ls:∀c∈[z,TI,TO,i1,i2],c<s.heap.objs.size:=fun c hc=>by
   simp only[xac,xao,or_false] at hc;obtain⟨o1,e1,_⟩:=id h1;obtain⟨o2,e2,_⟩:=id h2;rcases hc with rfl | rfl | rfl | rfl | rfl
   ·exact Heap.lt_size hz
   ·exact Heap.lt_size hTI
   ·exact Heap.lt_size hTO
   ·exact Heap.lt_size e1
   ·exact Heap.lt_size e2
  refine wpAny_pyNext_zip_item Da hz hTI hTO h1 h2 p.isList p'.isList (x:=ux) (y:=uy) (by simpa using hux) (by simpa using huy) fun h₁ hz₁ hTO₁ h1₁ h2₁ hT₁ hsz₁ hk₁=>?_;refine⟨_,rfl,wpAny_letOwnedTupleGo_zip hz₁ fun h₂ hz₂ hs₂=>?_⟩;have fr:H s.heap.objs.size=none:=I.hok.fresh (xae _);have I1:Inv X pins σ (upd H s.heap.objs.size (.tup [x,y])) { s with heap:=s.heap.push { cls:=.type "tuple",data:=.seq #[ux,uy] } } :=
   I.laid (t':=s.toks) (fun b o q=>Heap.get?_push_of_some _ q) (xae _) ⟨(show 2<=sizeLine by decide),[ux,uy],.cons rux (.cons ruy .nil),⟨_,Heap.get?_push_size _ rfl,rfl,_,rfl⟩⟩
  have nT:∀c∈[z,TI,TO,i1,i2],c≠s.heap.objs.size:=fun c hc=>xaz (ls c hc);have hf1:∀c∈[z,TI,TO,i1,i2],jfF X pins (upd H s.heap.objs.size (.tup [x,y])) c:=fun c hc=>⟨by rw[jak (nT c hc)];exact (hf c hc).1,(hf c hc).2⟩;have I2:Inv X pins σ (upd H s.heap.objs.size (.tup [x,y])) { s with heap:=h₂,toks:=s.toks }:=Inv.turnedL (s:={ s with heap:=s.heap.push { cls:=.type "tuple",data:=.seq #[ux,uy] } }) (h':=h₂) (t':=s.toks) (ch:=[z,TI,TO,i1,i2]) I1 (fun c o hc q=>by
   simp only[xac,xao,or_false,not_or] at hc;obtain⟨n1,n2,n3,n4,n5⟩:=hc;refine hs₂.extBut c o n1 ?_;have q2:(s.heap.push { cls:=.type "tuple",data:=.seq #[ux,uy] }).get? c=some o:=q;rcases Heap.get?_push_cases q2 with ⟨rfl,rfl⟩ | q'
   ·exact hT₁
   ·exact hk₁ c o n1 n3 n4 n5 q') hf1
  refine⟨.ref s.heap.objs.size,_,I2,rfl,(show (Itz X.K a b).yld i H _ _ from ⟨_,x,y,rfl,fr,rfl,fun zs hy=>by rw[I.list_inj hy hq];exact hx,fun zs hy'=>by rw[I.list_inj hy' hr];exact hy⟩),⟨hz₂,?_,⟨ux,uy,hs₂.extBut _ _ D.TOz hTO₁⟩,h1₁.extBut hs₂.extBut D.i1z,h2₁.extBut hs₂.extBut D.i2z⟩,fun c hc=>(hf1 c hc).1⟩;exact hs₂.extBut _ _ D.TIz (hk₁ _ _ D.TIz D.TITO D.TIi1 D.TIi2 hTI)
 done:=by
  intro X hP hw hK hc i pins s σ H E I hf st hg;subst hP hw hK;have st':=st;obtain⟨hz,hTI,⟨u,v,hTO⟩,h1,h2⟩:=st;obtain⟨xs,ys,hq,hr,hx⟩:=hg;obtain⟨its,rv,p,hpz⟩:=I.list hq;obtain⟨jts,rw',p',hpz'⟩:=I.list hr;have l1:=rv.length;have l2:=rw'.length;obtain⟨q1,q2,q3,q4⟩:=zap st' p.isList;obtain⟨r1,r2,r3,r4⟩:=zap st' p'.isList;have Da:ZipApart z TI TO i1 i2 a b:=⟨D.TIz,D.TOz,D.i1z,D.i2z,D.TITO,D.TIi1,D.TIi2,D.TOi1,D.TOi2,D.i12,q1,q2,q3,q4,r1,r2,r3,r4⟩;refine wpAny_pyNext_zip_end (I.ok.hd hc) Da hz hTI hTO h1 h2 p.isList p'.isList ?_ fun h' eb=>⟨rfl,I.turnedL (ch:=[z,TI,TO,i1,i2]) (t':=s.toks) (fun c o hc q=>?_) hf⟩
  ·rcases hx with hx | hx
   ·left
    simp;omega
   ·right
    simp;omega
  ·simp only[xac,xao,or_false,not_or] at hc;exact eb c o hc.1 hc.2.2.1 hc.2.2.2.1 hc.2.2.2.2 q
 self:=fun _ _ _ _ _ st h=>wpAny_pyIter_zip st.1 h
section
variable {X:Cx} {elts:List Expr} {x1:Nat} {tpos:Pos}
def iZip (K:PySem.W.Frag) (ta:TA):TI:=fun σ H R=>ta σ H fun vs H1=>∃a b,vs=[.ref a,.ref b]/\(∃xs,SqL K H1 a xs)/\(∃ys,SqL K H1 b ys)/\R (Itz K a b) H1
theorem jne {l l':Expr} {ta:TA} {p pos:Pos} (hg:Gl X "zip") (hm:X.mg "zip"=none) (ha:PA X [l,l'] ta) (hs:starEach [l,l'] X.env=(false,eval l X.env)::starEach [l'] X.env:=by rfl) (hs':starEach [l'] X.env=[(false,eval l' X.env)]:=by rfl):PI X (.Tuple elts x1 tpos) (.Call (.Name "zip" p) [l,l'] [] pos) (iZip X.K ta):=by
  intro pins s σ H R I h;refine Call_ (jdj I hg hm boot_zip (PyProof.Rows.callWith_type1 (thn (ha pos pins s σ H _ I h) fun us s1 ⟨vs,H1,I1,r1,q1⟩=>?_) hs (by rw[hs'];rfl)));obtain⟨a,b,e,⟨xs,hq⟩,⟨ys,hr⟩,q⟩:=q1;subst e;cases r1 with
  | cons r rr =>
    cases rr with
    | cons r' rr' =>
    cases rr';cases r;cases r';obtain⟨its,rv,pl,hz⟩:=I1.list hq;obtain⟨jts,rv',pl',hz'⟩:=I1.list hr;refine call_zip_2 pl.isList pl'.isList fun h' hz hTI hTO h1 h2 hsz hk=>?_;refine wpAny_pyIter_zip hz ?_;have I2:Inv X pins σ H1 { s1 with heap:=h' }:=I1.kept (t':=s1.toks) hk;refine⟨s1.heap.objs.size+4,[s1.heap.objs.size+4,s1.heap.objs.size+2,s1.heap.objs.size+3,s1.heap.objs.size,s1.heap.objs.size+1],_,_,H1,rfl,I2,jjV a b (s1.heap.objs.size+4) (s1.heap.objs.size+2) (s1.heap.objs.size+3) s1.heap.objs.size (s1.heap.objs.size+1) (zap5 _),⟨hz,hTI,⟨_,_,hTO⟩,h1,h2⟩,fun c hc=>?_,q⟩;have hc':s1.heap.objs.size<=c:=by
      simp only[xac,xao,or_false] at hc;rcases hc with rfl | rfl | rfl | rfl | rfl
      . exact xby _ _
      . exact xby _ _
      . exact xby _ _
      . exact xae _
      . exact xby _ _
    exact I1.fpOk hc' (I1.hok.fresh hc')
end
section
variable {K:PySem.W.Frag} {ta:TA} {tl:TE} {g:TG} {tb:TS} {D:Ends} {σ:St} {H:Hp}
theorem jnf:jkD (iZip K ta) g tb D σ H=ta σ H fun vs H1=>∃a b,vs=[.ref a,.ref b]/\(∃xs,SqL K H1 a xs)/\(∃ys,SqL K H1 b ys)/\jjq (Itz K a b) g tb D σ H1:=rfl
theorem jlO {a b:Addr} {xs ys:List V} (he:xs.length=ys.length) (Pv:Nat->St->Hp->Prop) (h0:Pv 0 σ H) (hl:∀i σ H,i<=xs.length->Pv i σ H->SqL K H a xs/\SqL K H b ys)
  (hs:∀i x y σ H T,xs[i]?=some x->ys[i]?=some y->Pv i σ H->H T=none->g (.ref T) σ (upd H T (.tup [x,y])) fun σ2 H2=>tb { D with nx:=Pv (i+1),ct:=Pv (i+1),bk:=D.nx } σ2 H2) (hd:∀σ H,Pv xs.length σ H->D.nx σ H) :
  jjq (Itz K a b) g tb D σ H:=by
 refine⟨fun i m σ H=>m=xs.length-i/\i<=xs.length/\Pv i σ H,⟨xs.length,by simp,xaG _,h0⟩,?_⟩;rintro i m σ H ⟨rfl,hi,p⟩;obtain⟨q,r⟩:=hl i σ H hi p;by_cases h:i<xs.length
 ·refine .inr ⟨⟨xs,ys,xs[i],ys[i],q,r,xab h,xab (he▸h)⟩,Pv (i+1),fun σ' H' z=>⟨xs.length-(i+1),by omega,rfl,by omega,z⟩,?_⟩;rintro x H' ⟨T,u,v,rfl,hT,rfl,hu,hv⟩;exact hs i u v σ H T (hu xs q) (hv ys r) p hT
 ·have e:i=xs.length:=by omega
  subst e;exact .inl ⟨⟨xs,ys,q,r,.inl (xae _)⟩,hd σ H p⟩
end
end L2
set_option maxHeartbeats 2000000
namespace My
def G (d:Int) (ns:List Int):Int:=ns.foldl (fun d n=>((Int.gcd d n:Nat):Int)) d
abbrev gl (ns:List Int):Int:=G 0 ns
theorem jgW (d n:Int) (r:List Int):G d (n::r)=G (Int.gcd d n:Nat) r:=rfl
theorem jng (d:Int) (l:List Int) (n:Int):G d (l++[n])=(Int.gcd (G d l) n:Nat):=by
 unfold G;rw[List.foldl_append];rfl
theorem jgX:∀(ns:List Int) (d:Int),0<=d->0<=G d ns
 | [],_,h=>h
 | n::r,d,_=>by rw[jgW];exact jgX r _ (by omega)
theorem jbI (ns:List Int):0<=gl ns:=jgX ns 0 (by omega)
theorem jnh:∀(ns:List Int) (d:Int),G d ns ∣ d/\∀n∈ns,G d ns ∣ n
  | [],d=>⟨Int.dvd_refl d,fun n h=>nomatch h⟩
  | m :: r, d => by
    obtain⟨h1,h2⟩:=jnh r (Int.gcd d m:Nat);rw[jgW];refine⟨Int.dvd_trans h1 (Int.gcd_dvd_left ..),fun n hn=>?_⟩;rcases xac.mp hn with rfl | hn
    . exact Int.dvd_trans h1 (Int.gcd_dvd_right ..)
    . exact h2 n hn
variable {ns:List Int}
variable {n k a g c v d y z s:Int}
theorem ja2 (h:n∈ns):gl ns ∣ n:=(jnh ns 0).2 n h
theorem jni:∀(ns:List Int) (d k:Int),k ∣ d->(∀n∈ns,k ∣ n)->k ∣ G d ns
  | [],_,_,h,_=>h
  | m :: r, d, k, h, hn => by
    rw[jgW];refine jni r _ k ?_ fun n h'=>hn n (xaq _ h');have h2:=hn m xav;exact Int.dvd_coe_gcd h h2
theorem jgY (h:∀n∈ns,k ∣ n):k ∣ gl ns:=jni ns 0 k (Int.dvd_zero k) h
theorem jlP (h0:0<=k) (h:k ∣ 1):k=1:=by
 exact Int.eq_one_of_dvd_one h0 h
theorem jkU (hg:gl ns≠0):gl (ns.map (· / gl ns))=1:=by
 have h0:=jbI ns;refine jlP (jbI _) ?_;have h1:∀n∈ns,gl (ns.map (· / gl ns))*gl ns ∣ n:=fun n hn=>by
  obtain⟨c,hc⟩:=ja2 (ns:=ns.map (· / gl ns)) (xaA.mpr ⟨n,hn,rfl⟩);refine⟨c,?_⟩;have e:n=n / gl ns*gl ns:=(xax (ja2 hn)).symm;rw[e,hc,xbJ,Int.mul_comm c,<- xbJ]
 obtain⟨c,hc⟩:=jgY h1;refine⟨c,?_⟩;have h2:gl ns*1=gl ns*(gl (ns.map (· / gl ns))*c):=by
  rw[Int.mul_one,<- xbJ,Int.mul_comm (gl ns) (gl (ns.map (· / gl ns)))];exact hc
 exact Int.eq_of_mul_eq_mul_left hg h2
theorem jnj:∀ns:List Int,G 1 ns=1
  | []=>rfl
  | n :: r => by
    rw[jgW];have:Int.gcd 1 n=1:=by simp
    rw[this];exact jnj r
theorem jjW (d:Int) (a b:List Int):G d (a++b)=G (G d a) b:=by
 unfold G;exact List.foldl_append
variable {i f j:Nat}
theorem jeU (h:gl (ns.take i)=1):gl ns=1:=by
 have e:ns=ns.take i++ns.drop i:=(List.take_append_drop i ns).symm;rw[e];show G 0 _=1;rw[jjW];have h':G 0 (ns.take i)=1:=h;rw[h'];exact jnj _
theorem jdQ (h:ns[i]?=some n):gl (ns.take (i+1))=(Int.gcd (gl (ns.take i)) n:Nat):=by
 rw[xaH,h];exact jng 0 _ n
theorem jgv (ns:List Int):ns.map (· / 1)=ns:=by
 induction ns with
 | nil=>rfl
 | cons a r ih=>rw[xaT,ih,Int.ediv_one]
theorem jgZ (a b:Int) (ha:0<=a):Int.gcd b (a % b)=Int.gcd a b:=by
 have h1:(a % b).natAbs=a.natAbs % b.natAbs:=Int.natAbs_emod_of_nonneg ha b;rw[Int.gcd_eq_natAbs_gcd_natAbs,Int.gcd_eq_natAbs_gcd_natAbs,h1];rw[Nat.gcd_comm,Nat.gcd_comm a.natAbs,<- Nat.gcd_rec]
theorem jlQ (a b:Int):Int.gcd (if a<0 then -a else a) (if b<0 then -b else b)=Int.gcd a b:=by
 split<;>split<;>simp [Int.gcd_neg,Int.neg_gcd]
theorem jhJ (a b:Int):Int.gcd (if b>a then b else a) (if b<a then b else a)=Int.gcd a b:=by
 split<;>split
 ·omega
 ·exact Int.gcd_comm b a
 ·rfl
 ·have:a=b:=by omega
  rw[this]
theorem parts {b:Int} (ha:a∈ns) (hb:b∈ns):(a / gl ns)*b=a*(b / gl ns):=by
 have e1:a=a / gl ns*gl ns:=(xax (ja2 ha)).symm;have e2:b=b / gl ns*gl ns:=(xax (ja2 hb)).symm
 conv=>lhs;rhs;rw[e2]
 conv=>rhs;lhs;rw[e1]
 rw[xbJ,Int.mul_comm (gl ns)]
theorem jf6 (h:n∈ns) (hn:n≠0):0<gl ns:=by
 have h0:=jbI ns;rcases Int.lt_or_eq_of_le h0 with h1 | h1
 ·exact h1
 ·obtain⟨c,hc⟩:=ja2 h;rw[<- h1,xa4] at hc;exact absurd hc hn
end My
namespace My
variable {n k a g c v d y z s:Int}
theorem jgw (h:g ∣ n) (hn:n≠0):n / g≠0:=fun z=>by
 have e:=xax h;rw[z,xa4] at e;exact hn e.symm
end My
local macro_rules | `(tactic| walk_at "rjs") => `(tactic| simp only [L2.jbQ, L2.jlp, L2.jhW, L2.jkC, L2.jbt, L2.jjp, L2.tC, L2.tOp, L2.tUn, L2.jht, L2.tB, L2.jmR, L2.jmA, L2.jjv, L2.jgh, L2.jgG, L2.jju, L2.jmP, L2.tOr, L2.jmQ, L2.jhV, L2.tOrV, L2.jjt, L2.jfN, L2.tCB, L2.jfM, L2.jgN, L2.jmC, L2.jmD, L2.jmU, L2.jm4, L2.tBM, L2.tyV, L2.jmF, L2.gk, and_self, L2.tSl, L2.jeo, L2.jic, L2.jjw, L2.jej, L2.jkB, L2.jgj, and_assoc, L2.rI, L2.rI0, L2.rU, L2.rEq, L2.rNe, L2.jmB, List.map_cons, List.map_nil, List.length_cons, List.length_nil, List.replicate_succ, List.replicate_zero, List.cons_append, List.nil_append, List.append_nil, Nat.reduceSub, Nat.reduceAdd, Nat.sub_self, List.set_cons_zero, List.set_cons_succ, List.getElem?_cons_zero, List.getElem?_cons_succ, Option.some.injEq, exists_eq_left', exists_eq_left, L2.V.int.injEq, L2.V.bl.injEq, L2.V.ref.injEq, L2.V.ty.injEq, List.cons.injEq, exists_and_left, and_true, true_and, reduceCtorEq, false_and, and_false, exists_false, or_false, false_or, L2.jaI, Option.getD_some, Bool.true_eq_false, decide_eq_true_eq, Bool.not_eq_true', decide_eq_false_iff_not, decide_not, Bool.false_eq_true, if_true, if_false, ite_not])
local macro_rules | `(tactic| walk_at "rj") => `(tactic| first | ((dsimp only [L2.jbQ, L2.jlp, L2.jhW, L2.jkC, L2.jbt, L2.jjp, L2.tC, L2.tOp, L2.tUn, L2.jht, L2.tB, L2.jmR, L2.jmA, L2.jjv, L2.jgh, L2.jgG, L2.jju, L2.jmP, L2.tOr, L2.jmQ, L2.jhV, L2.tOrV, L2.jjt, L2.jfN, L2.tCB, L2.jfM, L2.jgN, L2.jmC, L2.jmD, L2.jmU, L2.jm4, L2.tBM, L2.tyV, L2.jmF, L2.gk, L2.tSl, L2.jeo, L2.jic, L2.jjw, L2.jej, L2.jkB, L2.jgj, L2.rI, L2.rI0, L2.rU, L2.rEq, L2.rNe, L2.jmB, L2.jaI, List.map_cons, List.map_nil, List.length_cons, List.length_nil, List.replicate_succ, List.replicate_zero, List.cons_append, List.nil_append, List.set_cons_zero, List.set_cons_succ, List.getElem?_cons_zero, List.getElem?_cons_succ, Option.getD_some, Nat.reduceSub, Nat.reduceAdd]); (try walk_at "rjs")) | walk_at "rjs")
local macro_rules | `(tactic| walk_at "go") => `(tactic| repeat (first | refine L2.ixT (by assumption) rfl ?_ | refine L2.ixL (by assumption) rfl ?_ | refine And.intro (by assumption) ?_ | walk_at "rj"))
local macro_rules | `(tactic| walk_at "ris") => `(tactic| simp only [L2.jbQ, L2.jlp, L2.jhW, L2.jkC, L2.jbt, L2.jjp, L2.tC, L2.tOp, L2.tUn, L2.jht, L2.tB, L2.jmR, L2.jmA, L2.jjv, L2.jgh, L2.jgG, L2.jju, L2.jmP, L2.tOr, L2.jmQ, L2.jhV, L2.tOrV, L2.jjt, L2.jfN, L2.tCB, L2.jfM, L2.jgN, L2.jmC, L2.jmD, L2.jmU, L2.jm4, L2.tBM, L2.tyV, L2.jmF, L2.gk, and_self, L2.tSl, L2.jeo, L2.jic, L2.jjw, L2.jej, L2.jkB, L2.jgj, and_assoc, L2.rI, L2.rI0, L2.rU, L2.rEq, L2.rNe, L2.jmB, List.map_cons, List.map_nil, List.length_cons, List.length_nil, List.replicate_succ, List.replicate_zero, List.cons_append, List.nil_append, List.append_nil, Nat.reduceSub, Nat.reduceAdd, Nat.sub_self, List.set_cons_zero, List.set_cons_succ, List.getElem?_cons_zero, List.getElem?_cons_succ, Option.some.injEq, exists_eq_left', exists_eq_left, L2.V.int.injEq, L2.V.bl.injEq, L2.V.ref.injEq, L2.V.ty.injEq, List.cons.injEq, exists_and_left, and_true, true_and, reduceCtorEq, false_and, and_false, exists_false, or_false, false_or, L2.jaI, Option.getD_some, Bool.true_eq_false, decide_eq_true_eq, Bool.not_eq_true', decide_eq_false_iff_not, decide_not, Bool.false_eq_true, if_true, if_false, ite_not, L2.jis, L2.jit, L2.jkM, L2.jkN, L2.jgP, L2.jgQ, L2.jiu, L2.jiv, L2.jkR, L2.jiz, L2.jgK, L2.V.str.injEq, L2.jgS, L2.jfm, L2.jgT, L2.jkT])
local macro_rules | `(tactic| walk_at "ri") => `(tactic| first | ((dsimp only [L2.jbQ, L2.jlp, L2.jhW, L2.jkC, L2.jbt, L2.jjp, L2.tC, L2.tOp, L2.tUn, L2.jht, L2.tB, L2.jmR, L2.jmA, L2.jjv, L2.jgh, L2.jgG, L2.jju, L2.jmP, L2.tOr, L2.jmQ, L2.jhV, L2.tOrV, L2.jjt, L2.jfN, L2.tCB, L2.jfM, L2.jgN, L2.jmC, L2.jmD, L2.jmU, L2.jm4, L2.tBM, L2.tyV, L2.jmF, L2.gk, L2.tSl, L2.jeo, L2.jic, L2.jjw, L2.jej, L2.jkB, L2.jgj, L2.rI, L2.rI0, L2.rU, L2.rEq, L2.rNe, L2.jmB, L2.jaI, L2.jis, L2.jit, L2.jkM, L2.jkN, L2.jgP, L2.jgQ, L2.jiu, L2.jiv, L2.jkR, L2.jiz, L2.jgK, L2.jgS, L2.jfm, L2.jgT, L2.jkT, List.map_cons, List.map_nil, List.length_cons, List.length_nil, List.replicate_succ, List.replicate_zero, List.cons_append, List.nil_append, List.set_cons_zero, List.set_cons_succ, List.getElem?_cons_zero, List.getElem?_cons_succ, Option.getD_some, Nat.reduceSub, Nat.reduceAdd]); (try walk_at "ris")) | walk_at "ris")
local macro_rules | `(tactic| walk_at "sd") => `(tactic| first | assumption | exact L2.Fit.o (by omega) (by omega) | (show L2.CPow _ _; exact ⟨by decide, by decide, by decide⟩) | decide)
local macro_rules | `(tactic| walk_at "gf") => `(tactic| repeat (first | ((with_reducible apply L2.ixT); assumption; rfl) | ((with_reducible apply L2.ixL); assumption; rfl) | ((with_reducible apply L2.FoR.lst); assumption) | ((with_reducible apply L2.FoR.tup); assumption) | ((with_reducible apply L2.FoR.len); assumption) | ((with_reducible apply L2.FoR.lenT); assumption) | ((with_reducible apply And.intro); (walk_at "sd")) | walk_at "ri"))
local macro_rules | `(tactic| walk_at "sc") => `(tactic| exact ⟨rfl, rfl, rfl, by decide +kernel, rfl, by decide +kernel, by decide +kernel⟩)
local macro_rules | `(tactic| walk_at "rd") => `(tactic| try walk_at "rj")
local macro_rules | `(tactic| walk_at "rf") => `(tactic| try walk_at "ri")
namespace My
open PySem L2 PyProof.Rows
def top (i:Nat):Stmt:=PySem.Challenge.pw_boardsight_k86_yards_written_and_read.main.body.getD i (.Pass ⟨0,0,0,0⟩)
abbrev jex:Stmt:=top 12
abbrev jbl:Stmt:=top 14
abbrev jaW:Stmt:=top 15
abbrev jey:Stmt:=top 16
abbrev jcb:Stmt:=top 17
abbrev jbW:Stmt:=top 19
abbrev jct:Stmt:=top 20
abbrev jdH:Stmt:=top 21
abbrev jez:Stmt:=top 22
abbrev jcu:Stmt:=top 24
abbrev jbc:Stmt:=top 25
abbrev jdI:Stmt:=top 26
abbrev jcc:Stmt:=top 27
abbrev jbJ:Stmt:=top 28
abbrev jcd:Stmt:=top 29
abbrev jeA:Stmt:=top 30
abbrev jfq:Stmt:=top 33
abbrev jc8:Stmt:=top 34
abbrev jbX:Stmt:=top 35
abbrev jc9:Stmt:=top 36
abbrev jcv:Stmt:=top 37
abbrev jcw:Stmt:=top 41
abbrev jbB:Stmt:=top 47
abbrev jcx:Stmt:=top 48
abbrev jce:Stmt:=top 49
abbrev jbK:Stmt:=top 50
abbrev jbL:Stmt:=top 51
abbrev jbw:Stmt:=top 52
abbrev jaO:Stmt:=top 53
abbrev jcf:Stmt:=top 54
abbrev jda:Stmt:=top 55
abbrev jcy:Stmt:=top 56
abbrev jdb:Stmt:=top 57
abbrev jcg:Stmt:=jcp (top 42) 5
abbrev jbM:Stmt:=jcp (top 42) 0
abbrev jbY:Stmt:=jcp (top 42) 1
abbrev jdJ:Stmt:=jcp (top 42) 2
abbrev jdc:Stmt:=jcp (top 42) 4
abbrev jbx:Stmt:=jcp (top 42) 6
abbrev jbm:Stmt:=jcp (top 42) 7
abbrev jcz:Stmt:=jcp (top 42) 9
abbrev jdd:Stmt:=top 59
abbrev jde:Stmt:=top 60
abbrev jbZ:Stmt:=top 61
abbrev jbn:Stmt:=top 62
abbrev jcA:Stmt:=top 63
abbrev jaS:Stmt:=top 65
abbrev ja8:Stmt:=top 66
abbrev jdf:Stmt:=top 67
abbrev jcB:Stmt:=top 68
abbrev jbN:Stmt:=top 69
abbrev jby:Stmt:=top 71
abbrev jbC:Stmt:=top 72
abbrev jbo:Stmt:=top 73
abbrev jbO:Stmt:=top 74
abbrev jbD:Stmt:=top 75
abbrev jb0:Stmt:=top 76
abbrev jeB:Stmt:=top 77
abbrev jeC:Stmt:=top 78
def Small (i:Int):Prop:=i.natAbs<2^1990
theorem Small.neg {i:Int} (h:Small i):Small (-i):=by unfold Small at *;rw[xbH];exact h
theorem Small.ite {c:Prop} [Decidable c] {i j:Int} (h:Small i) (h':Small j):Small (if c then i else j):=by split<;>assumption
theorem Small.bd {i:Int} (h:Small i):Bd 1990 i:=h
theorem Small.of {i:Int} (h1:-1606938044258990275541962092341162602522202993782792835301376<i) (h2:i<1606938044258990275541962092341162602522202993782792835301376):Small i:=(Bd.of h1 h2).mono
variable {n k a g c v d y z s:Int}
theorem Small.div {i:Int} (h:Small i):Small (i / g):=xaU (xa5 i g) h
variable {ns:List Int}
theorem jfr (h:∀n∈ns,Small n):Small (gl ns):=by
 by_cases c:∃n∈ns,n≠0
 ·obtain⟨n,hn,h0⟩:=c;have z:=Int.natAbs_dvd_natAbs.mpr (ja2 hn);exact xaU (Nat.le_of_dvd (by omega) z) (h n hn)
 ·have z:(0:Int) ∣ gl ns:=jgY fun n hn=>by
   have:n=0:=xap fun q=>c ⟨n,hn,q⟩;rw[this];exact Int.dvd_refl 0
  rw[Int.zero_dvd.mp z];exact Nat.two_pow_pos _
variable {H H':Hp}
theorem Same.keep {p:Addr} {o:HO} (h:Same H H') (n:H p=none):Same H (upd H' p o):=fun b u q=>by rw[jak (jal q n)];exact h b u q
variable {i f j:Nat}
theorem jg0 {v:V} (h:(ns.map V.int)[i]?=some v):∃z,v=V.int z/\ns[i]?=some z:=by
 rw[xad] at h;cases e:ns[i]? with
 | none=>rw[e] at h;cases h
 | some z=>rw[e] at h;exact⟨z,(Option.some.inj h).symm,rfl⟩
def spGd:Sp:=fun vs H Q _=>∃a b:Int,vs=[.int a,.int b]/\Small a/\Small b/\Q (.int (Int.gcd a b:Nat)) H
def jjX:Sp:=fun vs H Q _=>∃(a:Addr) (ns:List Int),vs=[.ref a]/\H a=some (.tup (ns.map V.int))/\ns.length<=10/\(∀n∈ns,Small n)/\gl ns≠0 /\
 ∀(r:Addr) (H':Hp),Same H H'->H' r=some (.tup ((ns.map (· / gl ns)).map V.int))->Q (.ref r) H'
def jjY (K:PySem.W.Frag):Sp:=fun vs H Q _=>∃(a:Addr) (ns:List Int),vs=[.ref a]/\SqL K H a (ns.map V.int)/\ns.length<=63/\∀H',Q (.bl true) H'
structure Tx (K:PySem.W.Frag) (mg:Str->Option Value) (t1 t2:Tok):Prop where
 m_abs:mg "abs"=none
 m_max:mg "max"=none
 m_min:mg "min"=none
 m_len:mg "len"=none
 m_all:mg "all"=none
 m_range:mg "range"=none
 m_tuple:mg "tuple"=none
 m_list:mg "list"=none
 m_str:mg "str"=none
 m_isinstance:mg "isinstance"=none
 m_reversed:mg "reversed"=none
 m_int:mg "int"=none
 m_sum:mg "sum"=none
 m_enumerate:mg "enumerate"=none
 m_zip:mg "zip"=none
 m_SHORT_BITS:mg "SHORT_BITS"=some (.int 2000 t1)
 m_MOST_CORNERS:mg "MOST_CORNERS"=some (.int 8 t2)
 e_MOST_LETTERS:∃v,mg "MOST_LETTERS"=some v/\RelV (.int 8) v
 e_MOST_BOARDS:∃v,mg "MOST_BOARDS"=some v/\RelV (.int 6) v
 e_MOST_FIGURES:∃v,mg "MOST_FIGURES"=some v/\RelV (.int 30) v
 e_PIECE_FIGURES:∃v,mg "PIECE_FIGURES"=some v/\RelV (.int 64) v
 e_FIGURES:∃v,mg "FIGURES"=some v/\RelV (.str "0123456789") v
theorem Tx.m_MOST_LETTERS {K:PySem.W.Frag} {mg:Str->Option Value} {t1 t2:Tok} (T:Tx K mg t1 t2):mg "MOST_LETTERS"=some T.e_MOST_LETTERS.choose:=T.e_MOST_LETTERS.choose_spec.1
theorem Tx.r_MOST_LETTERS {K:PySem.W.Frag} {mg:Str->Option Value} {t1 t2:Tok} (T:Tx K mg t1 t2):RelV (.int 8) T.e_MOST_LETTERS.choose:=T.e_MOST_LETTERS.choose_spec.2
theorem Tx.m_MOST_BOARDS {K:PySem.W.Frag} {mg:Str->Option Value} {t1 t2:Tok} (T:Tx K mg t1 t2):mg "MOST_BOARDS"=some T.e_MOST_BOARDS.choose:=T.e_MOST_BOARDS.choose_spec.1
theorem Tx.r_MOST_BOARDS {K:PySem.W.Frag} {mg:Str->Option Value} {t1 t2:Tok} (T:Tx K mg t1 t2):RelV (.int 6) T.e_MOST_BOARDS.choose:=T.e_MOST_BOARDS.choose_spec.2
theorem Tx.m_MOST_FIGURES {K:PySem.W.Frag} {mg:Str->Option Value} {t1 t2:Tok} (T:Tx K mg t1 t2):mg "MOST_FIGURES"=some T.e_MOST_FIGURES.choose:=T.e_MOST_FIGURES.choose_spec.1
theorem Tx.r_MOST_FIGURES {K:PySem.W.Frag} {mg:Str->Option Value} {t1 t2:Tok} (T:Tx K mg t1 t2):RelV (.int 30) T.e_MOST_FIGURES.choose:=T.e_MOST_FIGURES.choose_spec.2
theorem Tx.m_PIECE_FIGURES {K:PySem.W.Frag} {mg:Str->Option Value} {t1 t2:Tok} (T:Tx K mg t1 t2):mg "PIECE_FIGURES"=some T.e_PIECE_FIGURES.choose:=T.e_PIECE_FIGURES.choose_spec.1
theorem Tx.r_PIECE_FIGURES {K:PySem.W.Frag} {mg:Str->Option Value} {t1 t2:Tok} (T:Tx K mg t1 t2):RelV (.int 64) T.e_PIECE_FIGURES.choose:=T.e_PIECE_FIGURES.choose_spec.2
theorem Tx.m_FIGURES {K:PySem.W.Frag} {mg:Str->Option Value} {t1 t2:Tok} (T:Tx K mg t1 t2):mg "FIGURES"=some T.e_FIGURES.choose:=T.e_FIGURES.choose_spec.1
theorem Tx.r_FIGURES {K:PySem.W.Frag} {mg:Str->Option Value} {t1 t2:Tok} (T:Tx K mg t1 t2):RelV (.str "0123456789") T.e_FIGURES.choose:=T.e_FIGURES.choose_spec.2
theorem Tx.r_SHORT_BITS {K:PySem.W.Frag} {mg:Str->Option Value} {t1 t2:Tok} (_:Tx K mg t1 t2):RelV (.int 2000) (.int 2000 t1):=⟨_,rfl⟩
theorem Tx.r_MOST_CORNERS {K:PySem.W.Frag} {mg:Str->Option Value} {t1 t2:Tok} (_:Tx K mg t1 t2):RelV (.int 8) (.int 8 t2):=⟨_,rfl⟩
def low (ns:List Int):List Int:=ns.map (· / gl ns)
def Sm2 (i:Int):Prop:=i.natAbs<2^200
theorem Sm2.bd {i:Int} (h:Sm2 i):Bd 1990 i:=Bd.mono (n:=200) h
theorem Sm2.of {i:Int} (h1:-1606938044258990275541962092341162602522202993782792835301376<i) (h2:i<1606938044258990275541962092341162602522202993782792835301376):Sm2 i:=Bd.of h1 h2
theorem Sm2.div {i:Int} (h:Sm2 i):Sm2 (i / g):=xaU (xa5 i g) h
structure Pt where
 x:Int
 y:Int
 z:Int
 w:Int
def Pt.sm (p:Pt):Prop:=Sm2 p.x/\Sm2 p.y/\Sm2 p.z/\Sm2 p.w
def Pt.lo (p:Pt):Prop:=Bd 60 p.x/\Bd 60 p.y/\Bd 60 p.z/\Bd 60 p.w/\1<=p.w
def Is4 (H:Hp) (r:Addr) (p:Pt):Prop:=H r=some (.tup [.int p.x,.int p.y,.int p.z,.int p.w])/\p.sm
variable {r SE Y pL:Addr}
variable {p:Pt}
theorem Is4.keep (h:Is4 H r p) (s:Same H H'):Is4 H' r p:=⟨s _ _ h.1,h.2⟩
theorem Is4.sq {K:PySem.W.Frag} (h:Is4 H r p):SqT K H r [.int p.x,.int p.y,.int p.z,.int p.w]:=SqT.of h.1
theorem Pt.sm.fx (h:p.sm):Fit p.x:=h.1.bd.fit
theorem Pt.sm.fy (h:p.sm):Fit p.y:=h.2.1.bd.fit
theorem Pt.sm.fz (h:p.sm):Fit p.z:=h.2.2.1.bd.fit
theorem Pt.sm.fw (h:p.sm):Fit p.w:=h.2.2.2.bd.fit
def wo (k:Int) (p:Pt):List Int:=if k=0 then [p.y,p.z,p.w] else if k=1 then [p.x,p.z,p.w] else if k=2 then [p.x,p.y,p.w] else [p.x,p.y,p.z]
def jdK (a b c x y z u v w:Int):Int:=(b*z-c*y)*u+(c*x-a*z)*v+(a*y-b*x)*w
def detL:List Int->List Int->List Int->Int
 | [a,b,c],[x,y,z],[u,v,w]=>jdK a b c x y z u v w
 | _,_,_=>0
def jay (k:Int) (p q r:Pt):Int:=detL (wo k p) (wo k q) (wo k r)
def inl (p q r:Pt):Bool:=decide (jay 0 p q r=0/\jay 1 p q r=0/\jay 2 p q r=0)
def Tup3 (H:Hp) (r:Addr) (a b c:Int):Prop:=H r=some (.tup [.int a,.int b,.int c])/\Sm2 a/\Sm2 b/\Sm2 c
def jfs:Sp:=fun vs H Q _=>∃(r p:Addr) (a b c x y z:Int),vs=[.ref r,.ref p]/\Tup3 H r a b c/\Tup3 H p x y z /\
 ∀(t:Addr) (H':Hp),Same H H'->H' t=some (.tup [.int (b*z-c*y),.int (c*x-a*z),.int (a*y-b*x)])->Q (.ref t) H'
def jnk:Sp:=fun vs H Q _=>∃(r p s:Addr) (a b c x y z u v w:Int),vs=[.ref r,.ref p,.ref s]/\Tup3 H r a b c/\Tup3 H p x y z/\Tup3 H s u v w/\∀H':Hp,Same H H'->Q (.int (jdK a b c x y z u v w)) H'
def jf7:Sp:=fun vs H Q _=>∃(r:Addr) (k:Int) (p:Pt),vs=[.ref r,.int k]/\Is4 H r p/\0<=k/\k<=3/\∀(t:Addr) (H':Hp),Same H H'->H' t=some (.tup ((wo k p).map V.int))->Q (.ref t) H'
def jft:Sp:=fun vs H Q _=>∃(r s t:Addr) (k:Int) (p q o:Pt),vs=[.ref r,.ref s,.ref t,.int k]/\Is4 H r p/\Is4 H s q/\Is4 H t o/\0<=k/\k<=3/\∀H':Hp,Same H H'->Q (.int (jay k p q o)) H'
def jkV:Sp:=fun vs H Q _=>∃(r s t:Addr) (p q o:Pt),vs=[.ref r,.ref s,.ref t]/\Is4 H r p/\Is4 H s q/\Is4 H t o/\∀H':Hp,Same H H'->Q (.bl (inl p q o)) H'
def jg1:Sp:=fun vs H Q _=>∃(r:Addr) (ns:List Int),vs=[.ref r]/\H r=some (.tup (ns.map V.int))/\ns.length<=10/\∀(t:Addr) (H':Hp),Same H H'->H' t=some (.tup ((ns.map fun n=>-n).map V.int))->Q (.ref t) H'
def plb (a b c:Int):Bool:=if a≠0 then decide (0<a) else if b≠0 then decide (0<b) else if c≠0 then decide (0<c) else false
def jiG:Sp:=fun vs H Q _=>∃(r:Addr) (a b c d:Int),vs=[.ref r]/\H r=some (.tup [.int a,.int b,.int c,.int d])/\∀H':Hp,Same H H'->Q (.bl (plb a b c)) H'
def rgh (p o u:Pt):List Int:=[jay 0 p o u,-jay 1 p o u,jay 2 p o u,jay 3 p o u]
def jiH:Sp:=fun vs H Q _=>∃(r e t:Addr) (p o u:Pt),vs=[.ref r,.ref e,.ref t]/\Is4 H r p/\Is4 H e o/\Is4 H t u/\∀(g:Addr) (H':Hp),Same H H'->H' g=some (.tup ((rgh p o u).map V.int))->Q (.ref g) H'
def pln (ns:List Int):List Int:=match low ns with
 | [a,b,c,d]=>if plb a b c=true then [a,b,c,d] else [-a,-b,-c,-d]
 | l=>l
def jdg (p o u:Pt):Prop:=jay 0 p o u=0/\jay 1 p o u=0/\jay 2 p o u=0
def hgt (a b c d:Int) (p:Pt):Int:=a*p.x+b*p.y+c*p.z-d*p.w
def sgn (n:Int):Int:=if n>0 then 1 else if n<0 then -1 else 0
def jiI:Sp:=fun vs H Q _=>∃n:Int,vs=[.int n]/\Q (.int (sgn n)) H
def sf (x y z w x' y' z' w':Int):Bool:=if x*w'≠x'*w then decide (x*w'<x'*w) else if y*w'≠y'*w then decide (y*w'<y'*w) else if z*w'≠z'*w then decide (z*w'<z'*w) else false
def sfp (p o:Pt):Bool:=sf p.x p.y p.z p.w o.x o.y o.z o.w
def jfu:Sp:=fun vs H Q _=>∃(r e:Addr) (p o:Pt),vs=[.ref r,.ref e]/\Is4 H r p/\Is4 H e o/\Q (.bl (sfp p o)) H
def jiJ:Sp:=fun vs H Q _=>∃a b c d:Int,vs=[.int a,.int b,.int c,.int d]/\Small a/\Small b/\Small c/\Small d/\¬(a=0/\b=0/\c=0)/\∀(r:Addr) (H':Hp),Same H H'->H' r=some (.tup ((low [a,b,c,d]).map V.int))->Q (.ref r) H'
def jf8:Sp:=fun vs H Q _=>∃(r e t:Addr) (p o u:Pt),vs=[.ref r,.ref e,.ref t]/\Is4 H r p/\Is4 H e o/\Is4 H t u/\¬jdg p o u/\∀(g:Addr) (H':Hp),Same H H'->H' g=some (.tup ((pln (rgh p o u)).map V.int))->Q (.ref g) H'
def spHt:Sp:=fun vs H Q _=>∃(r e:Addr) (a b c d:Int) (p:Pt),vs=[.ref r,.ref e]/\H r=some (.tup [.int a,.int b,.int c,.int d])/\Small a/\Small b/\Small c/\Small d/\Is4 H e p/\Q (.int (hgt a b c d p)) H
def jkW:Sp:=fun vs H Q _=>∃(r e:Addr) (a b c d:Int) (p:Pt),vs=[.ref r,.ref e]/\H r=some (.tup [.int a,.int b,.int c,.int d])/\Small a/\Small b/\Small c/\Small d/\Is4 H e p/\Q (.int (sgn (hgt a b c d p))) H
inductive Sps (H:Hp):List Addr->List Pt->Prop
 | nil:Sps H [] []
 | cons {r:Addr} {p:Pt} {rs:List Addr} {ps:List Pt} (h:Is4 H r p) (t:Sps H rs ps):Sps H (r::rs) (p::ps)
variable {rs S M:List Addr}
variable {ps qs l:List Pt}
theorem Sps.keep (h:Sps H rs ps) (s:SameT H H'):Sps H' rs ps:=by
 induction h with
 | nil=>exact .nil
 | cons h _ ih=>exact .cons ⟨s _ _ h.1,h.2⟩ ih
theorem Sps.len (h:Sps H rs ps):rs.length=ps.length:=by
 induction h with
 | nil=>rfl
 | cons h _ ih=>rw[xam,xam,ih]
theorem Sps.app {rs':List Addr} {ps':List Pt} (h:Sps H rs ps) (k:Sps H rs' ps'):Sps H (rs++rs') (ps++ps'):=by
 induction h with
 | nil=>exact k
 | cons h _ ih=>exact .cons h ih
theorem Sps.rev (h:Sps H rs ps):Sps H rs.reverse ps.reverse:=by
  induction h with
  | nil=>exact .nil
  | cons h _ ih =>
    rw[xba,xba];exact ih.app (.cons h .nil)
theorem Sps.drop (h:Sps H rs ps):∀n,Sps H (rs.drop n) (ps.drop n):=by
  induction h with
  | nil=>intro n;rw[xbK,xbK];exact .nil
  | cons h k ih =>
    intro n;cases n with
    | zero=>exact .cons h k
    | succ n=>exact ih n
theorem Sps.take (h:Sps H rs ps):∀n,Sps H (rs.take n) (ps.take n):=by
  induction h with
  | nil=>intro n;rw[xbz,xbz];exact .nil
  | cons h k ih =>
    intro n;cases n with
    | zero=>exact .nil
    | succ n=>exact .cons h (ih n)
def p0:Pt:=⟨0,0,0,0⟩
def pt (ps:List Pt) (i:Nat):Pt:=ps.getD i p0
def ad (rs:List Addr) (i:Nat):Addr:=rs.getD i 0
theorem Sps.get (h:Sps H rs ps):∀{i:Nat},i<ps.length->(rs.map V.ref)[i]?=some (.ref (ad rs i))/\Is4 H (ad rs i) (pt ps i):=by
  induction h with
  | nil=>intro i hi;exact absurd hi (by simp)
  | cons h k ih =>
    intro i hi;cases i with
    | zero=>exact⟨rfl,h⟩
    | succ i=>exact ih (by simpa using hi)
theorem jg2 {α:Type} {xs:List α} {v:α} {n:Nat} (hn:xs.length=n+1) (h:xs[n]?=some v):atI xs (-1)=some v:=by
 have e:xs=xs.take n++[v]:=by
  have z:=xaH (l:=xs) (i:=n);rw[h,<- hn,xaL] at z;exact z
 rw[e];exact jjI _ _
variable {xs:List V}
theorem jdp :jeR xs (some (f:Int)) none=xs.drop f:=by
 unfold jeR;rw[HT.sIx_nat,HT.sIx_none];by_cases h:f<=xs.length
 ·rw[Nat.min_eq_left h,xaM (by rw[xaE];exact xae _)]
 ·rw[Nat.min_eq_right (by omega),List.drop_of_length_le (xae _),List.drop_of_length_le (by omega),xbz]
theorem jed :jeR xs none (some (f:Int))=xs.take f:=by
 unfold jeR;rw[HT.sIx_nat,HT.sIx_none];by_cases h:f<=xs.length
 ·rw[Nat.min_eq_left h];rfl
 ·rw[Nat.min_eq_right (by omega)];show xs.take (xs.length-0)=_;rw[Nat.sub_zero,xaL,xaM (by omega)]
def je4 (ps:List Pt):Nat->Nat
 | 0=>0
 | i+1=>if sfp (pt ps (i+1)) (pt ps (je4 ps i))=true then i+1 else je4 ps i
theorem jdh (ps:List Pt):∀i,je4 ps i<=i
  | 0=>xae _
  | i + 1 => by
    have:=jdh ps i;unfold je4;split<;>omega
def rot {α:Type} (f:Nat) (l:List α):List α:=l.drop f++l.take f
def turn {α:Type} (b:Bool) (l:List α):List α:=if b=true then l.take 1++(l.drop 1).reverse else l
def fF (ps:List Pt):Nat:=je4 ps (ps.length-1)
def fB (ps:List Pt):Bool:=sfp (pt (rot (fF ps) ps) (ps.length-1)) (pt (rot (fF ps) ps) 1)
def frm {α:Type} (ps:List Pt) (l:List α):List α:=turn (fB ps) (rot (fF ps) l)
theorem Sps.rot (h:Sps H rs ps) (f:Nat):Sps H (rot f rs) (rot f ps):=(h.drop f).app (h.take f)
theorem Sps.turn (h:Sps H rs ps) (b:Bool):Sps H (turn b rs) (turn b ps):=by
 unfold My.turn;cases b
 ·exact h
 ·exact (h.take 1).app (h.drop 1).rev
theorem Sps.frm (h:Sps H rs qs):Sps H (frm ps rs) (frm ps qs):=(h.rot _).turn _
def Cor (H:Hp) (l:Addr) (rs:List Addr) (ps:List Pt):Prop:=H l=some (.lst (rs.map V.ref))/\Sps H rs ps
theorem Cor.keep {l:Addr} (h:Cor H l rs ps) (s:Same H H'):Cor H' l rs ps:=⟨s _ _ h.1,h.2.keep s.t⟩
def jee:Sp:=fun vs H Q _=>∃(l:Addr) (rs:List Addr) (ps:List Pt),vs=[.ref l]/\Cor H l rs ps/\3<=ps.length/\ps.length<=8 /\
 ∀(t:Addr) (H':Hp),Same H H'->H' t=some (.tup ((frm ps rs).map V.ref))->Q (.ref t) H'
def jkX:Sp:=fun vs H Q _=>∃(r:Addr) (a b c d:Int),vs=[.ref r]/\H r=some (.tup [.int a,.int b,.int c,.int d])/\¬(a=0/\b=0/\c=0)/\∀k:Int,(k=0/\a≠0)\/(k=1/\a=0/\b≠0)\/(k=2/\a=0/\b=0/\c≠0)->Q (.int k) H
def jkY:Sp:=fun vs H Q _=>∃(g r e t:Addr) (k:Int) (p o u:Pt),vs=[.ref g,.ref t,.int k]/\H g=some (.tup [.ref r,.ref e])/\Is4 H r p/\Is4 H e o/\Is4 H t u/\0<=k/\k<=3/\∀H':Hp,Same H H'->Q (.int (sgn (jay k p o u))) H'
def Rnd (k:Int) (ps:List Pt):Prop:=∀i j,i<ps.length->1<=j->j<ps.length-1->sgn (jay k (pt ps ((i+(ps.length-1)) % ps.length)) (pt ps i) (pt ps ((i+j) % ps.length)))=sgn (jay k (pt ps 0) (pt ps 1) (pt ps 2))
structure Brd (ps:List Pt):Prop where
 n3:3<=ps.length
 n8:ps.length<=8
 na:¬jdg (pt ps 0) (pt ps 1) (pt ps 2)
 flat:∀i,i<ps.length->hgt (jay 0 (pt ps 0) (pt ps 1) (pt ps 2)) (-jay 1 (pt ps 0) (pt ps 1) (pt ps 2)) (jay 2 (pt ps 0) (pt ps 1) (pt ps 2)) (jay 3 (pt ps 0) (pt ps 1) (pt ps 2)) (pt ps i)=0
 rnd:∀k:Int,0<=k->k<=2->jay k (pt ps 0) (pt ps 1) (pt ps 2)≠0->Rnd k ps
section
variable {P:Program} {w:World} {K:PySem.W.Frag} {mg:Str->Option Value} {base:Heap} {t1 t2:Tok}
theorem je5:FnScope ["number"] ["number"] (jad jex):=by walk_at "sc"
theorem jbP:FnScope ["one","other","great","small","steps","rest"] ["one","other"] (jad jbl):=by walk_at "sc"
theorem jbU:FnScope ["numbers","divisor","number"] ["numbers"] (jad jaW):=by walk_at "sc"
theorem je6:FnScope ["one","other"] ["one","other"] (jad jey):=by walk_at "sc"
theorem jcU:FnScope ["one","other","third","arrow"] ["one","other","third"] (jad jcb):=by walk_at "sc"
theorem jcC:FnScope ["one","other","k","mine","yours"] ["one","other"] (jad jbW):=by walk_at "sc"
theorem je7:FnScope ["spot","place"] ["spot","place"] (jad jct):=by walk_at "sc"
theorem jeD:FnScope ["one","other","third","place"] ["one","other","third","place"] (jad jdH):=by walk_at "sc"
theorem je8:FnScope ["one","other","third","place"] ["one","other","third"] (jad jez):=by walk_at "sc"
theorem jdq:FnScope ["a","b","c","d"] ["a","b","c","d"] (jad jcu):=by walk_at "sc"
theorem jcD:FnScope ["plane"] ["plane"] (jad jbc):=by walk_at "sc"
theorem jeE:FnScope ["plane","number"] ["plane"] (jad jdI):=by walk_at "sc"
theorem jcV:FnScope ["one","other","third"] ["one","other","third"] (jad jcc):=by walk_at "sc"
theorem jci:FnScope ["one","other","third","rough","plane"] ["one","other","third"] (jad jbJ):=by walk_at "sc"
theorem jcW:FnScope ["plane","spot"] ["plane","spot"] (jad jcd):=by walk_at "sc"
theorem je9:FnScope ["plane","spot"] ["plane","spot"] (jad jeA):=by walk_at "sc"
theorem jf9:FnScope ["corners","first","k","ring"] ["corners"] (jad jfq):=by walk_at "sc"
theorem jdR:FnScope ["plane","axis"] ["plane"] (jad jc8):=by walk_at "sc"
theorem jcE:FnScope ["edge","spot","axis"] ["edge","spot","axis"] (jad jbX):=by walk_at "sc"
theorem jdS:FnScope ["corners","axis","turn","many","k","edge","ahead"] ["corners","axis"] (jad jc9):=by walk_at "sc"
theorem jdr:FnScope ["corners","plane","corner"] ["corners"] (jad jcv):=by walk_at "sc"
theorem jfa:FnScope ["text"] ["text"] (jad jcw):=by walk_at "sc"
theorem jb4:FnScope ["number","powers","place","halves"] ["number","powers","place"] (jad jbB):=by walk_at "sc"
theorem jds:FnScope ["number","powers","figures"] ["number"] (jad jcx):=by walk_at "sc"
theorem jcX:FnScope ["text","bottom"] ["text","bottom"] (jad jce):=by walk_at "sc"
theorem jdT:FnScope ["spot"] ["spot"] (jad jbK):=by walk_at "sc"
theorem jdU:FnScope ["yard","rows","name","board"] ["yard"] (jad jbL):=by walk_at "sc"
theorem jdt:FnScope ["text","figures"] ["text"] (jad jbw):=by walk_at "sc"
theorem jbE:FnScope ["text","numbers"] ["text"] (jad jaO):=by walk_at "sc"
theorem jcY:FnScope ["numbers","slash","text","told"] ["numbers","slash","text"] (jad jcf):=by walk_at "sc"
theorem jdV:FnScope ["text","parts"] ["text"] (jad jda):=by walk_at "sc"
theorem jfb:FnScope ["yard","row","words"] ["yard","row"] (jad jcy):=by walk_at "sc"
theorem jdW:FnScope ["text","yard","rows","number","row"] ["text"] (jad jdb):=by walk_at "sc"
theorem jcZ:FnScope ["self"] ["self"] (jad jcg):=by walk_at "sc"
theorem jcj:FnScope ["self"] ["self"] (jad jbM):=by walk_at "sc"
theorem jcF:FnScope ["self","standing"] ["self","standing"] (jad jbY):=by walk_at "sc"
theorem jeF:FnScope ["self","name","corners","board"] ["self","name","corners"] (jad jdJ):=by walk_at "sc"
theorem jdX:FnScope ["self"] ["self"] (jad jdc):=by walk_at "sc"
theorem jdu:FnScope ["self"] ["self"] (jad jbx):=by walk_at "sc"
theorem jc0:FnScope ["self"] ["self"] (jad jbm):=by walk_at "sc"
theorem jdv:FnScope ["self"] ["self"] (jad jcz):=by walk_at "sc"
theorem jdY:FnScope ["left","base","digit"] ["left","base"] (jad jdd):=by walk_at "sc"
theorem jdZ:FnScope ["cell","near","far","k"] ["cell"] (jad jde):=by walk_at "sc"
theorem jcG:FnScope ["numbers","found","number","other"] ["numbers"] (jad jbZ):=by walk_at "sc"
theorem jc1:FnScope ["numbers","by"] ["numbers"] (jad jbn):=by walk_at "sc"
theorem jdw:FnScope ["one","other"] ["one","other"] (jad jcA):=by walk_at "sc"
theorem jdx:FnScope ["left","span","numbers","across","some","k","up"] ["left"] (jad jaS):=by walk_at "sc"
theorem jdy:FnScope ["left","ring","number","some","s","t"] ["left"] (jad ja8):=by walk_at "sc"
theorem jd0:FnScope ["sheet","place","start","w","across","up","p","q","r","found","k","far"] ["sheet","place"] (jad jdf):=by walk_at "sc"
theorem jdz:FnScope ["one","other","k"] ["one","other"] (jad jcB):=by walk_at "sc"
theorem jd1:FnScope ["spots","start","k","row"] ["spots"] (jad jbN):=by walk_at "sc"
theorem jdA:FnScope ["left","many","stem","k","some","found","rest"] ["left","many"] (jad jby):=by walk_at "sc"
theorem jb5:FnScope ["spot","text"] ["spot"] (jad jbC):=by walk_at "sc"
theorem jc2:FnScope ["left","many","found","sheet","k"] ["left","many"] (jad jbo):=by walk_at "sc"
theorem jd2:FnScope ["names","boards","rows","k","words"] ["names","boards"] (jad jbO):=by walk_at "sc"
theorem jb6:FnScope ["left","boards","found","spots","start","row"] ["left","boards"] (jad jbD):=by walk_at "sc"
theorem jcH:FnScope ["yard"] ["yard"] (jad jb0):=by walk_at "sc"
theorem jfc:FnScope ["yard","names","forms","text"] ["yard","names","forms","text"] (jad jeB):=by walk_at "sc"
theorem jkZ:FnScope ["script","cell","left","many","names","boards","forms","yard","k","text","told"] ["script"] (jad jeC):=by walk_at "sc"
theorem ok_gd (T:Tx K mg t1 t2) (F:At K mg "greatest_divisor" jbl ["one","other"] []):jap P w K mg base CX0 1 "greatest_divisor" ["one","other"] [] spGd:=by
 refine F.ok jbP (fun vs H Q E h=>?_) (fun f cdv A outer s H vs Q E hr h=>?_)
 ·obtain⟨a,b,rfl,_⟩:=h;rfl
 obtain⟨a,b,rfl,ha,hb,q⟩:=h;have S:=jbP;refine⟨_,(jae (jas (i:=2) S.nd rfl (Or.inl rfl) (jaz (jh3 rfl) rfl T.m_max boot_max (jaa (jaz jb9 rfl T.m_abs boot_abs (jaa (pv 0) jac jah)) (jaa (jaz jb9 rfl T.m_abs boot_abs (jaa (pv 1) jac jah)) jac jaJ) jaJ)))
  (jae (jas (i:=3) S.nd rfl (Or.inl rfl) (jaz (jh4 rfl) rfl T.m_min boot_min (jaa (jaz jb9 rfl T.m_abs boot_abs (jaa (pv 0) jac jah)) (jaa (jaz jb9 rfl T.m_abs boot_abs (jaa (pv 1) jac jah)) jac jaJ) jaJ)))
  (jae (jea PassesOwn.never (jat jfK (jkI PySem.F.plainAttrs_int PySem.F.slot_int_bit_length PySem.F.type_int_bit_length jlA (pv 3)) (jc5 rfl T.m_SHORT_BITS T.r_SHORT_BITS) (jaw _)) jbj)
  (jae (jea PassesOwn.never (jat jcn (pv 3) jab (jaw _))
  (jae (jas (i:=5) S.nd rfl (Or.inl rfl) (jao jcR (pv 2) (pv 3)))
  (jae (jas (i:=2) S.nd rfl (Or.inl rfl) (pv 3))
  (jag (jas (i:=3) S.nd rfl (Or.inl rfl) (pv 5))))))
  (jag (jaq (pv 2))))))),?_⟩
 walk_at "rd";have hg:Int.gcd (if (if b<0 then -b else b)>(if a<0 then -a else a) then (if b<0 then -b else b) else (if a<0 then -a else a)) (if (if b<0 then -b else b)<(if a<0 then -a else a) then (if b<0 then -b else b) else (if a<0 then -a else a))=Int.gcd a b:=(jhJ _ _).trans (jlQ a b);have hM:0<=(if (if b<0 then -b else b)>(if a<0 then -a else a) then (if b<0 then -b else b) else (if a<0 then -a else a)):=by split<;>split<;>omega
 have hm:0<=(if (if b<0 then -b else b)<(if a<0 then -a else a) then (if b<0 then -b else b) else (if a<0 then -a else a)):=by split<;>split<;>omega
 have hs:Small (if (if b<0 then -b else b)<(if a<0 then -a else a) then (if b<0 then -b else b) else (if a<0 then -a else a)):=by
  exact Small.ite (Small.ite hb.neg hb) (Small.ite ha.neg ha)
 generalize (if (if b<0 then -b else b)>(if a<0 then -a else a) then (if b<0 then -b else b) else (if a<0 then -a else a))=M at hg hM |-
 generalize (if (if b<0 then -b else b)<(if a<0 then -a else a) then (if b<0 then -b else b) else (if a<0 then -a else a))=m at hg hm hs |-
 have hz:Builtin.Int.intBits m<=1990:=L2.jdF hs;refine⟨fun _ σ H1=>σ=[some (.int a),some (.int b),some (.int M),some (.int m),none,none]/\H1=H,⟨0,rfl,rfl⟩,?_⟩;rintro _ σ H1 ⟨rfl,rfl⟩;walk_at "rd";rw[if_neg (by omega)];refine⟨fun n σ H2=>H2=H1/\∃(x y:Int) (o:Option V),σ=[some (.int a),some (.int b),some (.int x),some (.int y),none,o]/\0<=x/\0<=y/\Int.gcd x y=Int.gcd a b/\n=y.toNat,⟨_,rfl,M,m,none,rfl,hM,hm,hg,rfl⟩,?_⟩;rintro n σ H2 ⟨rfl,x,y,o,rfl,hx,hy,hgg,rfl⟩;walk_at "rd";by_cases c:y=0
 ·subst c;rw[if_pos rfl];rw[<- hgg,Int.gcd_zero_right] at q;have e2:((x.natAbs:Nat):Int)=x:=by omega
  rw[e2] at q;exact q
 ·rw[if_neg c];have b1:=xaF x c;have b2:=xaB x (show 0<y by omega);exact⟨fun σ' H'=>σ'=[some (V.int a),some (V.int b),some (V.int y),some (V.int (x % y)),none,some (V.int (x % y))]/\H'=H2,fun σ' H' ⟨h1,h2⟩=>⟨_,by omega,h2,y,x % y,_,h1,by omega,b1,(jgZ x y hx).trans hgg,rfl⟩,by omega,rfl,rfl⟩
theorem jnl (T:Tx K mg t1 t2) (F:At K mg "in_lowest_terms" jaW ["numbers"] []) (dH:jap P w K mg base CX0 1 "greatest_divisor" ["one","other"] [] spGd):jap P w K mg base CX0 2 "in_lowest_terms" ["numbers"] [] jjX:=by
 refine F.ok jbU (fun vs H Q E h=>?_) (fun f cdv A outer s H vs Q E hr h=>?_)
 ·obtain⟨a,ns,rfl,_⟩:=h;rfl
 obtain⟨a,ns,rfl,ha,hl,hs,hg,q⟩:=h;have S:=jbU;refine⟨_,(jae (jas (i:=1) S.nd rfl (Or.inr rfl) jab)
  (jae (ja1 PassesOwn.never rfl (jeX (pv 0)) (jan (i:=2) S.nd rfl (Or.inl rfl))
  (jae (jas (i:=1) S.nd rfl (Or.inr rfl) (jai dH hr.m rfl jav (jaa (pv 1) (jaa (pv 2) jac jah) jah)))
  (jag (jaQ (jat jcN (pv 1) jab (jaw _))
  (jag (jaq (jaE ja9 rfl T.m_tuple boot_tuple (jaa (pv 0) jac jah))))
  jax))))
  (jag (jaq (jaE ja9 rfl T.m_tuple boot_tuple (jaa (jaU rfl (N':=["number","divisor"]) (ix:=[1]) ⟨rfl,rfl,by decide +kernel,by decide +kernel,by decide +kernel,(show ∀y:Str × NameKind,y∈_->y.2=NameKind.free->(jad jaW).names.lookup y.1=some .cell\/(jad jaW).names.lookup y.1=some .free from by decide +kernel),(.cons rfl (.inl rfl) rfl .nil)⟩ (jeX (pv 0)) (fun _ _ _ _=>jan (i:=0) (show (["number","divisor"]:List Str).Nodup from by decide +kernel) rfl (Or.inl rfl)) (fun _ _ _ _=>ja4) (fun _ _ _ _=>(jao jeb (pv 0) (pv 1)))) jac jcr)))))),?_⟩
 walk_at "rd";refine⟨_,rfl,a,rfl,⟨_,SqT.of ha⟩,jhY (K:=K) (a:=a) (xs:=ns.map V.int) (fun i σ H2=>H2=H/\∃o:Option V,σ=[some (.ref a),some (.int (gl (ns.take i))),o]) ⟨rfl,none,rfl⟩ (fun i σ H2 _ ⟨h,_⟩=>by rw[h];exact SqT.of ha) ?_ ?_⟩
 ·rintro i v σ H2 hi ⟨rfl,o,rfl⟩;obtain⟨z,rfl,hz⟩:=jg0 hi;walk_at "rd";refine⟨_,_,rfl,jfr fun n hn=>hs n (List.mem_of_mem_take hn),hs z (xas hz),?_⟩;walk_at "rd";rw[<- jdQ hz];refine jcl (fun c=>⟨_,.inr ⟨SqT.of ha,?_⟩⟩) fun c=>⟨rfl,_,rfl⟩;have g1:gl ns=1:=jeU c;refine q a H2 (Same.refl _) ?_;rw[g1,jgv];exact ha
 ·rintro σ H2 ⟨rfl,o,rfl⟩;walk_at "rd";have el:(ns.map V.int).length=ns.length:=xaa _;rw[el,xaL];have gp:0<gl ns:=by have:=jbI ns;omega
  refine⟨_,rfl,a,rfl,⟨_,SqT.of ha⟩,fun acc hacc=>jfi (K:=K) (a:=a) (zs:=ns.map V.int) (fun i xs H3=>Same H2 H3/\H3 acc=some (.lst xs)/\xs=((ns.take i).map (· / gl ns)).map V.int) ⟨Same.new hacc _,jaf,rfl⟩ (fun i xs H3 _ h=>h.1.tup (SqT.of ha)) ?_ ?_⟩
  ·rintro i v xs H3 hi ⟨h1,h2,rfl⟩;obtain⟨z,rfl,hz⟩:=jg0 hi;walk_at "rd";have li:=(xaj.mp hz).1;refine⟨gp,(jfr hs).bd.fit,h2,?_,Same.keep h1 hacc,jaf,?_⟩
   ·rw[xaa,xaa,xat];exact jil (by omega)
   ·rw[xaH,hz,xal,xal];rfl
  ·rintro xs H3 ⟨h1,h2,rfl⟩;rw[el,xaL] at h2;exact⟨acc,rfl,_,.inl ⟨SqL.of h2,fun l hl=>q l _ (h1.trans (Same.new hl _)) jaf⟩⟩
theorem jhK (T:Tx K mg t1 t2) (F:At K mg "crossed" jey ["one","other"] []):jap P w K mg base CX0 1 "crossed" ["one","other"] [] jfs:=by
 refine F.ok je6 (fun vs H Q E h=>?_) (fun f cdv A outer s H vs Q E hr h=>?_)
 ·obtain⟨r,p,a,b,c,x,y,z,rfl,_⟩:=h;rfl
 obtain⟨r,p,a,b,c,x,y,z,rfl,⟨h1,sa,sb,sc⟩,⟨h2,sx,sy,sz⟩,q⟩:=h;have S:=je6;refine⟨_,(jag (jaq (jbG (jaa (jao jbF (jao jaA (jar jau (pv 0) jab) (jar jau (pv 1) jab)) (jao jaA (jar jau (pv 0) jab) (jar jau (pv 1) jab))) (jaa (jao jbF (jao jaA (jar jau (pv 0) jab) (jar jau (pv 1) jab)) (jao jaA (jar jau (pv 0) jab) (jar jau (pv 1) jab))) (jaa (jao jbF (jao jaA (jar jau (pv 0) jab) (jar jau (pv 1) jab)) (jao jaA (jar jau (pv 0) jab) (jar jau (pv 1) jab))) jac jaX) jaX) jaX)))),?_⟩;have k1:SqT K H r [.int a,.int b,.int c]:=SqT.of h1;have k2:SqT K H p [.int x,.int y,.int z]:=SqT.of h2;have fa:=sa.bd.fit;have fb:=sb.bd.fit;have fc:=sc.bd.fit;have fx:=sx.bd.fit;have fy:=sy.bd.fit;have fz:=sz.bd.fit;walk_at "rf";walk_at "gf";intro t ht;exact q t _ (Same.new ht _) jaf
theorem jnm (T:Tx K mg t1 t2) (F:At K mg "determinant" jcb ["one","other","third"] []) (Ds:jap P w K mg base CX0 1 "crossed" ["one","other"] [] jfs):jap P w K mg base CX0 2 "determinant" ["one","other","third"] [] jnk:=by
 refine F.ok jcU (fun vs H Q E h=>?_) (fun f cdv A outer s H vs Q E hr h=>?_)
 ·obtain⟨r,p,e,a,b,c,x,y,z,u,v,o,rfl,_⟩:=h;rfl
 obtain⟨r,p,e,a,b,c,x,y,z,u,v,o,rfl,h1,h2,h3,q⟩:=h;have S:=jcU;refine⟨_,(jae (jas (i:=3) S.nd rfl (Or.inl rfl) (jai Ds hr.m rfl jav (jaa (pv 0) (jaa (pv 1) jac jah) jah)))
  (jag (jaq (jao jbu (jao jbu (jao jaA (jar jau (pv 3) jab) (jar jau (pv 2) jab)) (jao jaA (jar jau (pv 3) jab) (jar jau (pv 2) jab))) (jao jaA (jar jau (pv 3) jab) (jar jau (pv 2) jab)))))),?_⟩
 walk_at "rf";refine⟨r,p,a,b,c,x,y,z,rfl,h1,h2,fun t H1 s1 e1=>?_⟩;have k1:SqT K H1 t _:=SqT.of e1;have k2:SqT K H1 e [.int u,.int v,.int o]:=SqT.of (s1 _ _ h3.1);have fu:=h3.2.1.bd.fit;have fv:=h3.2.2.1.bd.fit;have fo:=h3.2.2.2.bd.fit;have ma:∀{i j k l:Int},Sm2 i->Sm2 j->Sm2 k->Sm2 l->Fit (i*j-k*l):=fun h1 h2 h3 h4=>Bd.fit (n:=401) (Bd.sub (Bd.mul (n:=200) (m:=200) h1 h2) (Bd.mul (n:=200) (m:=200) h3 h4));have g1:=ma h1.2.2.1 h2.2.2.2 h1.2.2.2 h2.2.2.1;have g2:=ma h1.2.2.2 h2.2.1 h1.2.1 h2.2.2.2;have g3:=ma h1.2.1 h2.2.2.1 h1.2.2.1 h2.2.1;walk_at "gf";exact q _ s1
theorem jhL (T:Tx K mg t1 t2) (F:At K mg "without" jct ["spot","place"] []):jap P w K mg base CX0 1 "without" ["spot","place"] [] jf7:=by
  refine F.ok je7 (fun vs H Q E h=>?_) (fun f cdv A outer s H vs Q E hr h=>?_)
  . obtain⟨r,k,p,rfl,_⟩:=h
    rfl
  obtain⟨r,k,p,rfl,h1,k0,k3,q⟩:=h;have S:=je7;refine⟨_,(jag (jaq (jaE ja9 rfl T.m_tuple boot_tuple (jaa (jaU rfl (N':=["k","spot","place"]) (ix:=[0,1]) ⟨rfl,rfl,by decide +kernel,by decide +kernel,by decide +kernel,(show ∀y:Str × NameKind,y∈_->y.2=NameKind.free->(jad jct).names.lookup y.1=some .cell\/(jad jct).names.lookup y.1=some .free from by decide +kernel),(.cons rfl (.inl rfl) rfl (.cons rfl (.inl rfl) rfl .nil))⟩ (jaG rfl T.m_range (jaa jab jac jaj)) (fun _ _ _ _=>jan (i:=0) (show (["k","spot","place"]:List Str).Nodup from by decide +kernel) rfl (Or.inl rfl)) (fun _ _ _ _=>(jfh (jat jcn (pv 0) (pv 2) (jaw _)))) (fun _ _ _ _=>(jar (jlB (K:=K) rfl) (pv 1) (pv 0)))) jac jcr)))),?_⟩;have k_h1:=h1.sq (K:=K);have e:k=0\/k=1\/k=2\/k=3:=by omega
  walk_at "rf";walk_at "gf";intro acc hacc;refine jiw (n:=4) (fun i=>.int (match i with | 0=>p.x | 1=>p.y | 2=>p.z | _=>p.w)) (fun i=>!decide ((i:Int)=k)) (by decide) hacc ?_ ?_ ?_
  . intro i H3 R hi s3 hR
    walk_at "rf";have z:=hR H3 (Same.refl _);rw[xbb];exact z
  . intro i H3 R hi ci s3 hR
    have k1:=s3.tup k_h1
    match i,hi with
    | 0, _ =>
      walk_at "rf";walk_at "gf";exact hR _ (Same.refl _)
    | 1, _ =>
      walk_at "rf";walk_at "gf";exact hR _ (Same.refl _)
    | 2, _ =>
      walk_at "rf";walk_at "gf";exact hR _ (Same.refl _)
    | 3, _ =>
      walk_at "rf";walk_at "gf";exact hR _ (Same.refl _)
  intro H1 s1 e1;refine FoR.tupOf (X:=True) (SqL.of e1) fun t H2 s2 e2=>q t H2 (s1.trans s2) ?_;rw[e2];rcases e with rfl | rfl | rfl | rfl<;>rfl
theorem jiK (hp:p.sm) (h:H r=some (.tup ((wo k p).map V.int))):∃a b c,wo k p=[a,b,c]/\Tup3 H r a b c:=by
 by_cases k0:k=0
 ·have e:wo k p=[p.y,p.z,p.w]:=if_pos k0;rw[e] at h;exact⟨_,_,_,e,h,hp.2.1,hp.2.2.1,hp.2.2.2⟩
 by_cases k1:k=1
 ·have e:wo k p=[p.x,p.z,p.w]:=by unfold wo;rw[if_neg k0,if_pos k1]
  rw[e] at h;exact⟨_,_,_,e,h,hp.1,hp.2.2.1,hp.2.2.2⟩
 by_cases k2:k=2
 ·have e:wo k p=[p.x,p.y,p.w]:=by unfold wo;rw[if_neg k0,if_neg k1,if_pos k2]
  rw[e] at h;exact⟨_,_,_,e,h,hp.1,hp.2.1,hp.2.2.2⟩
 have e:wo k p=[p.x,p.y,p.z]:=by unfold wo;rw[if_neg k0,if_neg k1,if_neg k2]
 rw[e] at h;exact⟨_,_,_,e,h,hp.1,hp.2.1,hp.2.2.1⟩
theorem Tup3.keep {b:Int} (h:Tup3 H r a b c) (s:Same H H'):Tup3 H' r a b c:=⟨s _ _ h.1,h.2⟩
theorem jjZ (T:Tx K mg t1 t2) (F:At K mg "minor_of" jdH ["one","other","third","place"] []) (dw:jap P w K mg base CX0 1 "without" ["spot","place"] [] jf7) (Db:jap P w K mg base CX0 2 "determinant" ["one","other","third"] [] jnk):jap P w K mg base CX0 3 "minor_of" ["one","other","third","place"] [] jft:=by
 refine F.ok jeD (fun vs H Q E h=>?_) (fun f cdv A outer s H vs Q E hr h=>?_)
 ·obtain⟨r,e,t,k,p,o,u,rfl,_⟩:=h;rfl
 obtain⟨r,e,t,k,p,o,u,rfl,h1,h2,h3,k0,k3,q⟩:=h;have S:=jeD;refine⟨_,(jag (jaq (jai Db hr.m rfl jav (jaa (jai dw hr.m rfl jav (jaa (pv 0) (jaa (pv 3) jac jah) jah)) (jaa (jai dw hr.m rfl jav (jaa (pv 1) (jaa (pv 3) jac jah) jah)) (jaa (jai dw hr.m rfl jav (jaa (pv 2) (jaa (pv 3) jac jah) jah)) jac jaJ) jaJ) jaJ)))),?_⟩;walk_at "rf";refine⟨r,k,p,rfl,h1,k0,k3,fun t1 H1 s1 e1=>?_⟩;refine⟨e,k,o,rfl,h2.keep s1,k0,k3,fun t2 H2 s2 e2=>?_⟩;refine⟨t,k,u,rfl,h3.keep (s1.trans s2),k0,k3,fun t3 H3 s3 e3=>?_⟩;obtain⟨a,b,c,w1,z1⟩:=jiK h1.2 e1;obtain⟨a2,b2,c2,w2,z2⟩:=jiK h2.2 e2;obtain⟨a3,b3,c3,w3,z3⟩:=jiK h3.2 e3;have em:jay k p o u=jdK a b c a2 b2 c2 a3 b3 c3:=by
  unfold jay;rw[w1,w2,w3];rfl
 refine⟨t1,t2,t3,a,b,c,a2,b2,c2,a3,b3,c3,rfl,z1.keep (s2.trans s3),z2.keep s3,z3,fun H4 s4=>?_⟩;rw[<- em];exact q H4 (s1.trans (s2.trans (s3.trans s4)))
theorem jlR (T:Tx K mg t1 t2) (F:At K mg "in_line" jez ["one","other","third"] []) (df:jap P w K mg base CX0 3 "minor_of" ["one","other","third","place"] [] jft):jap P w K mg base CX0 4 "in_line" ["one","other","third"] [] jkV:=by
  refine F.ok je8 (fun vs H Q E h=>?_) (fun f cdv A outer s H vs Q E hr h=>?_)
  . obtain⟨r,e,t,p,o,u,rfl,_⟩:=h
    rfl
  obtain⟨r,e,t,p,o,u,rfl,h1,h2,h3,q⟩:=h;have S:=je8;refine⟨_,(jae (ja1 PassesOwn.never rfl (jaG rfl T.m_range (jaa jab jac jaj)) (jan (i:=3) S.nd rfl (Or.inl rfl))
    (jag (jaQ (jat jcn (jai df hr.m rfl jav (jaa (pv 0) (jaa (pv 1) (jaa (pv 2) (jaa (pv 3) jac jah) jah) jah) jah)) jab (jaw _))
    (jag (jaq jcM))
    jax)))
    (jag (jaq jcM))),?_⟩
  walk_at "rf";walk_at "gf";refine jaL (lo:=0) (n:=3) (fun i σ H2=>Same H H2/\∃o3:Option V,σ=[some (.ref r),some (.ref e),some (.ref t),o3]/\(1<=i->jay 0 p o u=0)/\(2<=i->jay 1 p o u=0)/\(3<=i->jay 2 p o u=0)) ⟨Same.refl _,none,rfl,by simp,by simp,by simp⟩ ?_ ?_
  . rintro i σ H2 hi ⟨s2,o3,rfl,e0,e1,e2⟩
    walk_at "rf";refine⟨r,e,t,_,p,o,u,rfl,h1.keep s2,h2.keep s2,h3.keep s2,by omega,by omega,fun H3 s3=>?_⟩;have ei:(0:Int)+(i:Int)=(i:Int):=xbb _;rw[ei]
    match i,hi with
    | 0, _ =>
      walk_at "rf";refine jcl (fun c=>⟨s2.trans s3,fun _=>c,fun h=>absurd h (by decide),fun h=>absurd h (by decide)⟩) fun c=>?_;have ef:inl p o u=false:=decide_eq_false fun z=>c z.1;exact ef▸q H3 (s2.trans s3)
    | 1, _ =>
      have d0:=e0 (by decide);walk_at "rf";refine jcl (fun c=>⟨s2.trans s3,fun _=>d0,fun _=>c,fun h=>absurd h (by decide)⟩) fun c=>?_;have ef:inl p o u=false:=decide_eq_false fun z=>c z.2.1;exact ef▸q H3 (s2.trans s3)
    | 2, _ =>
      have d0:=e0 (by decide);have d1:=e1 (by decide);walk_at "rf";refine jcl (fun c=>⟨s2.trans s3,fun _=>d0,fun _=>d1,fun _=>c⟩) fun c=>?_;have ef:inl p o u=false:=decide_eq_false fun z=>c z.2.2;exact ef▸q H3 (s2.trans s3)
  . rintro σ H2 ⟨s2,o3,rfl,e0,e1,e2⟩
    have ef:inl p o u=true:=decide_eq_true ⟨e0 (by decide),e1 (by decide),e2 (by decide)⟩;exact ef▸q H2 s2
theorem mem4 {b:Int} (ha:Small a) (hb:Small b) (hc:Small c) (hd:Small d):∀n∈[a,b,c,d],Small n:=fun n hn=>by
 simp only[xac,xao,or_false] at hn;rcases hn with rfl | rfl | rfl | rfl<;>assumption
theorem gl4 {b:Int} (h:¬(a=0/\b=0/\c=0)):0<gl [a,b,c,d]:=by
 by_cases c1:a=0
 ·by_cases c2:b=0
  ·exact jf6 (n:=c) (by simp) fun z=>h ⟨c1,c2,z⟩
  ·exact jf6 (n:=b) (by simp) c2
 ·exact jf6 (n:=a) (by simp) c1
def vneg (v:V):V:=match v with | .int i=>.int (-i) | _=>v
theorem jj0 (ns:List Int):(ns.map V.int).map vneg=(ns.map fun n=>-n).map V.int:=by
 rw[xaW,xaW];rfl
theorem jiL (T:Tx K mg t1 t2) (F:At K mg "turned_about" jbc ["plane"] []):jap P w K mg base CX0 1 "turned_about" ["plane"] [] jg1:=by
 refine F.ok jcD (fun vs H Q E h=>?_) (fun f cdv A outer s H vs Q E hr h=>?_)
 ·obtain⟨r,ns,rfl,_⟩:=h;rfl
 obtain⟨r,ns,rfl,h1,hl,q⟩:=h;have S:=jcD;refine⟨_,(jag (jaq (jaE ja9 rfl T.m_tuple boot_tuple (jaa (jaU rfl (N':=["number"]) (ix:=[]) ⟨rfl,rfl,by decide +kernel,by decide +kernel,by decide +kernel,(show ∀y:Str × NameKind,y∈_->y.2=NameKind.free->(jad jbc).names.lookup y.1=some .cell\/(jad jbc).names.lookup y.1=some .free from by decide +kernel),.nil⟩ (jeX (pv 0)) (fun _ _ _ _=>jan (i:=0) (show (["number"]:List Str).Nodup from by decide +kernel) rfl (Or.inl rfl)) (fun _ _ _ _=>ja4) (fun _ _ _ _=>(jfJ jdO (pv 0)))) jac jcr)))),?_⟩;have k1:SqT K H r (ns.map V.int):=SqT.of h1;walk_at "rf";walk_at "gf";intro acc hacc;refine jm9 vneg (by rw[xaa];omega) hacc k1 ?_ ?_
 ·intro z H3 R hz s3 hR;obtain⟨m,hm,rfl⟩:=xaA.mp hz;walk_at "rd";exact hR _ (Same.refl _)
 intro H1 s1 e1;rw[jj0] at e1;exact FoR.tupOf (X:=True) (SqL.of e1) fun t H2 s2 e2=>q t H2 (s1.trans s2) e2
theorem jlS (T:Tx K mg t1 t2) (F:At K mg "sign_of" jex ["number"] []):jap P w K mg base CX0 1 "sign_of" ["number"] [] jiI:=by
 refine F.ok je5 (fun vs H Q E h=>?_) (fun f cdv A outer s H vs Q E hr h=>?_)
 ·obtain⟨a,rfl,_⟩:=h;rfl
 obtain⟨n,rfl,q⟩:=h;have S:=je5;refine⟨_,(jae (jaQ (jat jfK (pv 0) jab (jaw _))
  (jag (jaq jab))
  jax)
  (jae (jaQ (jat jhs (pv 0) jab (jaw _))
  (jag (jaq (jfJ jdO jab)))
  jax)
  (jag (jaq jab)))),?_⟩
 unfold sgn at q;walk_at "rd";refine jcl (fun c=>?_) fun c=>jcl (fun c1=>?_) fun c1=>?_
 ·rw[if_pos c] at q;exact q
 ·rw[if_neg c,if_pos c1] at q;exact q
 ·rw[if_neg c,if_neg c1] at q;exact q
theorem jj1 (T:Tx K mg t1 t2) (F:At K mg "is_plain" jdI ["plane"] []):jap P w K mg base CX0 1 "is_plain" ["plane"] [] jiG:=by
  refine F.ok jeE (fun vs H Q E h=>?_) (fun f cdv A outer s H vs Q E hr h=>?_)
  . obtain⟨r,a,b,c,d,rfl,_⟩:=h
    rfl
  obtain⟨r,a,b,c,d,rfl,h1,q⟩:=h;have S:=jeE;refine⟨_,(jae (ja1 PassesOwn.never rfl (jeX (ja5 jkF (pv 0) jbe (ja7 jab))) (jan (i:=1) S.nd rfl (Or.inl rfl))
    (jag (jaQ (jat jcn (pv 1) jab (jaw _))
    (jag (jaq (jb8 jfK (pv 1) jab (jaw _))))
    jax)))
    (jag (jaq jcM))),?_⟩
  walk_at "rf";refine⟨r,_,rfl,SqT.of h1,(show ¬(HT.sIx 4 0 none=0/\HT.sIx 4 4 (some 3)=4) by decide),fun p hp=>?_⟩;have sp:=Same.new hp (.tup (jeR [.int a,.int b,.int c,.int d] none (some 3)));have ep:upd H p (.tup (jeR [.int a,.int b,.int c,.int d] none (some 3))) p=some (.tup ([a,b,c].map V.int)):=jaf;generalize upd H p (.tup (jeR [.int a,.int b,.int c,.int d] none (some 3)))=H1 at sp ep |-
  have kp:SqT K H1 p ([a,b,c].map V.int):=SqT.of ep;walk_at "gf";have q:=q H1 sp;unfold plb at q;refine jhY (K:=K) (a:=p) (xs:=[a,b,c].map V.int) (fun i σ H2=>H2=H1/\∃o1:Option V,σ=[some (.ref r),o1]/\(1<=i->a=0)/\(2<=i->b=0)/\(3<=i->c=0)) ⟨rfl,none,rfl,by simp,by simp,by simp⟩ (fun i σ H2 _ ⟨h,_⟩=>by rw[h];exact kp) ?_ ?_
  . rintro i v σ H2 hi ⟨rfl,o1,rfl,e0,e1,e2⟩
    match i,hi with
    | 0, hi =>
      cases hi;walk_at "rf";refine jcl (fun cc=>⟨fun _=>cc,fun h=>absurd h (by decide),fun h=>absurd h (by decide)⟩) fun cc=>?_;rw[if_pos cc] at q;exact q
    | 1, hi =>
      cases hi;have d0:=e0 (by decide);walk_at "rf";refine jcl (fun cc=>⟨fun _=>d0,fun _=>cc,fun h=>absurd h (by decide)⟩) fun cc=>?_;rw[if_neg (fun n=>n d0),if_pos cc] at q;exact q
    | 2, hi =>
      cases hi;have d0:=e0 (by decide);have d1:=e1 (by decide);walk_at "rf";refine jcl (fun cc=>⟨fun _=>d0,fun _=>d1,fun _=>cc⟩) fun cc=>?_;rw[if_neg (fun n=>n d0),if_neg (fun n=>n d1),if_pos cc] at q;exact q
  . rintro σ H2 ⟨rfl,o1,rfl,e0,e1,e2⟩
    rw[if_neg (fun n=>n (e0 (show 1<=3 by decide))),if_neg (fun n=>n (e1 (show 2<=3 by decide))),if_neg (fun n=>n (e2 (show 3<=3 by decide)))] at q;exact q
theorem jj2 (T:Tx K mg t1 t2) (F:At K mg "rough_plane" jcc ["one","other","third"] []) (df:jap P w K mg base CX0 3 "minor_of" ["one","other","third","place"] [] jft):jap P w K mg base CX0 4 "rough_plane" ["one","other","third"] [] jiH:=by
 refine F.ok jcV (fun vs H Q E h=>?_) (fun f cdv A outer s H vs Q E hr h=>?_)
 ·obtain⟨r,e,t,p,o,u,rfl,_⟩:=h;rfl
 obtain⟨r,e,t,p,o,u,rfl,h1,h2,h3,q⟩:=h;have S:=jcV;refine⟨_,(jag (jaq (jbG (jaa (jai df hr.m rfl jav (jaa (pv 0) (jaa (pv 1) (jaa (pv 2) (jaa jab jac jaj) jah) jah) jah)) (jaa (jfJ jdO (jai df hr.m rfl jav (jaa (pv 0) (jaa (pv 1) (jaa (pv 2) (jaa jab jac jaj) jah) jah) jah))) (jaa (jai df hr.m rfl jav (jaa (pv 0) (jaa (pv 1) (jaa (pv 2) (jaa jab jac jaj) jah) jah) jah)) (jaa (jai df hr.m rfl jav (jaa (pv 0) (jaa (pv 1) (jaa (pv 2) (jaa jab jac jaj) jah) jah) jah)) jac jaJ) jaJ) se_un) jaJ)))),?_⟩;walk_at "rf";refine⟨r,e,t,0,p,o,u,rfl,h1,h2,h3,by decide,by decide,fun H1 s1=>?_⟩;refine⟨r,e,t,1,p,o,u,rfl,h1.keep s1,h2.keep s1,h3.keep s1,by decide,by decide,fun H2 s2=>?_⟩;have s12:=s1.trans s2;walk_at "rf";refine⟨r,e,t,2,p,o,u,rfl,h1.keep s12,h2.keep s12,h3.keep s12,by decide,by decide,fun H3 s3=>?_⟩;have s13:=s12.trans s3;refine⟨r,e,t,3,p,o,u,rfl,h1.keep s13,h2.keep s13,h3.keep s13,by decide,by decide,fun H4 s4=>?_⟩;exact⟨by decide,fun g hg=>q g _ (s13.trans (s4.trans (Same.new hg _))) jaf⟩
theorem jg3 {b x u w:Int} (ha:Sm2 a) (hb:Sm2 b) (hc:Sm2 c) (hx:Sm2 x) (hy:Sm2 y) (hz:Sm2 z) (hu:Sm2 u) (hv:Sm2 v) (hw:Sm2 w):Bd 603 (jdK a b c x y z u v w):=by
 have m:∀{i j k l e:Int},Sm2 i->Sm2 j->Sm2 k->Sm2 l->Sm2 e->Bd 601 ((i*j-k*l)*e):=fun h1 h2 h3 h4 h5=>Bd.mul (n:=401) (m:=200) (Bd.sub (Bd.mul (n:=200) (m:=200) h1 h2) (Bd.mul (n:=200) (m:=200) h3 h4)) h5;exact Bd.add (Bd.add (m hb hz hc hy hu) (m hc hx ha hz hv)) (Bd.mono (n:=601) (m ha hy hb hx hw))
theorem jg4 {o u:Pt} (hp:p.sm) (ho:o.sm) (hu:u.sm):Small (jay 0 p o u)/\Small (jay 1 p o u)/\Small (jay 2 p o u)/\Small (jay 3 p o u):=by
 obtain⟨a,b,c,d⟩:=hp;obtain⟨a',b',c',d'⟩:=ho;obtain⟨a2,b2,c2,d2⟩:=hu;exact⟨Bd.mono (n:=603) (jg3 b c d b' c' d' b2 c2 d2),Bd.mono (n:=603) (jg3 a c d a' c' d' a2 c2 d2),Bd.mono (n:=603) (jg3 a b d a' b' d' a2 b2 d2),Bd.mono (n:=603) (jg3 a b c a' b' c' a2 b2 c2)⟩
theorem jj3 (T:Tx K mg t1 t2) (F:At K mg "made_plane" jcu ["a","b","c","d"] []) (dl:jap P w K mg base CX0 2 "in_lowest_terms" ["numbers"] [] jjX):jap P w K mg base CX0 3 "made_plane" ["a","b","c","d"] [] jiJ:=by
 refine F.ok jdq (fun vs H Q E h=>?_) (fun f cdv A outer s H vs Q E hr h=>?_)
 ·obtain⟨a,b,c,d,rfl,_⟩:=h;rfl
 obtain⟨a,b,c,d,rfl,sa,sb,sc,sd,nz,q⟩:=h;have S:=jdq;refine⟨_,(jae (jaQ (PW.pt (jhU (jat jcN (pv 0) jab (jaw _)) (jhU (jat jcN (pv 1) jab (jaw _)) (jhT (jat jcN (pv 2) jab (jaw _))))))
  jbj
  jax)
  (jag (jaq (jai dl hr.m rfl jav (jaa (jbG (jaa (pv 0) (jaa (pv 1) (jaa (pv 2) (jaa (pv 3) jac jah) jah) jah) jah)) jac jbh))))),?_⟩
 have fin:∀p,H p=none->jjX [.ref p] (upd H p (.tup [.int a,.int b,.int c,.int d])) Q (fun _ _ _=>False):=fun p hp =>
  ⟨p,[a,b,c,d],rfl,jaf,by simp,mem4 sa sb sc sd,by have:=gl4 (d:=d) nz;omega,fun r H' h1 h2=>q r H' ((Same.new hp _).trans h1) h2⟩
 walk_at "rf";by_cases c1:a=0
 ·rw[if_pos c1];by_cases c2:b=0
  ·rw[if_pos c2];by_cases c3:c=0
   ·exact absurd ⟨c1,c2,c3⟩ nz
   ·rw[if_neg c3];exact⟨by decide,fin⟩
  ·rw[if_neg c2];exact⟨by decide,fin⟩
 ·rw[if_neg c1];exact⟨by decide,fin⟩
theorem jhM (T:Tx K mg t1 t2) (F:At K mg "plane_through" jbJ ["one","other","third"] []) (dY:jap P w K mg base CX0 4 "rough_plane" ["one","other","third"] [] jiH) (Dg:jap P w K mg base CX0 3 "made_plane" ["a","b","c","d"] [] jiJ) (Do:jap P w K mg base CX0 1 "is_plain" ["plane"] [] jiG) (dQ:jap P w K mg base CX0 1 "turned_about" ["plane"] [] jg1):jap P w K mg base CX0 5 "plane_through" ["one","other","third"] [] jf8:=by
  refine F.ok jci (fun vs H Q E h=>?_) (fun f cdv A outer s H vs Q E hr h=>?_)
  . obtain⟨r,e,t,p,o,u,rfl,_⟩:=h
    rfl
  obtain⟨r,e,t,p,o,u,rfl,h1,h2,h3,na,q⟩:=h;have S:=jci;refine⟨_,(jae (jas (i:=3) S.nd rfl (Or.inl rfl) (jai dY hr.m rfl jav (jaa (pv 0) (jaa (pv 1) (jaa (pv 2) jac jah) jah) jah)))
    (jae (jas (i:=4) S.nd rfl (Or.inl rfl) (jai Dg hr.m rfl jav (jaa (jar jau (pv 3) jab) (jaa (jar jau (pv 3) jab) (jaa (jar jau (pv 3) jab) (jaa (jar jau (pv 3) jab) jac jaD) jaD) jaD) jaD)))
    (jae (jaQ (jbR (jai Do hr.m rfl jav (jaa (pv 4) jac jah)))
    (jag (jaq (pv 4)))
    jax)
    (jag (jaq (jai dQ hr.m rfl jav (jaa (pv 4) jac jah))))))),?_⟩
  obtain⟨m0,m1,m2,m3⟩:=jg4 h1.2 h2.2 h3.2;walk_at "rf";refine⟨r,e,t,p,o,u,rfl,h1,h2,h3,fun g H1 s1 e1=>?_⟩;have kg:SqT K H1 g [.int (jay 0 p o u),.int (-jay 1 p o u),.int (jay 2 p o u),.int (jay 3 p o u)]:=SqT.of e1;walk_at "gf";refine⟨_,_,_,_,rfl,m0,m1.neg,m2,m3,fun z=>na ⟨z.1,by omega,z.2.2⟩,fun g2 H2 s2 e2=>?_⟩;have el:∃a b c d,low (rgh p o u)=[a,b,c,d]:=⟨_,_,_,_,rfl⟩;have e2':H2 g2=some (.tup ((low (rgh p o u)).map V.int)):=e2;obtain⟨a,b,c,d,el⟩:=el;unfold pln at q;rw[el] at q e2';walk_at "rf";refine⟨g2,a,b,c,d,rfl,e2',fun H3 s3=>?_⟩;have s13:=s1.trans (s2.trans s3);dsimp only at q;cases eb:plb a b c with
  | true =>
    rw[eb,if_pos rfl] at q;walk_at "rf";exact q g2 H3 s13 (s3 _ _ e2')
  | false =>
    rw[eb,if_neg (by decide)] at q;walk_at "rf";refine⟨g2,[a,b,c,d],rfl,s3 _ _ e2',by simp,fun g3 H4 s4 e4=>?_⟩;exact q g3 H4 (s13.trans s4) e4
theorem ok_ht (T:Tx K mg t1 t2) (F:At K mg "height_over" jcd ["plane","spot"] []):jap P w K mg base CX0 1 "height_over" ["plane","spot"] [] spHt:=by
 refine F.ok jcW (fun vs H Q E h=>?_) (fun f cdv A outer s H vs Q E hr h=>?_)
 ·obtain⟨r,e,a,b,c,d,p,rfl,_⟩:=h;rfl
 obtain⟨r,e,a,b,c,d,p,rfl,h1,sa,sb,sc,sd,h2,q⟩:=h;have S:=jcW;refine⟨_,(jag (jaq (jao jbF (jao jbu (jao jbu (jao jaA (jar jau (pv 0) jab) (jar jau (pv 1) jab)) (jao jaA (jar jau (pv 0) jab) (jar jau (pv 1) jab))) (jao jaA (jar jau (pv 0) jab) (jar jau (pv 1) jab))) (jao jaA (jar jau (pv 0) jab) (jar jau (pv 1) jab))))),?_⟩;have k1:SqT K H r [.int a,.int b,.int c,.int d]:=SqT.of h1;have f1:=sa.bd.fit;have f2:=sb.bd.fit;have f3:=sc.bd.fit;have f4:=sd.bd.fit;have k_h2:=h2.sq (K:=K);have g0:=h2.2.fx;have g1:=h2.2.fy;have g2:=h2.2.fz;have g3:=h2.2.fw;walk_at "rf";walk_at "gf";exact q
theorem jlT (T:Tx K mg t1 t2) (F:At K mg "side_of" jeA ["plane","spot"] []) (dz:jap P w K mg base CX0 1 "sign_of" ["number"] [] jiI) (dX:jap P w K mg base CX0 1 "height_over" ["plane","spot"] [] spHt):jap P w K mg base CX0 2 "side_of" ["plane","spot"] [] jkW:=by
 refine F.ok je9 (fun vs H Q E h=>?_) (fun f cdv A outer s H vs Q E hr h=>?_)
 ·obtain⟨r,e,a,b,c,d,p,rfl,_⟩:=h;rfl
 obtain⟨r,e,a,b,c,d,p,rfl,h1,sa,sb,sc,sd,h2,q⟩:=h;have S:=je9;refine⟨_,(jag (jaq (jai dz hr.m rfl jav (jaa (jai dX hr.m rfl jav (jaa (pv 0) (jaa (pv 1) jac jah) jah)) jac jaJ)))),?_⟩;walk_at "rf";exact⟨r,e,a,b,c,d,p,rfl,h1,sa,sb,sc,sd,h2,_,rfl,q⟩
theorem jj4 (T:Tx K mg t1 t2) (F:At K mg "stands_first" jbW ["one","other"] []):jap P w K mg base CX0 1 "stands_first" ["one","other"] [] jfu:=by
  refine F.ok jcC (fun vs H Q E h=>?_) (fun f cdv A outer s H vs Q E hr h=>?_)
  . obtain⟨r,e,p,o,rfl,_⟩:=h
    rfl
  obtain⟨r,e,p,o,rfl,h1,h2,q⟩:=h;have S:=jcC;refine⟨_,(jae (ja1 PassesOwn.never rfl (jaG rfl T.m_range (jaa jab jac jaj)) (jan (i:=2) S.nd rfl (Or.inl rfl))
    (jae (jas (i:=3) S.nd rfl (Or.inl rfl) (jao jaA (jar jau (pv 0) (pv 2)) (jar jau (pv 1) jab)))
    (jae (jas (i:=4) S.nd rfl (Or.inl rfl) (jao jaA (jar jau (pv 1) (pv 2)) (jar jau (pv 0) jab)))
    (jag (jaQ (jat jcn (pv 3) (pv 4) (jaw _))
    (jag (jaq (jb8 jhs (pv 3) (pv 4) (jaw _))))
    jax)))))
    (jag (jaq jcM))),?_⟩
  have k_h1:=h1.sq (K:=K);have k_h2:=h2.sq (K:=K);have f0:=h1.2.fx;have f1:=h1.2.fy;have f2:=h1.2.fz;have f3:=h1.2.fw;have g0:=h2.2.fx;have g1:=h2.2.fy;have g2:=h2.2.fz;have g3:=h2.2.fw;unfold sfp at q;walk_at "rd";refine⟨3,rfl,by decide,by decide,jaL (lo:=0) (n:=3) (fun i σ H2=>H2=H/\∃(o0 o1 o2:Option V),σ=[some (.ref r),some (.ref e),o0,o1,o2]/\(1<=i->p.x*o.w=o.x*p.w)/\(2<=i->p.y*o.w=o.y*p.w)/\(3<=i->p.z*o.w=o.z*p.w)) ⟨rfl,none,none,none,rfl,by simp,by simp,by simp⟩ ?_ ?_⟩
  . rintro i σ H2 hi ⟨rfl,o0,o1,o2,rfl,e0,e1,e2⟩
    match i,hi with
    | 0, _ =>
      walk_at "rd";walk_at "go";refine jcl (fun c=>⟨fun _=>c,fun h=>absurd h (by decide),fun h=>absurd h (by decide)⟩) fun c=>?_;rw[sf,if_pos c] at q;exact q
    | 1, _ =>
      have d0:=e0 (by decide);walk_at "rd";walk_at "go";refine jcl (fun c=>⟨fun _=>d0,fun _=>c,fun h=>absurd h (by decide)⟩) fun c=>?_;rw[sf,if_neg (fun n=>n d0),if_pos c] at q;exact q
    | 2, _ =>
      have d0:=e0 (by decide);have d1:=e1 (by decide);walk_at "rd";walk_at "go";refine jcl (fun c=>⟨fun _=>d0,fun _=>d1,fun _=>c⟩) fun c=>?_;rw[sf,if_neg (fun n=>n d0),if_neg (fun n=>n d1),if_pos c] at q;exact q
  . rintro σ H2 ⟨rfl,o0,o1,o2,rfl,e0,e1,e2⟩
    rw[sf,if_neg (fun n=>n (e0 (by decide))),if_neg (fun n=>n (e1 (by decide))),if_neg (fun n=>n (e2 (by decide)))] at q;walk_at "rd";exact q
theorem jlU (T:Tx K mg t1 t2) (F:At K mg "flat_axis" jc8 ["plane"] []):jap P w K mg base CX0 1 "flat_axis" ["plane"] [] jkX:=by
  refine F.ok jdR (fun vs H Q E h=>?_) (fun f cdv A outer s H vs Q E hr h=>?_)
  . obtain⟨r,a,b,c,d,rfl,_⟩:=h
    rfl
  obtain⟨r,a,b,c,d,rfl,h1,nz,q⟩:=h;have S:=jdR;refine⟨_,(jae (ja1 PassesOwn.never rfl (jaG rfl T.m_range (jaa jab jac jaj)) (jan (i:=1) S.nd rfl (Or.inl rfl))
    (jag (jaQ (jat jcn (jar jau (pv 0) (pv 1)) jab (jaw _))
    (jag (jaq (pv 1)))
    jax)))
    (jag (jaq jmO))),?_⟩
  have k1:SqT K H r [.int a,.int b,.int c,.int d]:=SqT.of h1;walk_at "rf";walk_at "gf";refine jaL (lo:=0) (n:=3) (fun i σ H2=>H2=H/\∃o1:Option V,σ=[some (.ref r),o1]/\(1<=i->a=0)/\(2<=i->b=0)/\(3<=i->c=0)) ⟨rfl,none,rfl,by simp,by simp,by simp⟩ ?_ ?_
  . rintro i σ H2 hi ⟨rfl,o1,rfl,e0,e1,e2⟩
    match i,hi with
    | 0, _ =>
      walk_at "rf";walk_at "gf";refine jcl (fun cc=>⟨fun _=>cc,fun h=>absurd h (by decide),fun h=>absurd h (by decide)⟩) fun cc=>?_;exact q _ (.inl ⟨rfl,cc⟩)
    | 1, _ =>
      have d0:=e0 (by decide);walk_at "rf";walk_at "gf";refine jcl (fun cc=>⟨fun _=>d0,fun _=>cc,fun h=>absurd h (by decide)⟩) fun cc=>?_;exact q _ (.inr (.inl ⟨rfl,d0,cc⟩))
    | 2, _ =>
      have d0:=e0 (by decide);have d1:=e1 (by decide);walk_at "rf";walk_at "gf";refine jcl (fun cc=>⟨fun _=>d0,fun _=>d1,fun _=>cc⟩) fun cc=>?_;exact q _ (.inr (.inr ⟨rfl,d0,d1,cc⟩))
  . rintro σ H2 ⟨rfl,o1,rfl,e0,e1,e2⟩
    exact absurd ⟨e0 (by decide),e1 (by decide),e2 (by decide)⟩ nz
theorem jlV (T:Tx K mg t1 t2) (F:At K mg "side_of_edge" jbX ["edge","spot","axis"] []) (dz:jap P w K mg base CX0 1 "sign_of" ["number"] [] jiI) (df:jap P w K mg base CX0 3 "minor_of" ["one","other","third","place"] [] jft):jap P w K mg base CX0 4 "side_of_edge" ["edge","spot","axis"] [] jkY:=by
 refine F.ok jcE (fun vs H Q E h=>?_) (fun f cdv A outer s H vs Q E hr h=>?_)
 ·obtain⟨g,r,e,t,k,p,o,u,rfl,_⟩:=h;rfl
 obtain⟨g,r,e,t,k,p,o,u,rfl,hg,h1,h2,h3,k0,k3,q⟩:=h;have S:=jcE;refine⟨_,(jag (jaq (jai dz hr.m rfl jav (jaa (jai df hr.m rfl jav (jaa (jar jau (pv 0) jab) (jaa (jar jau (pv 0) jab) (jaa (pv 1) (jaa (pv 2) jac jah) jah) jaD) jaD)) jac jaJ)))),?_⟩;have kg:SqT K H g [.ref r,.ref e]:=SqT.of hg;walk_at "rf";walk_at "gf";refine⟨r,e,t,k,p,o,u,rfl,h1,h2,h3,k0,k3,fun H1 s1=>?_⟩;exact⟨_,rfl,q H1 s1⟩
def fM1 (H:Hp) (l:Addr) (ps:List Pt):L2.St->Hp->Prop:=fun σ H'=>∃o2:Option V,σ=[some (.ref l),some (.int (fF ps:Nat)),o2,none]/\H'=H
def fM2 (H:Hp) (l:Addr) (ps:List Pt) (rs:List Addr):L2.St->Hp->Prop:=fun σ H'=>∃(g:Addr) (o1 o2:Option V),σ=[some (.ref l),o1,o2,some (.ref g)]/\H' g=some (.lst ((rot (fF ps) rs).map V.ref))/\Same H H'
def fM3 (H:Hp) (ps:List Pt) (rs:List Addr):L2.St->Hp->Prop:=fun σ H'=>∃(g:Addr) (o0 o1 o2:Option V),σ=[o0,o1,o2,some (.ref g)]/\H' g=some (.lst ((frm ps rs).map V.ref))/\Same H H'
theorem jdL {α:Type} {l:List α} (h:f<=l.length):(rot f l).length=l.length:=by
 unfold rot;rw[xaf,xaE,xat];omega
theorem jiM (T:Tx K mg t1 t2) (F:At K mg "formed" jfq ["corners"] []) (dB:jap P w K mg base CX0 1 "stands_first" ["one","other"] [] jfu):jap P w K mg base CX0 2 "formed" ["corners"] [] jee:=by
  refine F.ok jf9 (fun vs H Q E h=>?_) (fun f cdv A outer s H vs Q E hr h=>?_)
  . obtain⟨l,rs,ps,rfl,_⟩:=h
    rfl
  obtain⟨l,rs,ps,rfl,hc,n3,n8,q⟩:=h;have S:=jf9;refine⟨_,(jae (jas (i:=1) S.nd rfl (Or.inl rfl) jab)
    (jbA (fM1 H l ps) (ja1 PassesOwn.never rfl (jfH rfl T.m_range (jaa jab (jaa (jaz jaB rfl T.m_len PySem.boot_len (jaa (pv 0) jac jah)) jac jaJ) jaj)) (jan (i:=2) S.nd rfl (Or.inl rfl))
    (jag (jaQ (jbR (jai dB hr.m rfl jav (jaa (jar ix_list (pv 0) (pv 2)) (jaa (jar ix_list (pv 0) (pv 1)) jac jaD) jaD)))
    (jag (jas (i:=1) S.nd rfl (Or.inl rfl) (pv 2)))
    jax)))
    (jbA (fM2 H l ps rs) (jas (i:=3) S.nd rfl (Or.inl rfl) (jao jcS (jaE jco rfl T.m_list boot_list (jaa (ja5 jbz (pv 0) (ja7 (pv 1)) jbe) jac jaD)) (jaE jco rfl T.m_list boot_list (jaa (ja5 jbz (pv 0) jbe (ja7 (pv 1))) jac jaD))))
    (jbA (fM3 H ps rs) (jaQ (jbR (jai dB hr.m rfl jav (jaa (jar ix_list (pv 3) (jfJ jdO jab)) (jaa (jar ix_list (pv 3) jab) jac jaD) jaD)))
    (jag (jas (i:=3) S.nd rfl (Or.inl rfl) (jao jcS (ja5 jbz (pv 3) jbe (ja7 jab)) (jhG rfl rfl T.m_list rfl T.m_reversed (ja5 jbz (pv 3) (ja7 jab) jbe)))))
    jax)
    (jag (jaq (jaE jbg rfl T.m_tuple boot_tuple (jaa (pv 3) jac jah)))))))),?_⟩
  have ln:=hc.2.len;have lm:(rs.map V.ref).length=ps.length:=by rw[xaa,ln]
  have kl:SqL K H l (rs.map V.ref):=SqL.of hc.1;walk_at "rf";refine⟨⟨_,.inl kl,by decide,by decide,by omega,by omega,?_⟩,?_⟩
  . refine jaL (lo:=1) (n:=_) (fun i σ H2=>H2=H /\ ∃o2:Option V,σ=[some (.ref l),some (.int (je4 ps i:Nat)),o2,none]) ⟨rfl,none,rfl⟩ ?_ ?_
    . rintro i σ H2 hi ⟨rfl,o2,rfl⟩
      have hi2:i+1<ps.length:=by omega
      have al:=jdh ps i;obtain⟨g1,g2⟩:=hc.2.get hi2;obtain⟨g3,g4⟩:=hc.2.get (i:=je4 ps i) (by omega);have e1:atI (rs.map V.ref) (1+(i:Int))=some (.ref (ad rs (i+1))):=by
        have z:(1+(i:Int))=((i+1:Nat):Int):=by omega
        rw[z];exact jaF g1
      walk_at "rf";refine ixL kl e1 ?_;refine ixL kl (jaF g3) ?_;refine⟨_,_,_,_,rfl,g2,g4,?_⟩;have ea:je4 ps (i+1)=if sfp (pt ps (i+1)) (pt ps (je4 ps i))=true then i+1 else je4 ps i:=rfl;walk_at "rf";cases es:sfp (pt ps (i+1)) (pt ps (je4 ps i)) with
      | true =>
        rw[es,if_pos rfl] at ea;rw[ea,if_pos rfl];exact⟨by omega,_,rfl⟩
      | false =>
        rw[es,if_neg (by decide)] at ea;rw[ea,if_neg (by decide)];exact⟨rfl,_,rfl⟩
    . rintro σ H2 ⟨rfl,o2,rfl⟩
      have e:(((List.map V.ref rs).length:Int)-1).toNat=ps.length-1:=by omega
      rw[e];exact⟨_,rfl,rfl⟩
  rintro σ1 H1 ⟨o2,rfl,rfl⟩;have fl:fF ps<ps.length:=by have:=jdh ps (ps.length-1);unfold fF;omega
  walk_at "rf";refine⟨⟨l,_,rfl,kl,fun a1 h1=>?_⟩,?_⟩
  . rw[jdp]
    refine ja6 h1 fun J1 s1 e1=>?_;refine⟨a1,rfl,_,.inl (SqL.of e1),fun a2 h2=>?_⟩;refine ja6 h2 fun J2 s2 e2=>?_;refine⟨l,_,rfl,(s1.trans s2).seq kl,fun a3 h3=>?_⟩;rw[jed];refine ja6 h3 fun J3 s3 e3=>?_;refine⟨a3,rfl,_,.inl (SqL.of e3),fun a4 h4=>?_⟩;refine ja6 h4 fun J4 s4 e4=>?_;refine⟨a2,a4,_,_,rfl,rfl,s4 _ _ (s3 _ _ e2),e4,?_,fun a5 h5=>⟨a5,_,_,rfl,?_,s1.trans (s2.trans (s3.trans (s4.trans (Same.new h5 _))))⟩⟩
    . rw[xaE,xat]
      exact xan (show _<=1000 by omega) (by decide)
    . unfold rot
      rw[xal,xbL,xbM];exact jaf
  rintro σ2 H2 ⟨g,o1,o2,rfl,hg,s2⟩;have hr2:=(hc.2.keep s2.t).rot (fF ps);have rl:(rot (fF ps) ps).length=ps.length:=jdL (by omega);have rl2:((rot (fF ps) rs).map V.ref).length=ps.length:=by rw[xaa,jdL (by omega),ln]
  have kg:SqL K H2 g ((rot (fF ps) rs).map V.ref):=SqL.of hg;obtain⟨b1,b2⟩:=hr2.get (i:=ps.length-1) (by omega);obtain⟨b3,b4⟩:=hr2.get (i:=1) (by omega);have ef:∀{α:Type} (x:List α),frm ps x=turn (fB ps) (rot (fF ps) x):=fun _=>rfl;have eb:fB ps=sfp (pt (rot (fF ps) ps) (ps.length-1)) (pt (rot (fF ps) ps) 1):=rfl;walk_at "rf";refine⟨ixL kg (jg2 (n:=ps.length-1) (by omega) b1) (ixL kg (jaF (j:=1) b3) ?_),?_⟩
  . refine⟨_,_,_,_,rfl,b2,b4,?_⟩
    rw[<- eb];have ef:=ef rs;cases es:fB ps with
    | false =>
      rw[es] at ef;walk_at "rf";exact⟨g,_,_,_,rfl,by rw[ef];exact hg,s2⟩
    | true =>
      rw[es] at ef;have ef2:frm ps rs=(rot (fF ps) rs).take 1++((rot (fF ps) rs).drop 1).reverse:=ef;walk_at "rf";refine⟨g,_,rfl,kg,fun a1 h1=>?_⟩;have c1:jeR ((rot (fF ps) rs).map V.ref) none (some 1)=((rot (fF ps) rs).map V.ref).take 1:=jed (f:=1);rw[c1];refine ja6 h1 fun J1 s3 e1=>?_;refine⟨g,_,rfl,s3.seq kg,fun a2 h2=>?_⟩;have c2:jeR ((rot (fF ps) rs).map V.ref) (some 1) none=((rot (fF ps) rs).map V.ref).drop 1:=jdp (f:=1);rw[c2];refine ja6 h2 fun J2 s4 e2=>?_;refine⟨a2,rfl,_,SqL.of e2,fun a3 h3=>?_⟩;refine ja6 h3 fun J3 s5 e3=>?_;refine⟨a1,a3,_,_,rfl,rfl,s5 _ _ (s4 _ _ e1),e3,?_,fun a4 h4=>⟨a4,_,_,_,rfl,?_,s2.trans (s3.trans (s4.trans (s5.trans (Same.new h4 _))))⟩⟩
      . rw[xaV,xaE,xat]
        exact xan (show _<=1000 by omega) (by decide)
      . rw[ef2,xal,xbM,List.map_reverse,xbL]
        exact jaf
  rintro σ3 H3 ⟨g,o0,o1,o2,rfl,hg,s3⟩;walk_at "rf";exact⟨_,SqL.of hg,fun t ht=>q t _ (s3.trans (Same.new ht _)) jaf⟩
theorem jj5 (h:Sps H rs ps) (hi:i<ps.length):atI (rs.map V.ref) ((i:Int)-1)=some (.ref (ad rs ((i+(ps.length-1)) % ps.length))):=by
  have lm:(rs.map V.ref).length=ps.length:=by rw[xaa,h.len]
  cases i with
  | zero =>
    have e:(0+(ps.length-1)) % ps.length=ps.length-1:=by rw[Nat.zero_add];exact xaC (by omega)
    rw[e];have z:((0:Nat):Int)-1=-1:=rfl;rw[z];exact jg2 (n:=ps.length-1) (by omega) (h.get (i:=ps.length-1) (by omega)).1
  | succ i =>
    have e:(i+1+(ps.length-1)) % ps.length=i:=by
      have z:i+1+(ps.length-1)=i+ps.length:=by omega
      rw[z,Nat.add_mod_right];exact xaC (by omega)
    rw[e];have z:((i+1:Nat):Int)-1=(i:Int):=by omega
    rw[z];exact jaF (h.get (i:=i) (by omega)).1
theorem jlW {b:Int} (h:¬(a=0/\b=0/\c=0)) (hp:plb a b c=false):plb (-a) (-b) (-c)=true:=by
 by_cases ha:a=0
 ·by_cases hb:b=0
  ·have hc:c≠0:=fun z=>h ⟨ha,hb,z⟩;simp [plb,ha,hb,hc] at hp |-
   omega
  ·simp [plb,ha,hb] at hp |-
   omega
 ·simp [plb,ha] at hp |-
  omega
theorem jnn (ns:List Int):gl (ns.map fun n=>-n)=gl ns:=by
 have d1:gl (ns.map fun n=>-n) ∣ gl ns:=jgY fun n hn=>Int.dvd_neg.mp (ja2 (xaA.mpr ⟨n,hn,rfl⟩));have d2:gl ns ∣ gl (ns.map fun n=>-n):=jgY fun n hn=>by
  obtain⟨m,hm,rfl⟩:=xaA.mp hn;exact Int.dvd_neg.mpr (ja2 hm)
 exact Int.dvd_antisymm (jbI _) (jbI _) d1 d2
theorem jiN {b:Int} (h:¬(a=0/\b=0/\c=0)) (sa:Small a) (sb:Small b) (sc:Small c) (sd:Small d):∃x y z w:Int,pln [a,b,c,d]=[x,y,z,w]/\Small x/\Small y/\Small z/\Small w/\gl [x,y,z,w]=1/\plb x y z=true/\∀p:Pt,hgt a b c d p=0->hgt x y z w p=0:=by
  have gp:=gl4 (d:=d) h;have g1:gl (low [a,b,c,d])=1:=jkU (ns:=[a,b,c,d]) (by omega);have nz:¬(a / gl [a,b,c,d]=0/\b / gl [a,b,c,d]=0/\c / gl [a,b,c,d]=0):=fun z=>by
    have g:∀{x:Int},x∈[a,b,c,d]->x / gl [a,b,c,d]=0->x=0:=fun hx z=>xap fun q=>jgw (ja2 hx) q z;exact h ⟨g (by simp) z.1,g (by simp) z.2.1,g (by simp) z.2.2⟩
  have el:low [a,b,c,d]=[a / gl [a,b,c,d],b / gl [a,b,c,d],c / gl [a,b,c,d],d / gl [a,b,c,d]]:=rfl;have ea:=xax (ja2 (ns:=[a,b,c,d]) (n:=a) (by simp));have eb:=xax (ja2 (ns:=[a,b,c,d]) (n:=b) (by simp));have ec:=xax (ja2 (ns:=[a,b,c,d]) (n:=c) (by simp));have ed:=xax (ja2 (ns:=[a,b,c,d]) (n:=d) (by simp));have s1:=sa.div (g:=gl [a,b,c,d]);have s2:=sb.div (g:=gl [a,b,c,d]);have s3:=sc.div (g:=gl [a,b,c,d]);have s4:=sd.div (g:=gl [a,b,c,d]);unfold pln;rw[el] at g1 |-
  generalize gl [a,b,c,d]=g at gp g1 nz ea eb ec ed s1 s2 s3 s4 |-
  generalize a / g=x at g1 nz ea s1 |-
  generalize b / g=y at g1 nz eb s2 |-
  generalize c / g=z at g1 nz ec s3 |-
  generalize d / g=w at g1 ed s4 |-
  have hz:∀p:Pt,hgt a b c d p=0->hgt x y z w p=0:=fun p hp=>by
    have e:hgt x y z w p*g=0:=by
      rw[<- hp,<- ea,<- eb,<- ec,<- ed];unfold hgt;grind
    rcases xbC.mp e with q | q
    . exact q
    . omega
  show ∃x' y' z' w':Int,(if plb x y z=true then [x,y,z,w] else [-x,-y,-z,-w])=[x',y',z',w']/\_;cases eb:plb x y z with
  | true=>exact⟨x,y,z,w,if_pos rfl,s1,s2,s3,s4,g1,eb,hz⟩
  | false =>
    refine⟨-x,-y,-z,-w,if_neg (by decide),s1.neg,s2.neg,s3.neg,s4.neg,?_,jlW nz eb,fun p hp=>?_⟩
    . rw[<- g1]
      exact jnn [x,y,z,w]
    . have e:=hz p hp
      have e2:hgt (-x) (-y) (-z) (-w) p=-hgt x y z w p:=by
        unfold hgt;grind
      rw[e2,e];rfl
theorem jno {b x w:Int} (h:pln [a,b,c,d]=[x,y,z,w]):(x≠0->a≠0)/\(y≠0->b≠0)/\(z≠0->c≠0):=by
 have el:low [a,b,c,d]=[a / gl [a,b,c,d],b / gl [a,b,c,d],c / gl [a,b,c,d],d / gl [a,b,c,d]]:=rfl;unfold pln at h;rw[el] at h;generalize gl [a,b,c,d]=g at h;have h':(if plb (a / g) (b / g) (c / g)=true then [a / g,b / g,c / g,d / g] else [-(a / g),-(b / g),-(c / g),-(d / g)])=[x,y,z,w]:=h;have z0:∀{i:Int},i=0->i / g=0:=fun e=>by rw[e];exact Int.zero_ediv g
 split at h'
 ·simp only[List.cons.injEq,and_true] at h';obtain⟨e1,e2,e3,_⟩:=h';exact⟨fun q e=>q (by rw[<- e1];exact z0 e),fun q e=>q (by rw[<- e2];exact z0 e),fun q e=>q (by rw[<- e3];exact z0 e)⟩
 ·simp only[List.cons.injEq,and_true] at h';obtain⟨e1,e2,e3,_⟩:=h';exact⟨fun q e=>q (by rw[<- e1,z0 e];rfl),fun q e=>q (by rw[<- e2,z0 e];rfl),fun q e=>q (by rw[<- e3,z0 e];rfl)⟩
theorem jnp {x:Int} (h:plb x y z=true):¬(x=0/\y=0/\z=0):=fun e=>by
 simp [plb,e.1,e.2.1,e.2.2] at h
theorem sgn0:sgn 0=0:=rfl
def jeG:Sp:=fun vs H Q _=>∃(L:Addr) (b n:Int),vs=[.ref L,.int b]/\H L=some (.lst [.int n])/\0<b/\Fit b/\Q (.int (n % b)) (upd H L (.lst [.int (n / b)]))
def jk0:Sp:=fun vs H Q _=>∃c:Int,vs=[.int c]/\∀(L:Addr) (H':Hp) (m:Int),H L=none->Same H H'->H' L=some (.lst [.int m])->Q (.ref L) H'
def jk1:Sp:=fun vs H Q _=>∃(l:Addr) (ns:List Int),vs=[.ref l]/\H l=some (.lst (ns.map V.int))/\Q (.int (gl ns)) H
def jk2:Sp:=fun vs H Q _=>∃(l:Addr) (ns:List Int),vs=[.ref l]/\H l=some (.lst (ns.map V.int))/\ns.length<=10/\0<gl ns/\Fit (gl ns)/\∀(t:Addr) (H':Hp),Same H H'->H' t=some (.tup ((ns.map (· / gl ns)).map V.int))->Q (.ref t) H'
theorem jlX (T:Tx K mg t1 t2) (F:At K mg "_law_next" jdd ["left","base"] []):jap P w K mg base CX0 1 "_law_next" ["left","base"] [] jeG:=by
 refine F.ok jdY (fun vs H Q E h=>?_) (fun f cdv A outer s H vs Q E hr h=>?_)
 ·obtain⟨L,b,n,rfl,_⟩:=h;rfl
 obtain⟨L,b,n,rfl,hL,b0,fb,q⟩:=h;have S:=jdY;refine⟨_,(jae (jas (i:=2) S.nd rfl (Or.inl rfl) (jao jcR (jar ix_list (pv 0) jab) (pv 1)))
  (jae (jgH (jao jeb (jar ix_list (pv 0) jab) (pv 1)) (jmT (pv 0) jab jjJ))
  (jag (jaq (pv 2))))),?_⟩
 have k1:SqL K H L [.int n]:=SqL.of hL;walk_at "rf";walk_at "gf";unfold gSub;walk_at "rf";exact⟨L,_,0,0,rfl,rfl,hL,rfl,q⟩
theorem jlY (T:Tx K mg t1 t2) (F:At K mg "_law_left" jde ["cell"] []):jap P w K mg base CX0 1 "_law_left" ["cell"] [] jk0:=by
 refine F.ok jdZ (fun vs H Q E h=>?_) (fun f cdv A outer s H vs Q E hr h=>?_)
 ·obtain⟨c,rfl,_⟩:=h;rfl
 obtain⟨c,rfl,q⟩:=h;have S:=jdZ;refine⟨_,(jae (jaQ (PW.pt (jd4 (jat jmY (pv 0) (jao jgJ jab jab) (jaw _)) (jcP (jat jgi (pv 0) (jfJ jdO (jao jgJ jab jab)) (jaw _)))))
  (jag (jaq (jaV (jaa (pv 0) jac jah))))
  jax)
  (jae (jas (i:=1) S.nd rfl (Or.inl rfl) (jao jcR (jao jbu (jao jaA (jao jcR (pv 0) jab) jab) jab) jab))
  (jae (jas (i:=2) S.nd rfl (Or.inl rfl) jab)
  (jae (ja1 PassesOwn.never rfl (jaG rfl T.m_range (jaa jab jac jaj)) (jan (i:=3) S.nd rfl (Or.inl rfl))
  (jae (jas (i:=1) S.nd rfl (Or.inl rfl) (jao jcR (jao jaA (jao jcR (jao jbu (jao jbu (jao jaA (pv 1) (pv 1)) (jao jaA jab (pv 3))) jab) jab) jab) jab))
  (jag (jas (i:=2) S.nd rfl (Or.inl rfl) (jao jbu (jao jaA (pv 2) jab) (pv 1))))))
  (jag (jaq (jaV (jaa (jao jeb (pv 2) jab) jac jaX)))))))),?_⟩
 have e18:(10:Int)^Int.toNat 18=1000000000000000000:=by decide
 walk_at "rf";have fin:1<=sizeLine/\∀p:Addr,H p=none->Q (.ref p) (upd H p (.lst [.int c])):=⟨by decide,fun p hp=>q p _ c hp (Same.new hp _) jaf⟩;have m0:=xaF c (show (2305843009213693951:Int)≠0 by decide);have m1:=xaB c (show (0:Int)<2305843009213693951 by decide);refine⟨⟨by decide,by decide,by decide⟩,jcl (fun _=>fin) fun _=>⟨⟨by decide,by decide,by decide⟩,jcl (fun _=>fin) fun _=>?_⟩⟩;refine⟨by decide,.o (by omega) (by omega),.o (by decide) (by decide),by decide,by decide,by decide,?_⟩;refine jaL (lo:=0) (n:=9) (fun i σ H2=>H2=H/\i<=9/\∃(near far:Int) (o3:Option V),σ=[some (.int c),some (.int near),some (.int far),o3]/\0<=near/\near<2305843009213693951/\Bd (64*i+1) far) ⟨rfl,by decide,_,0,none,rfl,xaF _ (by decide),xaB _ (by decide),by unfold Bd;decide⟩ ?_ ?_
 ·rintro i σ H2 hi ⟨rfl,hi9,near,far,o3,rfl,n0,n1,bf⟩;have fn:Fit near:=.o (by omega) (by omega);have ff:Fit far:=bf.fit (by omega);have r0:=xaF (near*near+977*(0+(i:Int))+11) (show (2305843009213693951:Int)≠0 by decide);have r1:=xaB (near*near+977*(0+(i:Int))+11) (show (0:Int)<2305843009213693951 by decide);have fr:Fit ((near*near+977*(0+(i:Int))+11) % 2305843009213693951):=.o (by omega) (by omega);have t0:=xaF ((near*near+977*(0+(i:Int))+11) % 2305843009213693951*69621) (show (2305843009213693951:Int)≠0 by decide);have t1:=xaB ((near*near+977*(0+(i:Int))+11) % 2305843009213693951*69621) (show (0:Int)<2305843009213693951 by decide);walk_at "rf";walk_at "gf";generalize (near*near+977*(0+(i:Int))+11) % 2305843009213693951*69621 % 2305843009213693951=nn at t0 t1;have b62:Bd 62 2305843009213693952:=by unfold Bd;decide
  have bn:Bd 62 nn:=by
   unfold Bd;have e:(2^62:Nat)=4611686018427387904:=by decide
   rw[e];omega
  have bb:Bd (64*(i+1)+1) (far*2305843009213693952+nn):=Bd.mono (n:=64*i+64) (Bd.add (n:=64*i+63) (Bd.mono (n:=64*i+1+62) (Bd.mul bf b62) (by omega)) (Bd.mono bn (by omega))) (by omega);exact bb
 ·rintro σ H2 ⟨rfl,_,near,far,o3,rfl,n0,n1,bf⟩;walk_at "rf";refine⟨by decide,.o (by decide) (by decide),by decide,fun p hp=>q p _ _ hp (Same.new hp _) jaf⟩
theorem jlZ (T:Tx K mg t1 t2) (F:At K mg "_law_divisor" jbZ ["numbers"] []):jap P w K mg base CX0 1 "_law_divisor" ["numbers"] [] jk1:=by
 refine F.ok jcG (fun vs H Q E h=>?_) (fun f cdv A outer s H vs Q E hr h=>?_)
 ·obtain⟨l,ns,rfl,_⟩:=h;rfl
 obtain⟨l,ns,rfl,hl,q⟩:=h;have S:=jcG;refine⟨_,(jae (jas (i:=1) S.nd rfl (Or.inl rfl) jab)
  (jae (ja1 PassesOwn.never rfl (jbd (pv 0)) (jan (i:=2) S.nd rfl (Or.inl rfl))
  (jae (jas (i:=3) S.nd rfl (Or.inl rfl) (jaz jb9 rfl T.m_abs boot_abs (jaa (pv 2) jac jah)))
  (jag (jea PassesOwn.never (jat jfK (pv 3) jab (jaw _))
  (jag (jmV (i:=1) (j:=3) rfl S.nd rfl rfl (by decide) rfl rfl (jaa (pv 3) (jaa (jao jcR (pv 1) (pv 3)) jac jaX) jah) rfl))))))
  (jag (jaq (pv 1))))),?_⟩
 have k1:SqL K H l (ns.map V.int):=SqL.of hl;walk_at "rf";refine⟨⟨_,k1⟩,jdk (K:=K) (a:=l) (xs:=ns.map V.int) (fun i σ H2=>H2=H/\∃o2 o3:Option V,σ=[some (.ref l),some (.int (gl (ns.take i))),o2,o3]) ⟨rfl,none,none,rfl⟩ (fun i σ H3 _ ⟨h,_⟩=>by rw[h];exact k1) ?_ ?_⟩
 ·rintro i v σ H2 hi ⟨rfl,o2,o3,rfl⟩;obtain⟨m,rfl,hm⟩:=jg0 hi;walk_at "rf";have gn:=jbI (ns.take i);refine⟨fun n σ H3=>H3=H2/\∃(x y:Int),σ=[some (.ref l),some (.int x),some (.int m),some (.int y)]/\0<=x/\0<=y/\Int.gcd x y=Int.gcd (gl (ns.take i)) m/\n=y.toNat,⟨_,rfl,_,_,rfl,gn,by split<;>omega,by split<;>simp,rfl⟩,?_⟩;rintro n σ H3 ⟨rfl,x,y,rfl,hx,hy,hgg,rfl⟩;walk_at "rf";by_cases c:0<y
  ·rw[if_pos c];refine⟨fun σ' H'=>σ'=[some (.ref l),some (.int y),some (.int m),some (.int (x % y))]/\H'=H3,fun σ' H' ⟨h1,h2⟩=>?_,c,rfl,rfl⟩;have b1:=xaF x (show y≠0 by omega);have b2:=xaB x c;exact⟨_,by omega,h2,y,x % y,h1,by omega,b1,(jgZ x y hx).trans hgg,rfl⟩
  ·rw[if_neg c];have e:y=0:=by omega
   subst e;have e2:x=gl (ns.take (i+1)):=by
    rw[jdQ hm,<- hgg,Int.gcd_zero_right];omega
   rw[e2];exact⟨rfl,_,rfl⟩
 ·rintro σ H2 ⟨rfl,o2,o3,rfl⟩;rw[xaa,xaL];walk_at "rf";exact q
def vdiv (g:Int) (v:V):V:=match v with | .int i=>.int (i / g) | _=>v
theorem jj6 (g:Int) (ns:List Int):(ns.map V.int).map (vdiv g)=(ns.map (· / g)).map V.int:=by
 rw[xaW,xaW];rfl
theorem jl0 (T:Tx K mg t1 t2) (F:At K mg "_law_lowest" jbn ["numbers"] []) (dO:jap P w K mg base CX0 1 "_law_divisor" ["numbers"] [] jk1):jap P w K mg base CX0 2 "_law_lowest" ["numbers"] [] jk2:=by
 refine F.ok jc1 (fun vs H Q E h=>?_) (fun f cdv A outer s H vs Q E hr h=>?_)
 ·obtain⟨l,ns,rfl,_⟩:=h;rfl
 obtain⟨l,ns,rfl,hl,h10,gp,gf,q⟩:=h;have S:=jc1;refine⟨_,(jae (jas (i:=1) S.nd rfl (Or.inr rfl) (jai dO hr.m rfl jav (jaa (pv 0) jac jah)))
  (jag (jaq (jaE jbg rfl T.m_tuple boot_tuple (jaa (jaU rfl (N':=["number","by"]) (ix:=[1]) ⟨rfl,rfl,by decide +kernel,by decide +kernel,by decide +kernel,(show ∀y:Str × NameKind,y∈_->y.2=NameKind.free->(jad jbn).names.lookup y.1=some .cell\/(jad jbn).names.lookup y.1=some .free from by decide +kernel),(.cons rfl (.inl rfl) rfl .nil)⟩ (jbd (pv 0)) (fun _ _ _ _=>jan (i:=0) (show (["number","by"]:List Str).Nodup from by decide +kernel) rfl (Or.inl rfl)) (fun _ _ _ _=>ja4) (fun _ _ _ _=>(jao jeb (pv 0) (pv 1)))) jac jcr))))),?_⟩
 have k1:SqL K H l (ns.map V.int):=SqL.of hl;walk_at "rf";refine⟨l,ns,rfl,hl,?_⟩;walk_at "rf";refine⟨⟨_,k1⟩,fun acc hacc=>?_⟩;refine compL (vdiv (gl ns)) (by rw[xaa];omega) hacc k1 ?_ ?_
 ·intro z H3 R hz s3 hR;obtain⟨m,hm,rfl⟩:=xaA.mp hz;walk_at "rf";exact⟨gp,gf,hR _ (Same.refl _)⟩
 intro H1 s1 e1;rw[jj6] at e1;exact⟨_,SqL.of e1,fun t ht=>q t _ (s1.trans (Same.new ht _)) jaf⟩
theorem jiO (T:Tx K mg t1 t2) (F:At K mg "_law_cross" jcA ["one","other"] []):jap P w K mg base CX0 1 "_law_cross" ["one","other"] [] jfs:=by
 refine F.ok jdw (fun vs H Q E h=>?_) (fun f cdv A outer s H vs Q E hr h=>?_)
 ·obtain⟨r,p,a,b,c,x,y,z,rfl,_⟩:=h;rfl
 obtain⟨r,p,a,b,c,x,y,z,rfl,⟨h1,sa,sb,sc⟩,⟨h2,sx,sy,sz⟩,q⟩:=h;have S:=jdw;refine⟨_,(jag (jaq (jbG (jaa (jao jbF (jao jaA (jar jau (pv 0) jab) (jar jau (pv 1) jab)) (jao jaA (jar jau (pv 0) jab) (jar jau (pv 1) jab))) (jaa (jao jbF (jao jaA (jar jau (pv 0) jab) (jar jau (pv 1) jab)) (jao jaA (jar jau (pv 0) jab) (jar jau (pv 1) jab))) (jaa (jao jbF (jao jaA (jar jau (pv 0) jab) (jar jau (pv 1) jab)) (jao jaA (jar jau (pv 0) jab) (jar jau (pv 1) jab))) jac jaX) jaX) jaX)))),?_⟩;have k1:SqT K H r [.int a,.int b,.int c]:=SqT.of h1;have k2:SqT K H p [.int x,.int y,.int z]:=SqT.of h2;have fa:=sa.bd.fit;have fb:=sb.bd.fit;have fc:=sc.bd.fit;have fx:=sx.bd.fit;have fy:=sy.bd.fit;have fz:=sz.bd.fit;walk_at "rf";walk_at "gf";intro t ht;exact q t _ (Same.new ht _) jaf
structure Tri where
 x:Int
 y:Int
 z:Int
def Tri.bd (n:Nat) (v:Tri):Prop:=Bd n v.x/\Bd n v.y/\Bd n v.z
def T3 (H:Hp) (r:Addr) (v:Tri):Prop:=H r=some (.tup [.int v.x,.int v.y,.int v.z])/\v.bd 42
theorem T3.keep {v:Tri} (h:T3 H r v) (s:SameT H H'):T3 H' r v:=⟨s _ _ h.1,h.2⟩
theorem T3.t {v:Tri} (h:T3 H r v):Tup3 H r v.x v.y v.z:=⟨h.1,Bd.mono h.2.1,Bd.mono h.2.2.1,Bd.mono h.2.2.2⟩
structure Sht where
 s:Tri
 w:Int
 c:Tri
 d:Tri
def Sht.u (S:Sht):Tri:=⟨S.c.y*S.d.z-S.c.z*S.d.y,S.c.z*S.d.x-S.c.x*S.d.z,S.c.x*S.d.y-S.c.y*S.d.x⟩
def Tri.nz (v:Tri):Prop:=¬(v.x=0/\v.y=0/\v.z=0)
def IsSh (H:Hp) (t:Addr) (S:Sht):Prop:=∃a c d:Addr,H t=some (.tup [.ref a,.int S.w,.ref c,.ref d])/\T3 H a S.s/\T3 H c S.c/\T3 H d S.d/\1<=S.w/\S.w<=100/\S.u.nz
theorem IsSh.keep {t:Addr} {S:Sht} (h:IsSh H t S) (s:SameT H H'):IsSh H' t S:=by
 obtain⟨a,c,d,h1,h2,h3,h4,h5⟩:=h;exact⟨a,c,d,s _ _ h1,h2.keep s,h3.keep s,h4.keep s,h5⟩
def Box (H:Hp) (L:Addr):Prop:=∃m:Int,H L=some (.lst [.int m])
theorem SameB.t {L:Addr} (s:SameB L H H') (h:Box H L):SameT H H':=fun b xs hb=>by
 by_cases e:b=L
 ·obtain⟨m,hm⟩:=h;rw[e,hm] at hb;cases hb
 ·exact s b _ e hb
def jiP:Sp:=fun vs H Q _=>∃L:Addr,vs=[.ref L]/\Box H L/\∀(t:Addr) (H':Hp) (S:Sht),SameB L H H'->Box H' L->IsSh H' t S->Q (.ref t) H'
def Nine (H:Hp) (N:Addr) (ms:List Int):Prop:=H N=some (.lst (ms.map V.int))/\ms.length=9/\∀m∈ms,Bd 41 m
theorem jl1 {ms:List Int} (h:ms.length=9):∃a b c d e f g i j,ms=[a,b,c,d,e,f,g,i,j]:=by
 match ms,h with
 | [a,b,c,d,e,f,g,i,j],_=>exact⟨a,b,c,d,e,f,g,i,j,rfl⟩
def zM0 (H:Hp) (L:Addr):L2.St->Hp->Prop:=fun σ H'=>∃sp:Int,σ=[some (.ref L),some (.int sp),none,none,none,none,none]/\0<sp/\sp<=1000000000000/\SameB L H H'/\Box H' L
def zM1 (H:Hp) (L:Addr):L2.St->Hp->Prop:=fun σ H'=>∃(N:Addr) (ms:List Int) (o1:Option V),σ=[some (.ref L),o1,some (.ref N),none,none,none,none]/\Nine H' N ms/\N≠L/\SameB L H H'/\Box H' L
def zM3 (H:Hp) (L:Addr):L2.St->Hp->Prop:=fun σ H'=>∃(N a:Addr) (ms:List Int) (c:Tri) (o1:Option V),σ=[some (.ref L),o1,some (.ref N),some (.ref a),none,none,none]/\Nine H' N ms/\N≠L/\T3 H' a c/\c.nz/\SameB L H H'/\Box H' L
def vv (v:Tri):Nat->Tri
 | 0=>v
 | 1=>⟨v.x+1,v.y,v.z⟩
 | 2=>⟨v.x,v.y+1,v.z⟩
 | _=>⟨v.x,v.y,v.z+1⟩
def Few (H:Hp) (rs:List Addr) (v:Tri):Prop:=∀(i:Nat) (r:Addr),rs[i]?=some r->T3 H r (vv v i)
def zM5 (H:Hp) (L:Addr):L2.St->Hp->Prop:=fun σ H'=>∃(N a b:Addr) (ms:List Int) (c v:Tri) (rs:List Addr) (o1 o5:Option V),σ=[some (.ref L),o1,some (.ref N),some (.ref a),some (.ref b),o5,none]/\Nine H' N ms/\N≠L/\T3 H' a c/\c.nz/\SameB L H H'/\Box H' L/\H' b=some (.lst (rs.map V.ref))/\rs.length=4/\Few H' rs v
def zM6 (H:Hp) (L:Addr):L2.St->Hp->Prop:=fun σ H'=>∃(N a d:Addr) (ms:List Int) (c v:Tri) (o1 o4 o5:Option V),σ=[some (.ref L),o1,some (.ref N),some (.ref a),o4,o5,some (.ref d)]/\Nine H' N ms/\N≠L/\T3 H' a c/\T3 H' d v/\(Sht.u ⟨c,0,c,v⟩).nz/\SameB L H H'/\Box H' L
def nzb (c v:Tri):Bool:=!decide ([c.y*v.z-c.z*v.y,c.z*v.x-c.x*v.z,c.x*v.y-c.y*v.x]=[0,0,0])
theorem jnq {c v:Tri} (h:nzb c v=true):(Sht.u ⟨c,0,c,v⟩).nz:=fun z=>by
 unfold nzb at h;obtain⟨z1,z2,z3⟩:=z;unfold Sht.u at z1 z2 z3;simp only at z1 z2 z3;rw[z1,z2,z3] at h;simp at h
theorem jl2 {c v:Tri} (h:nzb c v=false):c.y*v.z-c.z*v.y=0/\c.z*v.x-c.x*v.z=0/\c.x*v.y-c.y*v.x=0:=by
 unfold nzb at h;rw[Bool.not_eq_false',decide_eq_true_eq] at h;simp only[List.cons.injEq,and_true] at h;exact h
theorem jl3 {c:Tri} (h:c.nz) (v:Tri):∃i,i<4/\nzb c (vv v i)=true:=by
 apply xap;intro n;have f:∀i,i<4->nzb c (vv v i)=false:=fun i hi=>by
  cases e:nzb c (vv v i) with
  | false=>rfl
  | true=>exact absurd ⟨i,hi,e⟩ n
 obtain⟨a1,a2,a3⟩:=jl2 (f 0 (by decide));obtain⟨b1,b2,b3⟩:=jl2 (f 1 (by decide));obtain⟨c1,c2,c3⟩:=jl2 (f 2 (by decide));unfold vv at a1 a2 a3 b1 b2 b3 c1 c2 c3;simp only at a1 a2 a3 b1 b2 b3 c1 c2 c3;rw[Int.mul_add] at b2 b3 c1 c3;exact h ⟨by omega,by omega,by omega⟩
theorem jj7 {c:Nat->Bool} {f:Nat->V} (h:∃i,i<4/\c i=true):∃(j:Nat) (jba:List V),j<4/\c j=true/\((List.range 4).filter c).map f=f j::jba:=by
  obtain⟨i,hi,ci⟩:=h;have m:i∈(List.range 4).filter c:=xa8.mpr ⟨xaN.mpr hi,ci⟩;cases e:(List.range 4).filter c with
  | nil=>rw[e] at m;cases m
  | cons j r =>
    have mj:j∈(List.range 4).filter c:=by rw[e];exact xav
    obtain⟨m1,m2⟩:=xa8.mp mj;exact⟨j,r.map f,xaN.mp m1,m2,rfl⟩
theorem bd41 {i:Int} (h1:-2199023255552<i) (h2:i<2199023255552):Bd 41 i:=by
 unfold Bd;have e:(2^41:Nat)=2199023255552:=by decide
 rw[e];omega
theorem jj8 (T:Tx K mg t1 t2) (F:At K mg "_law_sheet" jaS ["left"] []) (db:jap P w K mg base CX0 1 "_law_next" ["left","base"] [] jeG) (Dc:jap P w K mg base CX0 1 "_law_cross" ["one","other"] [] jfs):jap P w K mg base CX0 2 "_law_sheet" ["left"] [] jiP:=by
  refine F.ok jdx (fun vs H Q E h=>?_) (fun f cdv A outer s H vs Q E hr h=>?_)
  . obtain⟨L,rfl,_⟩:=h
    rfl
  obtain⟨L,rfl,hB,q⟩:=h;have S:=jdx;refine⟨_,(jbA (zM0 H L) (jas (i:=1) S.nd rfl (Or.inr rfl) (jar ix_list (jaV (jaa jab (jaa jab (jaa jab (jaa jab (jaa (jao jgJ jab jab) jac jaX) jaj) jaj) jaj) jaj)) (jai db hr.m rfl jav (jaa (pv 0) (jaa jab jac jaj) jah))))
    (jbA (zM1 H L) (jas (i:=2) S.nd rfl (Or.inr rfl) (jaU rfl (N':=["k","left","span"]) (ix:=[0,1]) ⟨rfl,rfl,by decide +kernel,by decide +kernel,by decide +kernel,(show ∀y:Str × NameKind,y∈_->y.2=NameKind.free->(jad jaS).names.lookup y.1=some .cell\/(jad jaS).names.lookup y.1=some .free from by decide +kernel),(.cons rfl (.inl rfl) rfl (.cons rfl (.inl rfl) rfl .nil))⟩ (jaG rfl T.m_range (jaa jab jac jaj)) (fun _ _ _ _=>jan (i:=0) (show (["k","left","span"]:List Str).Nodup from by decide +kernel) rfl (Or.inl rfl)) (fun _ _ _ _=>ja4) (fun _ _ _ _=>(jao jbF (jai db hr.m rfl jav (jaa (pv 1) (jaa (jao jbu (jao jaA jab (pv 2)) jab) jac jaX) jah)) (pv 2)))))
    (jae (jas (i:=3) S.nd rfl (Or.inr rfl) (jaE jbg rfl T.m_tuple boot_tuple (jaa (ja5 jbz (pv 2) (ja7 jab) (ja7 jab)) jac jaD)))
    (jbA (zM3 H L) (jaQ (jat (jkK (jkL hr)) (pv 3) (jbG (jaa jab (jaa jab (jaa jab jac jaj) jaj) jaj)) (jaw _))
    (jag (jas (i:=3) S.nd rfl (Or.inr rfl) (jbG (jaa jab (jaa jab (jaa jab jac jaj) jaj) jaj))))
    jax)
    (jae (jas (i:=4) S.nd rfl (Or.inl rfl) (jaV (jaa (jaE jbg rfl T.m_tuple boot_tuple (jaa (ja5 jbz (pv 2) (ja7 jab) jbe) jac jaD)) jac jaJ)))
    (jbA (zM5 H L) (ja1 PassesOwn.never rfl (jaG rfl T.m_range (jaa jab jac jaj)) (jan (i:=5) S.nd rfl (Or.inr rfl))
    (jag (jbi (jb2 PySem.F.plainAttrs_list PySem.F.slot_list_append PySem.F.type_list_append jbk (pv 4) (jaa (jaE jbg rfl T.m_tuple boot_tuple (jaa (jaU rfl (N':=["j","numbers","k"]) (ix:=[2,5]) ⟨rfl,rfl,by decide +kernel,by decide +kernel,by decide +kernel,(show ∀y:Str × NameKind,y∈_->y.2=NameKind.free->(jad jaS).names.lookup y.1=some .cell\/(jad jaS).names.lookup y.1=some .free from by decide +kernel),(.cons rfl (.inl rfl) rfl (.cons rfl (.inl rfl) rfl .nil))⟩ (jaG rfl T.m_range (jaa jab jac jaj)) (fun _ _ _ _=>jan (i:=0) (show (["j","numbers","k"]:List Str).Nodup from by decide +kernel) rfl (Or.inl rfl)) (fun _ _ _ _=>ja4) (fun _ _ _ _=>(jao jbu (jar (jfj (K:=K) rfl) (pv 1) (jao jbu jab (pv 0))) (jaE jh5 rfl T.m_int boot_int (jaa (jb8 jcN (pv 0) (pv 2) (jaw _)) jac jlC))))) jac jcr)) jac jaJ)))))
    (jbA (zM6 H L) (jas (i:=6) S.nd rfl (Or.inl rfl) (jar ix_list (jaU rfl (N':=["one","across"]) (ix:=[3]) ⟨rfl,rfl,by decide +kernel,by decide +kernel,by decide +kernel,(show ∀y:Str × NameKind,y∈_->y.2=NameKind.free->(jad jaS).names.lookup y.1=some .cell\/(jad jaS).names.lookup y.1=some .free from by decide +kernel),(.cons rfl (.inl rfl) rfl .nil)⟩ (jbd (pv 4)) (fun _ _ _ _=>jan (i:=0) (show (["one","across"]:List Str).Nodup from by decide +kernel) rfl (Or.inl rfl)) (fun _ _ _ _=>(jfh (jat (jlD (K:=K) rfl (jkL hr)) (jai Dc hr.m rfl jav (jaa (pv 1) (jaa (pv 0) jac jah) jah)) (jbG (jaa jab (jaa jab (jaa jab jac jaj) jaj) jaj)) (jaw _)))) (fun _ _ _ _=>(pv 0))) jab))
    (jag (jaq (jbG (jaa (jaE jbg rfl T.m_tuple boot_tuple (jaa (ja5 jbz (pv 2) jbe (ja7 jab)) jac jaD)) (jaa (jao jbu jab (jao jaA (jai db hr.m rfl jav (jaa (pv 0) (jaa jab jac jaj) jah)) (jai db hr.m rfl jav (jaa (pv 0) (jaa jab jac jaj) jah)))) (jaa (pv 3) (jaa (pv 6) jac jah) jah) jaX) jaJ))))))))))),?_⟩
  obtain⟨n,hL⟩:=hB;have e5':(10:Int)^Int.toNat 5=100000:=by decide
  walk_at "rf";simp only[e5'];refine⟨⟨by decide,by decide,by decide⟩,by decide,fun p hp=>?_,?_⟩
  . have s1:=Same.new hp (.lst [.int 2,.int 4,.int 9,.int 1000,.int 100000])
    have e1:upd H p (.lst [.int 2,.int 4,.int 9,.int 1000,.int 100000]) p=some (.lst [.int 2,.int 4,.int 9,.int 1000,.int 100000]):=jaf;have ne:L≠p:=jal hL hp;generalize upd H p (.lst [.int 2,.int 4,.int 9,.int 1000,.int 100000])=H1 at s1 e1 |-
    refine⟨L,5,n,rfl,s1 _ _ hL,by decide,.o (by decide) (by decide),?_⟩;have s2:SameB L H (upd H1 L (.lst [.int (n / 5)])):=s1.b.box;have b2:Box (upd H1 L (.lst [.int (n / 5)])) L:=⟨_,jaf⟩;have kp:SqL K (upd H1 L (.lst [.int (n / 5)])) p [.int 2,.int 4,.int 9,.int 1000,.int 100000]:=SqL.of (by rw[jak (Ne.symm ne)];exact e1);have e5:n % 5=0\/n % 5=1\/n % 5=2\/n % 5=3\/n % 5=4:=by omega
    rcases e5 with e | e | e | e | e<;>rw[e]
    . exact ixL kp rfl ⟨_,rfl,by decide,by decide,s2,b2⟩
    . exact ixL kp rfl ⟨_,rfl,by decide,by decide,s2,b2⟩
    . exact ixL kp rfl ⟨_,rfl,by decide,by decide,s2,b2⟩
    . exact ixL kp rfl ⟨_,rfl,by decide,by decide,s2,b2⟩
    . exact ixL kp rfl ⟨_,rfl,by decide,by decide,s2,b2⟩
  rintro σ1 H1 ⟨sp,rfl,sp0,sp1,s1,m,hm⟩;walk_at "rf";refine⟨by decide,by decide,fun acc hacc=>?_,?_⟩
  . have nL:acc≠L:=Ne.symm (jal hm hacc)
    refine je1 (lo:=0) (n:=9) (fun j xs H3=>SameB L H1 H3/\H3 acc=some (.lst xs)/\Box H3 L/\∃ms:List Int,xs=ms.map V.int/\ms.length=j/\∀m∈ms,Bd 41 m) ⟨(SameB.refl L H1).acc hacc,jaf,⟨m,by rw[jak (Ne.symm nL)];exact hm⟩,[],rfl,rfl,fun m h=>nomatch h⟩ ?_ ?_
    . rintro j xs H3 hj ⟨k1,k2,⟨m3,k3⟩,ms,rfl,hl,hb⟩
      have r0:=xaF m3 (show 2*sp+1≠0 by omega);have r1:=xaB m3 (show 0<2*sp+1 by omega);walk_at "rf";refine⟨.o (by decide) (by decide),.o (by omega) (by omega),L,_,m3,rfl,k3,by omega,.o (by omega) (by omega),?_⟩;walk_at "rf";refine⟨by rw[jak nL];exact k2,jaH (by rw[xaa];omega),(k1.box).acc hacc,jaf,⟨_,by rw[jak (Ne.symm nL)];exact jaf⟩,ms++[m3 % (2*sp+1)-sp],by rw[xal];rfl,by rw[xaf,hl];rfl,fun y hy=>?_⟩;rcases xay.mp hy with h | h
      . exact hb y h
      . rw[xak] at h
        subst h;exact bd41 (by omega) (by omega)
    . rintro xs H3 ⟨k1,k2,k3,ms,rfl,hl,hb⟩
      exact⟨acc,ms,_,rfl,⟨k2,hl,hb⟩,nL,s1.trans k1,k3⟩
  clear hm s1 sp0 sp1;rintro σ2 H2 ⟨N,ms,o1,rfl,⟨hN,hl,hb⟩,nL,s2,b2⟩;obtain⟨n0,n1,n2,n3,n4,n5,n6,n7,n8,rfl⟩:=jl1 hl;walk_at "rf";refine⟨N,_,rfl,SqL.of hN,fun a1 h_a1=>?_⟩;have c1:jeR ([n0,n1,n2,n3,n4,n5,n6,n7,n8].map V.int) (some 3) (some 6)=[.int n3,.int n4,.int n5]:=rfl;rw[c1];refine ja6 h_a1 fun J1 s_a1 e_a1=>?_;refine⟨a1,rfl,_,SqL.of e_a1,fun a2 h_a2=>?_⟩;refine ja6 h_a2 fun J2 s_a2 e_a2=>?_;refine⟨by decide,fun a3 h_a3=>?_,?_⟩
  . refine ja6 h_a3 fun J3 s_a3 e_a3=>?_
    have s23:=s_a1.trans (s_a2.trans s_a3);have hN3:=s23 _ _ hN;have b3:Box J3 L:=let ⟨m,hm⟩:=b2;⟨m,s23 _ _ hm⟩;refine jjO (x:=[n3,n4,n5]) (y:=[0,0,0]) (SqT.of (s_a3 _ _ e_a2)) (SqT.of e_a3) ⟨_,rfl,?_⟩;refine jcl (fun c=>⟨by decide,fun a4 h_a4=>?_⟩) fun c=>?_
    . have s4:=Same.new h_a4 (.tup [.int 1,.int 0,.int 0])
      exact⟨N,a4,_,⟨1,0,0⟩,_,rfl,⟨s4 _ _ hN3,hl,hb⟩,nL,⟨jaf,by unfold Tri.bd Bd;decide⟩,by unfold Tri.nz;simp,s2.trans (s23.trans s4).b,let ⟨m,hm⟩:=b3;⟨m,s4 _ _ hm⟩⟩
    . refine⟨N,a2,_,⟨n3,n4,n5⟩,_,rfl,⟨hN3,hl,hb⟩,nL,⟨s_a3 _ _ e_a2,(hb n3 (by simp)).mono,(hb n4 (by simp)).mono,(hb n5 (by simp)).mono⟩,fun z=>c ?_,s2.trans s23.b,b3⟩
      obtain⟨z1,z2,z3⟩:=z;simp only at z1 z2 z3;rw[z1,z2,z3];rfl
  clear e_a1 e_a2 s_a1 s_a2 hN hb hl h_a1 h_a2;rintro σ3 H3 ⟨N,a,ms,c,o1,rfl,⟨hN,hl,hb⟩,nL,hc,cnz,s3,b3⟩;obtain⟨n0,n1,n2,n3,n4,n5,n6,n7,n8,rfl⟩:=jl1 hl;walk_at "rf";refine⟨N,_,rfl,SqL.of hN,fun a1 h_a1=>?_⟩;have c1:jeR ([n0,n1,n2,n3,n4,n5,n6,n7,n8].map V.int) (some 6) none=[.int n6,.int n7,.int n8]:=rfl;rw[c1];refine ja6 h_a1 fun J1 s_a1 e_a1=>?_;refine⟨a1,rfl,_,SqL.of e_a1,fun a2 h_a2=>?_⟩;refine ja6 h_a2 fun J2 s_a2 e_a2=>?_;have s32:=s_a1.trans s_a2;have hN2:=s32 _ _ hN;have hc2:=hc.keep s32.t;have b2':Box J2 L:=let ⟨m,hm⟩:=b3;⟨m,s32 _ _ hm⟩;have bv:(⟨n6,n7,n8⟩:Tri).bd 41:=⟨hb n6 (by simp),hb n7 (by simp),hb n8 (by simp)⟩;refine⟨by decide,fun b h_b=>⟨by decide,by decide,?_,?_⟩⟩
  . have nN:N≠b:=jal hN2 h_b
    have na:a≠b:=jal hc2.1 h_b;have nLb:L≠b:=by obtain⟨m,hm⟩:=b2';exact jal hm h_b
    have ka2:a2≠b:=jal e_a2 h_b;refine jaL (lo:=0) (n:=3) (fun i σ H4=>SameB b J2 H4/\∃(rs:List Addr) (o5:Option V),σ=[some (.ref L),o1,some (.ref N),some (.ref a),some (.ref b),o5,none]/\H4 b=some (.lst (rs.map V.ref))/\rs.length=i+1/\Few H4 rs ⟨n6,n7,n8⟩) ⟨(SameB.refl b J2).box,[a2],none,rfl,jaf,rfl,fun j r hj=>?_⟩ ?_ ?_
    . cases j with
      | zero =>
        cases hj;exact⟨by rw[jak ka2];exact e_a2,bv.1.mono,bv.2.1.mono,bv.2.2.mono⟩
      | succ j=>cases hj
    . rintro i σ H4 hi ⟨s4,rs,o5,rfl,hb4,l4,few⟩
      have hN4:H4 N=some (.lst [.int n0,.int n1,.int n2,.int n3,.int n4,.int n5,.int n6,.int n7,.int n8]):=s4 N _ nN hN2;have kN4:SqL K H4 N [.int n0,.int n1,.int n2,.int n3,.int n4,.int n5,.int n6,.int n7,.int n8]:=SqL.of hN4;have fin:∀(i:Nat) (t:Addr) (H5:Hp),rs.length=i+1->i<3->Same H4 H5->H5 t=some (.tup [.int (vv ⟨n6,n7,n8⟩ (i+1)).x,.int (vv ⟨n6,n7,n8⟩ (i+1)).y,.int (vv ⟨n6,n7,n8⟩ (i+1)).z]) ->
          SameB b J2 (upd H5 b (.lst (rs.map V.ref++[.ref t])))/\∃rs':List Addr,(upd H5 b (.lst (rs.map V.ref++[.ref t]))) b=some (.lst (rs'.map V.ref))/\rs'.length=i+1+1/\Few (upd H5 b (.lst (rs.map V.ref++[.ref t]))) rs' ⟨n6,n7,n8⟩:=fun i t H5 li i3 s5 e5=>by
        have hb5:=s5 _ _ hb4;have st:SameT H5 (upd H5 b (.lst (rs.map V.ref++[.ref t]))):=SameT.upd hb5;refine⟨(s4.trans s5.b).box,rs++[t],by rw[xal];exact jaf,by rw[xaf,li];rfl,fun j r hj=>?_⟩;by_cases cj:j<rs.length
        . rw[xaO cj] at hj
          exact (few j r hj).keep (s5.t.trans st)
        . have ej:j=i+1:=by
            have z:=(xaj.mp hj).1;rw[xaf,li] at z;have:j<i+1+1:=z;omega
          subst ej;rw[xaI (by omega),li,Nat.sub_self] at hj;cases hj;refine⟨st _ _ e5,?_⟩;have up:∀{x:Int},Bd 41 x->Bd 42 (x+1):=fun h=>Bd.add h (by unfold Bd;decide)
          match i,i3 with
          | 0,_=>exact⟨up bv.1,bv.2.1.mono,bv.2.2.mono⟩
          | 1,_=>exact⟨bv.1.mono,up bv.2.1,bv.2.2.mono⟩
          | 2,_=>exact⟨bv.1.mono,bv.2.1.mono,up bv.2.2⟩
      walk_at "rf";refine⟨.inl ⟨_,SqL.of hb4⟩,by decide,by decide,fun acc hacc=>?_⟩
      match i,hi with
      | 0, _ =>
        refine jjN (n:=3) (fun j=>.int (match j with | 0=>n6+1 | 1=>n7 | _=>n8)) (by decide) hacc ?_ ?_
        . intro j H5 R hj s5 hR
          have kN5:=s5.seq kN4;obtain rfl | rfl | rfl:=lt3 hj
          all_goals
            have z:=hR H5 (Same.refl _);walk_at "rf";refine ixL kN5 rfl ?_;walk_at "rf";simpa using z
        intro H5 s5 e5;refine⟨_,SqL.of e5,fun t ht=>?_⟩;obtain⟨f1,f2⟩:=fin 0 t _ l4 (by decide) (s5.trans (Same.new ht _)) jaf;refine⟨b,_,_,rfl,rfl,(s5.trans (Same.new ht _)) _ _ hb4,jaH (by rw[xaa];omega),?_⟩;exact⟨f1,f2⟩
      | 1, _ =>
        refine jjN (n:=3) (fun j=>.int (match j with | 0=>n6 | 1=>n7+1 | _=>n8)) (by decide) hacc ?_ ?_
        . intro j H5 R hj s5 hR
          have kN5:=s5.seq kN4;obtain rfl | rfl | rfl:=lt3 hj
          all_goals
            have z:=hR H5 (Same.refl _);walk_at "rf";refine ixL kN5 rfl ?_;walk_at "rf";simpa using z
        intro H5 s5 e5;refine⟨_,SqL.of e5,fun t ht=>?_⟩;obtain⟨f1,f2⟩:=fin 1 t _ l4 (by decide) (s5.trans (Same.new ht _)) jaf;refine⟨b,_,_,rfl,rfl,(s5.trans (Same.new ht _)) _ _ hb4,jaH (by rw[xaa];omega),?_⟩;exact⟨f1,f2⟩
      | 2, _ =>
        refine jjN (n:=3) (fun j=>.int (match j with | 0=>n6 | 1=>n7 | _=>n8+1)) (by decide) hacc ?_ ?_
        . intro j H5 R hj s5 hR
          have kN5:=s5.seq kN4;obtain rfl | rfl | rfl:=lt3 hj
          all_goals
            have z:=hR H5 (Same.refl _);walk_at "rf";refine ixL kN5 rfl ?_;walk_at "rf";simpa using z
        intro H5 s5 e5;refine⟨_,SqL.of e5,fun t ht=>?_⟩;obtain⟨f1,f2⟩:=fin 2 t _ l4 (by decide) (s5.trans (Same.new ht _)) jaf;refine⟨b,_,_,rfl,rfl,(s5.trans (Same.new ht _)) _ _ hb4,jaH (by rw[xaa];omega),?_⟩;exact⟨f1,f2⟩
    . rintro σ H4 ⟨s4,rs,o5,rfl,hb4,l4,few⟩
      have ob:∀{x:Addr} {o:HO},x≠b->J2 x=some o->H4 x=some o:=fun nx h=>s4 _ _ nx h;have sB:SameB L H H4:=s3.trans (fun x o nx hx=>by
        have z:=s32 x o hx;exact s4 x o (jal z h_b) z)
      exact⟨N,a,b,_,c,_,rs,_,_,rfl,⟨ob nN hN2,hl,hb⟩,nL,⟨ob na hc2.1,hc2.2⟩,cnz,sB,let ⟨m,hm⟩:=b2';⟨m,ob nLb hm⟩,hb4,l4,few⟩
  clear e_a1 e_a2 s_a1 s_a2 hN2 hc2 b2' bv s32 hN hb hl hc cnz s3 b3 h_a1 h_a2;rintro σ5 H5 ⟨N,a,b,ms,c,v,rs,o1,o5,rfl,hN9,nL,hc,cnz,s5,b5,hb5,l4,few⟩;walk_at "rf";refine⟨⟨_,SqL.of hb5⟩,fun acc hacc=>?_,?_⟩
  . have lr:(rs.map V.ref).length=4:=by rw[xaa,l4]
    have gr:∀{i:Nat},i<4->rs[i]?=some (ad rs i):=fun {i} hi=>by
      unfold ad;rw[xag,xab (by omega)];rfl
    refine jiy (zs:=rs.map V.ref) (fun i=>.ref (ad rs i)) (fun i=>nzb c (vv v i)) (by omega) hacc (SqL.of hb5) ?_ ?_ ?_
    . intro i z H6 R hi s6 hR
      have hi4:i<4:=by have:=(xaj.mp hi).1;omega
      rw[xad,gr hi4] at hi;cases hi;have f6:=(few i _ (gr hi4)).keep s6.t;walk_at "rf";refine⟨a,ad rs i,c.x,c.y,c.z,(vv v i).x,(vv v i).y,(vv v i).z,rfl,(hc.keep s6.t).t,f6.t,fun t H7 s7 e7=>⟨by decide,fun m h_m=>?_⟩⟩;refine ja6 h_m fun H8 s_m e_m=>?_;refine jgR (x:=[c.y*(vv v i).z-c.z*(vv v i).y,c.z*(vv v i).x-c.x*(vv v i).z,c.x*(vv v i).y-c.y*(vv v i).x]) (y:=[0,0,0]) (SqT.of (s_m _ _ e7)) (SqT.of e_m) ⟨_,rfl,hR _ (s7.trans s_m)⟩
    . intro i z H6 R hi ci s6 hR
      have hi4:i<4:=by have:=(xaj.mp hi).1;omega
      rw[xad,gr hi4] at hi;cases hi;walk_at "rf";exact hR _ (Same.refl _)
    intro H6 s6 e6';rw[lr] at e6';obtain⟨j,jba,j4,jn,ej⟩:=jj7 (f:=fun i=>V.ref (ad rs i)) (c:=fun i=>nzb c (vv v i)) (jl3 cnz v);rw[ej] at e6';refine ixL (SqL.of e6') (jaF (j:=0) rfl) ?_;obtain⟨hN1,hl1,hb1⟩:=hN9;exact⟨N,a,ad rs j,ms,c,vv v j,_,_,_,rfl,⟨s6 _ _ hN1,hl1,hb1⟩,nL,hc.keep s6.t,(few j _ (gr j4)).keep s6.t,jnq jn,s5.trans s6.b,let ⟨m,hm⟩:=b5;⟨m,s6 _ _ hm⟩⟩
  clear hb5 few l4 s5 b5 hc cnz hN9;rintro σ6 H6 ⟨N,a,d,ms,c,v,o1,o4,o5,rfl,⟨hN,hl,hb⟩,nL,hc,hd,nz,s6,m,hm⟩;obtain⟨n0,n1,n2,n3,n4,n5,n6,n7,n8,rfl⟩:=jl1 hl;walk_at "rf";refine⟨N,_,rfl,SqL.of hN,fun a1 h_a1=>?_⟩;have c1:jeR ([n0,n1,n2,n3,n4,n5,n6,n7,n8].map V.int) none (some 3)=[.int n0,.int n1,.int n2]:=rfl;rw[c1];refine ja6 h_a1 fun J1 s_a1 e_a1=>?_;refine⟨a1,rfl,_,SqL.of e_a1,fun a2 h_a2=>?_⟩;refine ja6 h_a2 fun J2 s_a2 e_a2=>?_;have s62:=s_a1.trans s_a2;have hm2:=s62 _ _ hm;refine⟨L,12,m,rfl,hm2,by decide,.o (by decide) (by decide),?_⟩;refine⟨L,2,m / 12,rfl,jaf,by decide,.o (by decide) (by decide),?_⟩;have r0:=xaF m (show (12:Int)≠0 by decide);have r1:=xaB m (show (0:Int)<12 by decide);have w0:0<=m % 12*(m / 12 % 2)/\m % 12*(m / 12 % 2)<=11:=by
    have e2:m / 12 % 2=0\/m / 12 % 2=1:=by omega
    rcases e2 with e | e<;>rw[e]<;>omega
  rw[jlm];have sB:SameB L H6 (upd J2 L (.lst [.int (m / 12 / 2)])):=s62.b.box;have bL:(upd J2 L (.lst [.int (m / 12 / 2)])) L=some (.lst [.int (m / 12 / 2)]):=jaf;have ea2:(upd J2 L (.lst [.int (m / 12 / 2)])) a2=some (.tup [.int n0,.int n1,.int n2]):=by
    rw[jak (fun z=>by rw[z,hm2] at e_a2;cases e_a2)];exact e_a2
  have sT:SameT H6 (upd J2 L (.lst [.int (m / 12 / 2)])):=SameB.t sB ⟨m,hm⟩;generalize upd J2 L (.lst [.int (m / 12 / 2)])=J3 at sB bL ea2 sT |-
  walk_at "rf";refine⟨.o (by omega) (by omega),.o (by omega) (by omega),by decide,fun t ht=>?_⟩;have s4:=Same.new ht (.tup [.ref a2,.int (1+m % 12*(m / 12 % 2)),.ref a,.ref d]);refine q t _ ⟨⟨n0,n1,n2⟩,1+m % 12*(m / 12 % 2),c,v⟩ (s6.trans (sB.trans s4.b)) ⟨_,s4 _ _ bL⟩ ⟨a2,a,d,jaf,⟨s4 _ _ ea2,(hb n0 (by simp)).mono,(hb n1 (by simp)).mono,(hb n2 (by simp)).mono⟩,(hc.keep sT).keep s4.t,(hd.keep sT).keep s4.t,?_,?_,nz⟩
  . show 1 <= 1+m % 12*(m / 12 % 2)
    omega
  . show 1+m % 12*(m / 12 % 2) <= 100
    omega
def jeH (i:Nat):Int:=match i with | 0=>1 | 1=>2 | 2=>3 | 3=>3 | 4=>2 | 5=>1 | _=>0
def jeI (i:Nat):Int:=match i with | 0=>0 | 1=>0 | 2=>1 | 3=>2 | 4=>3 | 5=>3 | 6=>2 | _=>1
inductive Plc (H:Hp):List Addr->List Tri->Prop
 | nil:Plc H [] []
 | cons {r:Addr} {v:Tri} {rs:List Addr} {vs:List Tri} (h:H r=some (.tup [.int v.x,.int v.y,.int v.z])) (t:Plc H rs vs):Plc H (r::rs) (v::vs)
variable {vs:List Tri}
theorem Plc.keep (h:Plc H rs vs) (s:SameT H H'):Plc H' rs vs:=by
 induction h with
 | nil=>exact .nil
 | cons h _ ih=>exact .cons (s _ _ h) ih
theorem Plc.len (h:Plc H rs vs):rs.length=vs.length:=by
 induction h with
 | nil=>rfl
 | cons h _ ih=>rw[xam,xam,ih]
def Ix (ix:List Nat):Prop:=3<=ix.length/\ix.length<=8/\ix.Pairwise (· < ·)/\∀i∈ix,i<8
def plc (s t:Int) (i:Nat):Tri:=⟨jeH i*s,jeI i*t,s*t⟩
theorem jiQ (i:Nat):(0<=jeH i/\jeH i<=3)/\0<=jeI i/\jeI i<=3:=by
 refine⟨?_,?_⟩
 ·unfold jeH;split<;>decide
 ·unfold jeI;split<;>decide
theorem Plc.get (h:Plc H rs vs):∀{i:Nat} {v:Tri},vs[i]?=some v->rs[i]?=some (ad rs i)/\H (ad rs i)=some (.tup [.int v.x,.int v.y,.int v.z]):=by
  induction h with
  | nil=>intro i v hv;simp at hv
  | cons h _ ih =>
    intro i v hv;cases i with
    | zero =>
      cases hv;exact⟨rfl,h⟩
    | succ i=>exact ih hv
theorem jk3 (h:i<8):((List.range 8).map (plc 1 1))[i]?=some (plc 1 1 i):=by
 rw[xad,xbD h];rfl
theorem Plc.sub {H:Hp} {rs:List Addr} (h:Plc H rs ((List.range 8).map (plc 1 1))):∀ix:List Nat,(∀i∈ix,i<8)->Plc H (ix.map (ad rs)) (ix.map (plc 1 1))
 | [],_=>.nil
 | i::r,hi=>.cons (h.get (jk3 (hi i xav))).2 (Plc.sub h r fun j hj=>hi j (xaq _ hj))
theorem jk4 {H:Hp}:∀(ys:List V) (vs:List Tri),ys.length=vs.length->(∀(i:Nat) (y:V) (v:Tri),ys[i]?=some y->vs[i]?=some v->∃r:Addr,y=V.ref r/\H r=some (.tup [.int v.x,.int v.y,.int v.z]))->∃rs:List Addr,ys=rs.map V.ref/\Plc H rs vs
  | [],[],_,_=>⟨[],rfl,.nil⟩
  | y :: ys, v :: vs, hl, h => by
    obtain⟨r,rfl,hr⟩:=h 0 y v rfl rfl;obtain⟨rs,rfl,hp⟩:=jk4 ys vs (by simpa using hl) fun i y v h1 h2=>h (i+1) y v h1 h2;exact⟨r::rs,rfl,.cons hr hp⟩
variable {ρ:L2.St}
variable {te:TE}
theorem jnr {a:Addr} {zs:List V} {n:Nat} {g:TG} {acc:Addr} {Z:Hp->Prop} {H1:Hp} (p:Nat->V->Hp->Prop) (st:Stab p) (hn:zs.length<1000) (hacc:H1 acc=none) (hz:SqL K H1 a zs)
  (hs:∀(i:Nat) (z:V) (v0:L2.St) (H3:Hp) (R:V->Hp->Prop),zs[i]?=some z->v0.length=n->Same H1 H3->(∀y H4,Same H3 H4->p i y H4->R y H4)->g z (v0++ρ) H3 fun σ2 H2=>(∃v:L2.St,v.length=n/\σ2=v++ρ)/\te σ2 H2 R)
  (hd:∀ys H',Same H1 H'->H' acc=some (.lst ys)->ys.length=zs.length->(∀i y,ys[i]?=some y->p i y H')->Z H')
  (mono:∀z σ H (A B:L2.St->Hp->Prop),(∀σ' H',A σ' H'->B σ' H')->g z σ H A->g z σ H B):jdG (Itl K a) n ρ g jb3 te acc Z H1:=by
 refine⟨fun i m xs H=>(Same H1 H/\H acc=some (.lst xs)/\xs.length=i/\∀j y,xs[j]?=some y->p j y H)/\i<=zs.length/\m=zs.length-i,⟨zs.length,⟨Same.new hacc _,jaf,rfl,fun j y h=>by simp at h⟩,xaG _,rfl⟩,?_⟩;rintro i m xs H ⟨⟨g1,g2,hl,hp⟩,hi,rfl⟩;have sq:=g1.seq hz;by_cases hlt:i<zs.length
 ·have ez:zs[i]?=some zs[i]:=xab hlt;refine .inr ⟨⟨zs,zs[i],sq,ez⟩,(fun y H4=>Same H H4/\p i y H4),fun _=>False,?_,fun _ z=>z.elim,?_⟩
  ·rintro y H4 ⟨s4,py⟩;have u:=SameT.upd (ys:=xs++[y]) (s4 _ _ g2);refine⟨s4 _ _ g2,jaH (by omega),zs.length-(i+1),by omega,⟨Same.keepN (g1.trans s4) hacc _,jaf,by rw[xaf,hl];rfl,?_⟩,hlt,rfl⟩;exact jlE hl (fun j z hz=>st _ _ _ _ (hp j z hz) (s4.t.trans u)) (st _ _ _ _ py u)
  ·rintro v0 x H' l0 ⟨rfl,hx⟩;have ex:x=zs[i]:=by
    have z:=hx zs sq;rw[ez] at z;exact (Option.some.inj z).symm
   subst ex;refine mono _ _ _ _ _ (fun σ' H'' h=>?_) (hs i _ v0 H' (fun y H4=>Same H' H4/\p i y H4) ez l0 g1 fun y H4 s4 py=>⟨s4,py⟩);refine⟨h.1,?_⟩;simp only[jb3,if_true];exact h.2
 ·have:i=zs.length:=by omega
  subst this;exact .inl ⟨⟨zs,sq,xae _⟩,hd xs H g1 g2 hl hp⟩
def jiR:Sp:=fun vs H Q _=>∃L:Addr,vs=[.ref L]/\Box H L/\∀(l:Addr) (H':Hp) (rs:List Addr) (ix:List Nat) (s t:Int),SameB L H H'->Box H' L->H' l=some (.lst (rs.map V.ref))->Plc H' rs (ix.map (plc s t))->Ix ix->1<=s->s<=6->1<=t->t<=6->Q (.ref l) H'
def Rg (H:Hp) (g:Addr) (rs:List Addr):Prop:=H g=some (.lst (rs.map V.ref))/\Plc H rs ((List.range 8).map (plc 1 1))
def hM0 (H:Hp) (L:Addr):L2.St->Hp->Prop:=fun σ H'=>∃(g:Addr) (rs:List Addr),σ=[some (.ref L),some (.ref g),none,none,none,none]/\Rg H' g rs/\Same H H'
def hM3 (H:Hp) (L:Addr):L2.St->Hp->Prop:=fun σ H'=>∃(b:Addr) (qs:List Addr) (ix:List Nat) (o1 o2:Option V),σ=[some (.ref L),o1,o2,some (.ref b),none,none]/\H' b=some (.lst (qs.map V.ref))/\Plc H' qs (ix.map (plc 1 1))/\Ix ix/\b≠L/\SameB L H H'/\Box H' L
def hM4 (H:Hp) (L:Addr):L2.St->Hp->Prop:=fun σ H'=>∃(b:Addr) (qs:List Addr) (ix:List Nat) (s t:Int) (o1 o2:Option V),σ=[some (.ref L),o1,o2,some (.ref b),some (.int s),some (.int t)]/\H' b=some (.lst (qs.map V.ref))/\Plc H' qs (ix.map (plc 1 1))/\Ix ix/\SameB L H H'/\Box H' L/\1<=s/\s<=6/\1<=t/\t<=6
theorem jj9 (T:Tx K mg t1 t2) (F:At K mg "_law_shape" ja8 ["left"] []) (db:jap P w K mg base CX0 1 "_law_next" ["left","base"] [] jeG):jap P w K mg base CX0 2 "_law_shape" ["left"] [] jiR:=by
  refine F.okW jdy (fun vs H Q E h=>?_) (fun f cdv A outer s H vs Q E hr h=>?_)
  . obtain⟨L,rfl,_⟩:=h
    rfl
  obtain⟨L,rfl,hB,q⟩:=h;have S:=jdy;refine⟨_,(jgp (hM0 H L) (jkP (jix (jam (jbv (jam ⟨jab⟩ (jam ⟨jab⟩ (jam ⟨jab⟩ jbb jaj) jaj) jaj)) (jam (jbv (jam ⟨jab⟩ (jam ⟨jab⟩ (jam ⟨jab⟩ jbb jaj) jaj) jaj)) (jam (jbv (jam ⟨jab⟩ (jam ⟨jab⟩ (jam ⟨jab⟩ jbb jaj) jaj) jaj)) (jam (jbv (jam ⟨jab⟩ (jam ⟨jab⟩ (jam ⟨jab⟩ jbb jaj) jaj) jaj)) (jam (jbv (jam ⟨jab⟩ (jam ⟨jab⟩ (jam ⟨jab⟩ jbb jaj) jaj) jaj)) (jam (jbv (jam ⟨jab⟩ (jam ⟨jab⟩ (jam ⟨jab⟩ jbb jaj) jaj) jaj)) (jam (jbv (jam ⟨jab⟩ (jam ⟨jab⟩ (jam ⟨jab⟩ jbb jaj) jaj) jaj)) (jam (jbv (jam ⟨jab⟩ (jam ⟨jab⟩ (jam ⟨jab⟩ jbb jaj) jaj) jaj)) jbb jbh) jbh) jbh) jbh) jbh) jbh) jbh) jbh)) (jan (i:=1) S.nd rfl (Or.inr rfl)))
    (jdn ⟨(jas (i:=2) S.nd rfl (Or.inr rfl) (jai db hr.m rfl jav (jaa (pv 0) (jaa jab jac jaj) jah)))⟩
    (jdn ⟨(jc7 (i:=3) rfl S.nd rfl rfl (N':=["k","ring","number"]) (ix:=[1,2]) ⟨rfl,rfl,by decide +kernel,by decide +kernel,by decide +kernel,(show ∀y:Str × NameKind,y∈_->y.2=NameKind.free->(jad ja8).names.lookup y.1=some .cell\/(jad ja8).names.lookup y.1=some .free from by decide +kernel),(.cons rfl (.inl rfl) rfl (.cons rfl (.inl rfl) rfl .nil))⟩ (jaG rfl T.m_range (jaa jab jac jaj)) (fun _ _ _ _=>jan (i:=0) (show (["k","ring","number"]:List Str).Nodup from by decide +kernel) rfl (Or.inl rfl)) (fun _ _ _ _=>(jfh (jat jcN (jao jcR (jao jmX (pv 2) (pv 0)) jab) jab (jaw _)))) (fun _ _ _ _=>(jar (jfj (K:=K) rfl) (pv 1) (pv 0))))⟩
    (jgp (hM3 H L) ⟨(jaQ (jat jhs (jaz jaB rfl T.m_len PySem.boot_len (jaa (pv 3) jac jah)) jab (jaw _))
    (jag (jas (i:=3) S.nd rfl (Or.inl rfl) (jaV (jaa (jar ix_list (pv 1) jab) (jaa (jar ix_list (pv 1) jab) (jaa (jar ix_list (pv 1) (jao jbu jab (jao jcR (pv 2) jab))) jac jaD) jaD) jaD))))
    jax)⟩
    (jgp (hM4 H L) (jkP (we_ix ix_list (jix (jam (jbv (jam ⟨jab⟩ (jam ⟨jab⟩ jbb jaj) jaj)) (jam (jbv (jam ⟨jab⟩ (jam ⟨jab⟩ jbb jaj) jaj)) (jam (jbv (jam ⟨jab⟩ (jam ⟨jab⟩ jbb jaj) jaj)) (jam (jbv (jam ⟨jab⟩ (jam ⟨jab⟩ jbb jaj) jaj)) (jam (jbv (jam ⟨jab⟩ (jam ⟨jab⟩ jbb jaj) jaj)) (jam (jbv (jam ⟨jab⟩ (jam ⟨jab⟩ jbb jaj) jaj)) jbb jbh) jbh) jbh) jbh) jbh) jbh)) (jai db hr.m rfl jav (jaa (pv 0) (jaa jab jac jaj) jah)) (fun _ _=>rfl)) (jeV rfl (jaK (jan (i:=4) S.nd rfl (Or.inr rfl)) (jaK (jan (i:=5) S.nd rfl (Or.inr rfl)) jcm))))
    ⟨(jag (jaq (jev rfl (N':=["p","q","r","s","t"]) (ix:=[4,5]) (xs0:=["p","q","r"]) ⟨rfl,rfl,by decide +kernel,by decide +kernel,by decide +kernel,(show ∀y:Str × NameKind,y∈_->y.2=NameKind.free->(jad ja8).names.lookup y.1=some .cell\/(jad ja8).names.lookup y.1=some .free from by decide +kernel),(.cons rfl (.inl rfl) rfl (.cons rfl (.inl rfl) rfl .nil))⟩ (jbd (pv 3)) (fun _ _ _ _=>jgq (K:=K) (n:=3) rfl rfl (jaK (jan (i:=0) (show (["p","q","r","s","t"]:List Str).Nodup from by decide +kernel) rfl (Or.inl rfl)) (jaK (jan (i:=1) (show (["p","q","r","s","t"]:List Str).Nodup from by decide +kernel) rfl (Or.inl rfl)) (jaK (jan (i:=2) (show (["p","q","r","s","t"]:List Str).Nodup from by decide +kernel) rfl (Or.inl rfl)) jcm)))) (fun _ _ _ _=>ja4) (fun _ _ _ _=>(jbG (jaa (jao jaA (pv 0) (pv 3)) (jaa (jao jaA (pv 1) (pv 4)) (jaa (jao jaA (pv 3) (pv 4)) jac jaX) jaX) jaX))))))⟩))))),?_⟩
  obtain⟨n,hL⟩:=hB;walk_at "rf";refine⟨by decide,fun q0 h_q0=>?_,?_⟩
  . refine ja6 h_q0 fun J0 s_q0 e_q0=>?_
    refine⟨by decide,fun q1 h_q1=>?_⟩;refine ja6 h_q1 fun J1 s_q1 e_q1=>?_;refine⟨by decide,fun q2 h_q2=>?_⟩;refine ja6 h_q2 fun J2 s_q2 e_q2=>?_;refine⟨by decide,fun q3 h_q3=>?_⟩;refine ja6 h_q3 fun J3 s_q3 e_q3=>?_;refine⟨by decide,fun q4 h_q4=>?_⟩;refine ja6 h_q4 fun J4 s_q4 e_q4=>?_;refine⟨by decide,fun q5 h_q5=>?_⟩;refine ja6 h_q5 fun J5 s_q5 e_q5=>?_;refine⟨by decide,fun q6 h_q6=>?_⟩;refine ja6 h_q6 fun J6 s_q6 e_q6=>?_;refine⟨by decide,fun q7 h_q7=>?_⟩;refine ja6 h_q7 fun J7 s_q7 e_q7=>?_;refine⟨by decide,fun g h_g=>?_⟩;refine ja6 h_g fun J8 s_g e_g=>?_;have er:(List.range 8).map (plc 1 1)=[plc 1 1 0,plc 1 1 1,plc 1 1 2,plc 1 1 3,plc 1 1 4,plc 1 1 5,plc 1 1 6,plc 1 1 7]:=rfl;refine⟨g,[q0,q1,q2,q3,q4,q5,q6,q7],rfl,⟨e_g,?_⟩,(s_q0.trans (s_q1.trans (s_q2.trans (s_q3.trans (s_q4.trans (s_q5.trans (s_q6.trans (s_q7.trans s_g))))))))⟩;rw[er];exact .cons (s_g _ _ (s_q7 _ _ (s_q6 _ _ (s_q5 _ _ (s_q4 _ _ (s_q3 _ _ (s_q2 _ _ (s_q1 _ _ e_q0)))))))) (.cons (s_g _ _ (s_q7 _ _ (s_q6 _ _ (s_q5 _ _ (s_q4 _ _ (s_q3 _ _ (s_q2 _ _ e_q1))))))) (.cons (s_g _ _ (s_q7 _ _ (s_q6 _ _ (s_q5 _ _ (s_q4 _ _ (s_q3 _ _ e_q2)))))) (.cons (s_g _ _ (s_q7 _ _ (s_q6 _ _ (s_q5 _ _ (s_q4 _ _ e_q3))))) (.cons (s_g _ _ (s_q7 _ _ (s_q6 _ _ (s_q5 _ _ e_q4)))) (.cons (s_g _ _ (s_q7 _ _ (s_q6 _ _ e_q5))) (.cons (s_g _ _ (s_q7 _ _ e_q6)) (.cons (s_g _ _ e_q7) (.nil))))))))
  rintro σ1 H1 ⟨g,rs,rfl,⟨hg,hp⟩,s1⟩;have l8:rs.length=8:=by rw[hp.len];rfl
  have hL1:=s1 _ _ hL;have ng:g≠L:=fun e=>by
    rw[e,hL1] at hg;have z:([V.int n]:List V).length=(rs.map V.ref).length:=by injection hg with hg;injection hg with hg;rw[hg]
    rw[xaa,l8] at z;simp at z
  walk_at "rf";refine⟨L,256,n,rfl,hL1,by decide,.o (by decide) (by decide),?_⟩;have sB1:SameB L H1 (upd H1 L (.lst [.int (n / 256)])):=(SameB.refl L H1).box;have hL2:(upd H1 L (.lst [.int (n / 256)])) L=some (.lst [.int (n / 256)]):=jaf;have sT1:SameT H1 (upd H1 L (.lst [.int (n / 256)])):=SameB.t sB1 ⟨n,hL1⟩;generalize upd H1 L (.lst [.int (n / 256)])=H2 at sB1 hL2 sT1 |-
  have hg2:=sB1 g _ ng hg;have hp2:=hp.keep sT1;have kg2:SqL K H2 g (rs.map V.ref):=SqL.of hg2;have nn0:=xaF n (show (256:Int)≠0 by decide);generalize n % 256=nn at nn0;have ga:∀{i:Nat},i<8->(rs.map V.ref)[i]?=some (.ref (ad rs i)):=fun {i} hi=>by
    rw[xad,(hp.get (jk3 hi)).1];rfl
  walk_at "rf";refine⟨by decide,by decide,fun acc hacc=>?_⟩;have nacc:acc≠L:=Ne.symm (jal hL2 hacc);refine jiw (n:=8) (fun i=>.ref (ad rs i)) (fun i=>decide (nn / 2^((0:Int)+(i:Int)).toNat % 2=1)) (by decide) hacc ?_ ?_ ?_
  . intro i H3 R hi s3 hR
    walk_at "rf";exact⟨by omega,by decide,hR _ (Same.refl _)⟩
  . intro i H3 R hi ci s3 hR
    walk_at "rf";rw[xbb];exact ixL (s3.seq kg2) (jaF (ga hi)) (hR _ (Same.refl _))
  intro H3 s3 e3;have kg3:=s3.seq kg2;have hp3:=hp2.keep s3.t;have hL3:=s3 _ _ hL2;have sB3:SameB L H H3:=(s1.b.trans sB1).trans s3.b;generalize hc:(fun i:Nat=>decide (nn / 2^((0:Int)+(i:Int)).toNat % 2=1))=c at e3;have eq:((List.range 8).filter c).map (fun i=>V.ref (ad rs i))=(((List.range 8).filter c).map (ad rs)).map V.ref:=by
    rw[xaW];rfl
  rw[eq] at e3;have m8:∀i∈(List.range 8).filter c,i<8:=fun i hi=>xaN.mp (xa8.mp hi).1;have le8:((List.range 8).filter c).length<=8:=by
    have:=xbh c (List.range 8);rw[xa2] at this;exact this
  have pw:((List.range 8).filter c).Pairwise (· < ·):=List.Pairwise.filter c List.pairwise_lt_range;generalize (List.range 8).filter c=ix at e3 m8 le8 pw;refine⟨⟨_,.inl (SqL.of e3),?_⟩,?_⟩
  . rw[xaa,xaa]
    by_cases c3:(ix.length:Int)<3
    . rw[if_pos c3]
      refine ixL kg3 (jaF (j:=0) (ga (by decide))) (ixL kg3 (jaF (j:=3) (ga (by decide))) ?_);have k0:=xaF nn (show (3:Int)≠0 by decide);have k1:=xaB nn (show (0:Int)<3 by decide);have ek:(5:Int)+nn % 3=((5+(nn % 3).toNat:Nat):Int):=by omega
      rw[ek];refine⟨by decide,ixL kg3 (jaF (ga (by omega))) ⟨by decide,fun b hb=>?_⟩⟩;have s4:=Same.new hb (.lst [.ref (ad rs 0),.ref (ad rs 3),.ref (ad rs (5+(nn % 3).toNat))]);have hx:∀i∈[0,3,5+(nn % 3).toNat],i<8:=fun i hi=>by
        simp only[xac,xao,or_false] at hi;omega
      refine⟨b,[0,3,5+(nn % 3).toNat].map (ad rs),[0,3,5+(nn % 3).toNat],_,_,rfl,jaf,(hp3.sub _ hx).keep s4.t,⟨by simp,by simp,?_,hx⟩,Ne.symm (jal hL3 hb),sB3.trans s4.b,⟨_,s4 _ _ hL3⟩⟩;simp only[List.pairwise_cons,xac,xao,or_false,forall_eq_or_imp,forall_eq,List.Pairwise.nil,and_true,false_implies,implies_true];omega
    . rw[if_neg c3]
      exact⟨acc,_,ix,_,_,rfl,e3,hp3.sub _ m8,⟨by omega,le8,pw,m8⟩,nacc,sB3,⟨_,hL3⟩⟩
  clear e3 m8 le8 pw eq hc sB3 hL3 hp3 kg3 s3 nacc hacc;rintro σ3 H3 ⟨b,qs,ix,o1,o2,rfl,hb,hq,hix,nb,s3,m,hm⟩;walk_at "rf";refine⟨by decide,fun q0 h_q0=>?_,?_⟩
  . refine ja6 h_q0 fun J0 s_q0 e_q0=>?_
    refine⟨by decide,fun q1 h_q1=>?_⟩;refine ja6 h_q1 fun J1 s_q1 e_q1=>?_;refine⟨by decide,fun q2 h_q2=>?_⟩;refine ja6 h_q2 fun J2 s_q2 e_q2=>?_;refine⟨by decide,fun q3 h_q3=>?_⟩;refine ja6 h_q3 fun J3 s_q3 e_q3=>?_;refine⟨by decide,fun q4 h_q4=>?_⟩;refine ja6 h_q4 fun J4 s_q4 e_q4=>?_;refine⟨by decide,fun q5 h_q5=>?_⟩;refine ja6 h_q5 fun J5 s_q5 e_q5=>?_;refine⟨by decide,fun g2 h_g2=>?_⟩;refine ja6 h_g2 fun J6 s_g2 e_g2=>?_;have s36:=(s_q0.trans (s_q1.trans (s_q2.trans (s_q3.trans (s_q4.trans (s_q5.trans s_g2))))));have hm6:=s36 _ _ hm;have ng2:g2≠L:=fun e=>by
      rw[e,hm6] at e_g2;cases e_g2
    refine⟨L,6,m,rfl,hm6,by decide,.o (by decide) (by decide),?_⟩;have sB6:SameB L J6 (upd J6 L (.lst [.int (m / 6)])):=(SameB.refl L J6).box;have hL6:(upd J6 L (.lst [.int (m / 6)])) L=some (.lst [.int (m / 6)]):=jaf;have sT6:SameT J6 (upd J6 L (.lst [.int (m / 6)])):=SameB.t sB6 ⟨m,hm6⟩;generalize upd J6 L (.lst [.int (m / 6)])=J7 at sB6 hL6 sT6 |-
    have k6:SqL K J7 g2 [.ref q0,.ref q1,.ref q2,.ref q3,.ref q4,.ref q5]:=SqL.of (sB6 g2 _ ng2 e_g2);have hb7:=sB6 b _ nb (s36 _ _ hb);have hq7:=(hq.keep s36.t).keep sT6;have s37:=(s3.trans s36.b).trans sB6;have k_0:SqT K J7 q0 [.int 1,.int 1]:=SqT.of (sT6 _ _ (s_g2 _ _ (s_q5 _ _ (s_q4 _ _ (s_q3 _ _ (s_q2 _ _ (s_q1 _ _ e_q0)))))));have k_1:SqT K J7 q1 [.int 1,.int 1]:=SqT.of (sT6 _ _ (s_g2 _ _ (s_q5 _ _ (s_q4 _ _ (s_q3 _ _ (s_q2 _ _ e_q1))))));have k_2:SqT K J7 q2 [.int 2,.int 3]:=SqT.of (sT6 _ _ (s_g2 _ _ (s_q5 _ _ (s_q4 _ _ (s_q3 _ _ e_q2)))));have k_3:SqT K J7 q3 [.int 3,.int 4]:=SqT.of (sT6 _ _ (s_g2 _ _ (s_q5 _ _ (s_q4 _ _ e_q3))));have k_4:SqT K J7 q4 [.int 1,.int 5]:=SqT.of (sT6 _ _ (s_g2 _ _ (s_q5 _ _ e_q4)));have k_5:SqT K J7 q5 [.int 6,.int 1]:=SqT.of (sT6 _ _ (s_g2 _ _ e_q5));have e6:m % 6=0\/m % 6=1\/m % 6=2\/m % 6=3\/m % 6=4\/m % 6=5:=by omega
    rcases e6 with e | e | e | e | e | e<;>rw[e]
    . refine ixL k6 rfl ⟨q0,rfl,_,k_0,?_⟩
      walk_at "rf";exact⟨rfl,b,qs,ix,1,1,_,_,rfl,hb7,hq7,hix,s37,⟨_,hL6⟩,by decide,by decide,by decide,by decide⟩
    . refine ixL k6 rfl ⟨q1,rfl,_,k_1,?_⟩
      walk_at "rf";exact⟨rfl,b,qs,ix,1,1,_,_,rfl,hb7,hq7,hix,s37,⟨_,hL6⟩,by decide,by decide,by decide,by decide⟩
    . refine ixL k6 rfl ⟨q2,rfl,_,k_2,?_⟩
      walk_at "rf";exact⟨rfl,b,qs,ix,2,3,_,_,rfl,hb7,hq7,hix,s37,⟨_,hL6⟩,by decide,by decide,by decide,by decide⟩
    . refine ixL k6 rfl ⟨q3,rfl,_,k_3,?_⟩
      walk_at "rf";exact⟨rfl,b,qs,ix,3,4,_,_,rfl,hb7,hq7,hix,s37,⟨_,hL6⟩,by decide,by decide,by decide,by decide⟩
    . refine ixL k6 rfl ⟨q4,rfl,_,k_4,?_⟩
      walk_at "rf";exact⟨rfl,b,qs,ix,1,5,_,_,rfl,hb7,hq7,hix,s37,⟨_,hL6⟩,by decide,by decide,by decide,by decide⟩
    . refine ixL k6 rfl ⟨q5,rfl,_,k_5,?_⟩
      walk_at "rf";exact⟨rfl,b,qs,ix,6,1,_,_,rfl,hb7,hq7,hix,s37,⟨_,hL6⟩,by decide,by decide,by decide,by decide⟩
  clear hm nb hb hq hix s3;rintro σ4 H4 ⟨b,qs,ix,s,t,o1,o2,rfl,hb,hq,hix,s4,b4,s1',s6',t1',t6'⟩;have kb:SqL K H4 b (qs.map V.ref):=SqL.of hb;have lq:qs.length=ix.length:=by rw[hq.len,xaa]
  have lb:(qs.map V.ref).length=ix.length:=by rw[xaa,lq]
  walk_at "rf";refine⟨⟨_,kb⟩,fun acc hacc=>?_⟩;refine jnr (zs:=qs.map V.ref) (fun i y H'=>∃(r:Addr) (k:Nat),y=.ref r/\ix[i]?=some k/\H' r=some (.tup [.int (plc s t k).x,.int (plc s t k).y,.int (plc s t k).z])) (fun i y J J' ⟨r,k,h1,h2,h3⟩ st=>⟨r,k,h1,h2,st _ _ h3⟩) (by have:=hix.2.1;omega) hacc kb ?_ ?_ ?_
  . intro i z v0 H5 R hi l0 s5 hR
    have hi8:i<ix.length:=by have:=(xaj.mp hi).1;omega
    have ek:ix[i]?=some ix[i]:=xab hi8;generalize ix[i]=k at ek;have ev:(ix.map (plc 1 1))[i]?=some (plc 1 1 k):=by rw[xad,ek];rfl
    obtain⟨g1,g2⟩:=hq.get ev;rw[xad,g1] at hi;cases hi;have g5:SqT K H5 (ad qs i) [.int (jeH k*1),.int (jeI k*1),.int (1*1)]:=SqT.of (s5 _ _ g2);obtain⟨⟨p0',p3⟩,q0',q3⟩:=jiQ k
    match v0,l0 with
    | [v1, v2, v3], _ =>
      walk_at "rf";refine⟨_,g5,rfl,_,_,rfl,_,_,rfl,_,_,rfl,rfl,⟨[_,_,_],rfl,rfl⟩,_,rfl,.o (by omega) (by omega),.o (by omega) (by omega),_,rfl,.o (by omega) (by omega),.o (by omega) (by omega),.o (by omega) (by omega),.o (by omega) (by omega),by decide,fun p hp=>hR _ _ (Same.new hp _) ⟨p,k,rfl,ek,?_⟩⟩;rw[Int.mul_one,Int.mul_one];exact jaf
  . intro ys H5 s5 e5 l5 p5
    obtain⟨rs',rfl,hp'⟩:=jk4 (H:=H5) ys (ix.map (plc s t)) (by rw[l5,lb,xaa]) fun i y v h1 h2=>by
      obtain⟨r,k,rfl,hk,hr⟩:=p5 i y h1;rw[xad,hk] at h2;cases h2;exact⟨r,rfl,hr⟩
    exact q acc H5 rs' ix s t (s4.trans s5.b) (let ⟨m,hm⟩:=b4;⟨m,s5 _ _ hm⟩) e5 hp' hix s1' s6' t1' t6'
  . intro z σ J A B hAB h
    obtain⟨a,xs,e1,e2,e3,v1,r1,e4,v2,r2,e5,v3,r3,e6,e7,h8⟩:=h;exact⟨a,xs,e1,e2,e3,v1,r1,e4,v2,r2,e5,v3,r3,e6,e7,hAB _ _ h8⟩
def rX (S:Sht) (v:Tri):Int:=S.s.x*v.z+S.w*(v.x*S.c.x+v.y*S.d.x)
def rY (S:Sht) (v:Tri):Int:=S.s.y*v.z+S.w*(v.x*S.c.y+v.y*S.d.y)
def rZ (S:Sht) (v:Tri):Int:=S.s.z*v.z+S.w*(v.x*S.c.z+v.y*S.d.z)
def rW (S:Sht) (v:Tri):Int:=S.w*v.z
def rG (S:Sht) (v:Tri):Int:=gl [rX S v,rY S v,rZ S v,rW S v]
def spt (S:Sht) (v:Tri):Pt:=⟨rX S v / rG S v,rY S v / rG S v,rZ S v / rG S v,rW S v / rG S v⟩
def Tri.pl (v:Tri):Prop:=0<=v.x/\v.x<=100/\0<=v.y/\v.y<=100/\1<=v.z/\v.z<=100
def jk5:Sp:=fun vs H Q _=>∃(t e:Addr) (S:Sht) (v:Tri),vs=[.ref t,.ref e]/\IsSh H t S/\H e=some (.tup [.int v.x,.int v.y,.int v.z])/\v.pl/\∀(g:Addr) (H':Hp),Same H H'->Is4 H' g (spt S v)->Q (.ref g) H'
theorem bd7 {i:Int} (h1:-128<i) (h2:i<128):Bd 7 i:=by
 unfold Bd;have e:(2^7:Nat)=128:=by decide
 rw[e];omega
theorem jfd {w p q r:Int} (ha:Bd 42 a) (hc:Bd 42 c) (hd:Bd 42 d) (hw:Bd 7 w) (hp:Bd 7 p) (hq:Bd 7 q) (hr:Bd 7 r):Bd 60 (a*r+w*(p*c+q*d)) :=
 Bd.mono (n:=58) (Bd.add (Bd.mono (n:=49) (Bd.mul (n:=42) (m:=7) ha hr)) (Bd.mul (n:=7) (m:=50) hw (Bd.add (Bd.mul (n:=7) (m:=42) hp hc) (Bd.mul (n:=7) (m:=42) hq hd))))
theorem Bd.div {n:Nat} {i:Int} (h:Bd n i):Bd n (i / g):=xaU (xa5 i g) h
theorem jl4 (T:Tx K mg t1 t2) (F:At K mg "_law_spot" jdf ["sheet","place"] []) (dW:jap P w K mg base CX0 2 "_law_lowest" ["numbers"] [] jk2):jap P w K mg base CX0 3 "_law_spot" ["sheet","place"] [] jk5:=by
 refine F.ok jd0 (fun vs H Q E h=>?_) (fun f cdv A outer s H vs Q E hr h=>?_)
 ·obtain⟨t,e,Z,v,rfl,_⟩:=h;rfl
 obtain⟨t,e,Z,v,rfl,⟨a,c,d,h0,ha,hc,hd,w1,w2,nz⟩,he,pl,q⟩:=h;have S:=jd0;refine⟨_,(jae (jgH (pv 0) (jeV rfl (jaK (jan (i:=2) S.nd rfl (Or.inl rfl)) (jaK (jan (i:=3) S.nd rfl (Or.inl rfl)) (jaK (jan (i:=4) S.nd rfl (Or.inl rfl)) (jaK (jan (i:=5) S.nd rfl (Or.inl rfl)) jcm))))))
  (jae (jgH (pv 1) (jeV rfl (jaK (jan (i:=6) S.nd rfl (Or.inl rfl)) (jaK (jan (i:=7) S.nd rfl (Or.inl rfl)) (jaK (jan (i:=8) S.nd rfl (Or.inl rfl)) jcm)))))
  (jae (jas (i:=9) S.nd rfl (Or.inl rfl) (jaV jac))
  (jae (ja1 PassesOwn.never rfl (jaG rfl T.m_range (jaa jab jac jaj)) (jan (i:=10) S.nd rfl (Or.inl rfl))
  (jae (jas (i:=11) S.nd rfl (Or.inl rfl) (jao jbu (jao jaA (pv 6) (jar jau (pv 4) (pv 10))) (jao jaA (pv 7) (jar jau (pv 5) (pv 10)))))
  (jag (jbi (jb2 PySem.F.plainAttrs_list PySem.F.slot_list_append PySem.F.type_list_append jbk (pv 9) (jaa (jao jbu (jao jaA (jar jau (pv 2) (pv 10)) (pv 8)) (jao jaA (pv 3) (pv 11))) jac jaX))))))
  (jag (jaq (jai dW hr.m rfl jav (jaa (jao jcS (pv 9) (jaV (jaa (jao jaA (pv 3) (pv 8)) jac jaX))) jac jaX)))))))),?_⟩
 obtain⟨p0',p1',q0',q1',r0',r1'⟩:=pl;have bp:=bd7 (i:=v.x) (by omega) (by omega);have bq:=bd7 (i:=v.y) (by omega) (by omega);have br:=bd7 (i:=v.z) (by omega) (by omega);have bw:=bd7 (i:=Z.w) (by omega) (by omega);have bX:Bd 60 (rX Z v):=jfd ha.2.1 hc.2.1 hd.2.1 bw bp bq br;have bY:Bd 60 (rY Z v):=jfd ha.2.2.1 hc.2.2.1 hd.2.2.1 bw bp bq br;have bZ:Bd 60 (rZ Z v):=jfd ha.2.2.2 hc.2.2.2 hd.2.2.2 bw bp bq br;have bW:Bd 60 (rW Z v):=Bd.mono (n:=14) (Bd.mul (n:=7) (m:=7) bw br);have W1:0<rW Z v:=xaP (by omega) (by omega);have k0:SqT K H t [.ref a,.int Z.w,.ref c,.ref d]:=SqT.of h0;have ke:SqT K H e [.int v.x,.int v.y,.int v.z]:=SqT.of he;walk_at "rf";refine⟨_,k0,?_⟩;walk_at "rf";refine⟨rfl,_,ke,?_⟩;walk_at "rf";refine⟨rfl,by decide,fun b h_b=>⟨by decide,by decide,?_⟩⟩;refine ja6 h_b fun H1 s1 e1=>?_;have fp:=bp.fit;have fq:=bq.fit;have fr:=br.fit;have fw:=bw.fit;have fa0:=ha.2.1.fit;have fa1:=ha.2.2.1.fit;have fa2:=ha.2.2.2.fit;have fc0:=hc.2.1.fit;have fc1:=hc.2.2.1.fit;have fc2:=hc.2.2.2.fit;have fd0:=hd.2.1.fit;have fd1:=hd.2.2.1.fit;have fd2:=hd.2.2.2.fit;have bf:∀{x y:Int},Bd 42 x->Bd 42 y->Fit (v.x*x+v.y*y):=fun hx hy=>Bd.fit (n:=50) (Bd.add (Bd.mul (n:=7) (m:=42) bp hx) (Bd.mul (n:=7) (m:=42) bq hy));have g0:=bf hc.2.1 hd.2.1;have g1:=bf hc.2.2.1 hd.2.2.1;have g2:=bf hc.2.2.2 hd.2.2.2;refine jaL (lo:=0) (n:=3) (fun i σ H4=>Same H H4/\∃o10 o11:Option V,σ=[some (.ref t),some (.ref e),some (.ref a),some (.int Z.w),some (.ref c),some (.ref d),some (.int v.x),some (.int v.y),some (.int v.z),some (.ref b),o10,o11]/\H4 b=some (.lst (([rX Z v,rY Z v,rZ Z v].take i).map V.int))) ⟨s1,none,none,rfl,e1⟩ ?_ ?_
 ·rintro i σ H4 hi ⟨s4,o10,o11,rfl,hb4⟩;have ka:SqT K H4 a [.int Z.s.x,.int Z.s.y,.int Z.s.z]:=SqT.of (s4 _ _ ha.1);have kc:SqT K H4 c [.int Z.c.x,.int Z.c.y,.int Z.c.z]:=SqT.of (s4 _ _ hc.1);have kd:SqT K H4 d [.int Z.d.x,.int Z.d.y,.int Z.d.z]:=SqT.of (s4 _ _ hd.1);obtain rfl | rfl | rfl:=lt3 hi
  all_goals
   walk_at "rf";walk_at "gf";refine⟨.inl ⟨_,SqL.of hb4⟩,?_⟩;walk_at "gf";exact⟨b,_,_,rfl,rfl,hb4,jaH (by simp),Same.keep s4 h_b,jaf⟩
 ·rintro σ H4 ⟨s4,o10,o11,rfl,hb4⟩;walk_at "rf";refine⟨fw,fr,by decide,fun l1 h1=>?_⟩;refine ja6 h1 fun H5 s5 e5=>?_;refine⟨b,l1,_,_,rfl,rfl,s5 _ _ hb4,e5,by simp;decide,fun l2 h2=>?_⟩;have gp:0<rG Z v:=jf6 (ns:=[rX Z v,rY Z v,rZ Z v,rW Z v]) (n:=rW Z v) (by simp) (by omega);have gf:Fit (rG Z v):=(jfr (ns:=[rX Z v,rY Z v,rZ Z v,rW Z v]) fun n hn=>by
   simp only[xac,xao,or_false] at hn;rcases hn with rfl | rfl | rfl | rfl
   ·exact Bd.mono bX
   ·exact Bd.mono bY
   ·exact Bd.mono bZ
   ·exact Bd.mono bW).bd.fit
  have s6:=Same.new h2 (.lst ([rX Z v,rY Z v,rZ Z v,rW Z v].map V.int));refine⟨l2,[rX Z v,rY Z v,rZ Z v,rW Z v],rfl,jaf,by simp,gp,gf,fun g H7 s7 e7=>?_⟩;exact q g H7 (s4.trans (s5.trans (s6.trans s7))) ⟨e7,Bd.mono (Bd.div bX),Bd.mono (Bd.div bY),Bd.mono (Bd.div bZ),Bd.mono (Bd.div bW)⟩
theorem jg5 (p:Pt):sfp p p=false:=by
 unfold sfp sf;rw[if_neg (fun n=>n rfl),if_neg (fun n=>n rfl),if_neg (fun n=>n rfl)]
theorem jka {l:List Addr} {n:Nat} (hl:l.length=n) (n1:1<=n):(l.take 1++(l.drop 1).reverse).map V.ref=[V.ref (ad l 0)]++(List.range (n-1)).map (fun i=>V.ref (ad l (n-1-i))):=by
  match l,hl with
  | [],hl=>exact absurd hl (by simp;omega)
  | x :: r, hl =>
    have hr:r.length=n-1:=by simp at hl;omega
    show V.ref x::(r.reverse.map V.ref)=V.ref x::((List.range (n-1)).map (fun i=>V.ref (ad (x::r) (n-1-i))))
    congr 1
    refine xbw fun i=>?_;rw[xad,xad];by_cases hi:i<n-1
    . rw[xbi (by omega),xbD hi,hr]
      have e:n-1-i=n-1-1-i+1:=by omega
      show _=some (V.ref (ad (x::r) (n-1-i)));rw[e,xab (by omega)];show _=some (V.ref ((x::r).getD _ 0));rw[xag,xbs,xab (by omega)];rfl
    . rw[xaK (by rw[xaV]; omega),xaK (by rw[xa2]; omega)]
      rfl
def gM1 (H:Hp) (l:Addr) (ps:List Pt):L2.St->Hp->Prop:=fun σ H'=>∃o2:Option V,σ=[some (.ref l),some (.int (fF ps:Nat)),o2,none]/\H'=H
theorem jiS (T:Tx K mg t1 t2) (F:At K mg "_law_first" jcB ["one","other"] []):jap P w K mg base CX0 1 "_law_first" ["one","other"] [] jfu:=by
  refine F.ok jdz (fun vs H Q E h=>?_) (fun f cdv A outer s H vs Q E hr h=>?_)
  . obtain⟨r,e,p,o,rfl,_⟩:=h
    rfl
  obtain⟨r,e,p,o,rfl,h1,h2,q⟩:=h;have S:=jdz;refine⟨_,(jae (ja1 PassesOwn.never rfl (jaG rfl T.m_range (jaa jab jac jaj)) (jan (i:=2) S.nd rfl (Or.inl rfl))
    (jag (jaQ (jat jcn (jao jaA (jar jau (pv 0) (pv 2)) (jar jau (pv 1) jab)) (jao jaA (jar jau (pv 1) (pv 2)) (jar jau (pv 0) jab)) (jaw _))
    (jag (jaq (jb8 jhs (jao jaA (jar jau (pv 0) (pv 2)) (jar jau (pv 1) jab)) (jao jaA (jar jau (pv 1) (pv 2)) (jar jau (pv 0) jab)) (jaw _))))
    jax)))
    (jag (jaq jcM))),?_⟩
  have k_h1:=h1.sq (K:=K);have k_h2:=h2.sq (K:=K);have f0:=h1.2.fx;have f1:=h1.2.fy;have f2:=h1.2.fz;have f3:=h1.2.fw;have g0:=h2.2.fx;have g1:=h2.2.fy;have g2:=h2.2.fz;have g3:=h2.2.fw;unfold sfp at q;walk_at "rd";refine⟨3,rfl,by decide,by decide,jaL (lo:=0) (n:=3) (fun i σ H2=>H2=H/\∃(o0:Option V),σ=[some (.ref r),some (.ref e),o0]/\(1<=i->p.x*o.w=o.x*p.w)/\(2<=i->p.y*o.w=o.y*p.w)/\(3<=i->p.z*o.w=o.z*p.w)) ⟨rfl,none,rfl,by simp,by simp,by simp⟩ ?_ ?_⟩
  . rintro i σ H2 hi ⟨rfl,o0,rfl,e0,e1,e2⟩
    match i,hi with
    | 0, _ =>
      walk_at "rd";walk_at "go";refine jcl (fun c=>⟨fun _=>c,fun h=>absurd h (by decide),fun h=>absurd h (by decide)⟩) fun c=>?_;rw[sf,if_pos c] at q;walk_at "go";exact q
    | 1, _ =>
      have d0:=e0 (by decide);walk_at "rd";walk_at "go";refine jcl (fun c=>⟨fun _=>d0,fun _=>c,fun h=>absurd h (by decide)⟩) fun c=>?_;rw[sf,if_neg (fun n=>n d0),if_pos c] at q;walk_at "go";exact q
    | 2, _ =>
      have d0:=e0 (by decide);have d1:=e1 (by decide);walk_at "rd";walk_at "go";refine jcl (fun c=>⟨fun _=>d0,fun _=>d1,fun _=>c⟩) fun c=>?_;rw[sf,if_neg (fun n=>n d0),if_neg (fun n=>n d1),if_pos c] at q;walk_at "go";exact q
  . rintro σ H2 ⟨rfl,o0,rfl,e0,e1,e2⟩
    rw[sf,if_neg (fun n=>n (e0 (by decide))),if_neg (fun n=>n (e1 (by decide))),if_neg (fun n=>n (e2 (by decide)))] at q;walk_at "rd";exact q
theorem jl5 (T:Tx K mg t1 t2) (F:At K mg "_law_form" jbN ["spots"] []) (dD:jap P w K mg base CX0 1 "_law_first" ["one","other"] [] jfu):jap P w K mg base CX0 2 "_law_form" ["spots"] [] jee:=by
  refine F.ok jd1 (fun vs H Q E h=>?_) (fun f cdv A outer s H vs Q E hr h=>?_)
  . obtain⟨l,rs,ps,rfl,_⟩:=h
    rfl
  obtain⟨l,rs,ps,rfl,hc,n3,n8,q⟩:=h;have S:=jd1;refine⟨_,(jae (jas (i:=1) S.nd rfl (Or.inl rfl) jab)
    (jbA (gM1 H l ps) (ja1 PassesOwn.never rfl (jaG rfl T.m_range (jaa (jaz jaB rfl T.m_len PySem.boot_len (jaa (pv 0) jac jah)) jac jaJ)) (jan (i:=2) S.nd rfl (Or.inl rfl))
    (jag (jaQ (jbR (jai dD hr.m rfl jav (jaa (jar ix_list (pv 0) (pv 2)) (jaa (jar ix_list (pv 0) (pv 1)) jac jaD) jaD)))
    (jag (jas (i:=1) S.nd rfl (Or.inl rfl) (pv 2)))
    jax)))
    (jbA (fM2 H l ps rs) (jas (i:=3) S.nd rfl (Or.inr rfl) (jao jcS (ja5 jbz (pv 0) (ja7 (pv 1)) jbe) (ja5 jbz (pv 0) jbe (ja7 (pv 1)))))
    (jbA (fM3 H ps rs) (jaQ (jbR (jai dD hr.m rfl jav (jaa (jar ix_list (pv 3) (jao jbF (jaz jaB rfl T.m_len PySem.boot_len (jaa (pv 3) jac jah)) jab)) (jaa (jar ix_list (pv 3) jab) jac jaD) jaD)))
    (jag (jas (i:=3) S.nd rfl (Or.inr rfl) (jao jcS (jaV (jaa (jar ix_list (pv 3) jab) jac jaD)) (jaU rfl (N':=["k","row"]) (ix:=[3]) ⟨rfl,rfl,by decide +kernel,by decide +kernel,by decide +kernel,(show ∀y:Str × NameKind,y∈_->y.2=NameKind.free->(jad jbN).names.lookup y.1=some .cell\/(jad jbN).names.lookup y.1=some .free from by decide +kernel),(.cons rfl (.inl rfl) rfl .nil)⟩ (jaG rfl T.m_range (jaa (jao jbF (jaz jaB rfl T.m_len PySem.boot_len (jaa (pv 3) jac jah)) jab) jac jaX)) (fun _ _ _ _=>jan (i:=0) (show (["k","row"]:List Str).Nodup from by decide +kernel) rfl (Or.inl rfl)) (fun _ _ _ _=>ja4) (fun _ _ _ _=>(jar (jfj (K:=K) rfl) (pv 1) (jao jbF (jao jbF (jaz (jfn (K:=K) rfl) rfl T.m_len PySem.boot_len (jaa (pv 1) jac jah)) jab) (pv 0))))))))
    jax)
    (jag (jaq (jaE jbg rfl T.m_tuple boot_tuple (jaa (pv 3) jac jah)))))))),?_⟩
  have ln:=hc.2.len;have lm:(rs.map V.ref).length=ps.length:=by rw[xaa,ln]
  have kl:SqL K H l (rs.map V.ref):=SqL.of hc.1;walk_at "rf";refine⟨⟨_,.inl kl,by omega,by omega,?_⟩,?_⟩
  . refine jaL (lo:=0) (n:=_) (fun i σ H2=>H2=H /\ ∃o2:Option V,σ=[some (.ref l),some (.int (je4 ps (i-1):Nat)),o2,none]) ⟨rfl,none,rfl⟩ ?_ ?_
    . rintro i σ H2 hi ⟨rfl,o2,rfl⟩
      have hi2:i<ps.length:=by omega
      have al:=jdh ps (i-1);obtain⟨g1,g2⟩:=hc.2.get hi2;obtain⟨g3,g4⟩:=hc.2.get (i:=je4 ps (i-1)) (by omega);have e1:atI (rs.map V.ref) (0+(i:Int))=some (.ref (ad rs i)):=by
        rw[xbb];exact jaF g1
      walk_at "rf";refine ixL kl e1 ?_;refine ixL kl (jaF g3) ?_;refine⟨_,_,_,_,rfl,g2,g4,?_⟩;walk_at "rf";have ea:je4 ps i=if sfp (pt ps i) (pt ps (je4 ps (i-1)))=true then i else je4 ps (i-1):=by
        cases i with
        | zero =>
          show 0=if sfp (pt ps 0) (pt ps 0)=true then 0 else 0;rw[jg5];rfl
        | succ j=>rfl
      cases es:sfp (pt ps i) (pt ps (je4 ps (i-1))) with
      | true =>
        rw[es,if_pos rfl] at ea;rw[if_pos rfl,Nat.add_sub_cancel,ea];exact⟨by omega,_,rfl⟩
      | false =>
        rw[es,if_neg (by decide)] at ea;rw[if_neg (by decide),Nat.add_sub_cancel,ea];exact⟨rfl,_,rfl⟩
    . rintro σ H2 ⟨rfl,o2,rfl⟩
      have e:(((List.map V.ref rs).length:Int)).toNat-1=ps.length-1:=by omega
      refine⟨o2,?_,rfl⟩;unfold fF;rw[<- e]
  rintro σ1 H1 ⟨o2,rfl,rfl⟩;have fl:fF ps<ps.length:=by have:=jdh ps (ps.length-1);unfold fF;omega
  walk_at "rf";refine⟨⟨l,_,rfl,kl,fun a1 h1=>?_⟩,?_⟩
  . rw[jdp]
    refine ja6 h1 fun J1 s1 e1=>?_;refine⟨l,_,rfl,s1.seq kl,fun a3 h3=>?_⟩;rw[jed];refine ja6 h3 fun J3 s3 e3=>?_;refine⟨a1,a3,_,_,rfl,rfl,s3 _ _ e1,e3,?_,fun a5 h5=>⟨a5,_,_,rfl,?_,s1.trans (s3.trans (Same.new h5 _))⟩⟩
    . rw[xaE,xat]
      exact xan (show _<=1000 by omega) (by decide)
    . unfold rot
      rw[xal,xbL,xbM];exact jaf
  rintro σ2 H2 ⟨g,o1,o2,rfl,hg,s2⟩;have hr2:=(hc.2.keep s2.t).rot (fF ps);have rl:(rot (fF ps) ps).length=ps.length:=jdL (by omega);have rl2:((rot (fF ps) rs).map V.ref).length=ps.length:=by rw[xaa,jdL (by omega),ln]
  have kg:SqL K H2 g ((rot (fF ps) rs).map V.ref):=SqL.of hg;obtain⟨b1,b2⟩:=hr2.get (i:=ps.length-1) (by omega);obtain⟨b3,b4⟩:=hr2.get (i:=1) (by omega);have ef:∀{α:Type} (x:List α),frm ps x=turn (fB ps) (rot (fF ps) x):=fun _=>rfl;have eb:fB ps=sfp (pt (rot (fF ps) ps) (ps.length-1)) (pt (rot (fF ps) ps) 1):=rfl;walk_at "rf";refine⟨⟨_,.inl kg,?_⟩,?_⟩
  . have e0:((((rot (fF ps) rs).map V.ref).length:Int)-1)=((ps.length-1:Nat):Int):=by omega
    rw[e0];refine ixL kg (jaF b1) (ixL kg (jaF (j:=1) b3) ?_);refine⟨_,_,_,_,rfl,b2,b4,?_⟩;rw[<- eb];have ef:=ef rs;cases es:fB ps with
    | false =>
      rw[es] at ef;walk_at "rf";exact⟨g,_,_,_,rfl,by rw[ef];exact hg,s2⟩
    | true =>
      rw[es] at ef;have ef2:frm ps rs=(rot (fF ps) rs).take 1++((rot (fF ps) rs).drop 1).reverse:=ef;obtain⟨c1,c2⟩:=hr2.get (i:=0) (by omega);walk_at "rf";refine ixL kg (jaF (j:=0) c1) ⟨by decide,fun p hp=>?_⟩;refine ja6 hp fun J1 s3 e1=>?_;have kg1:=s3.seq kg;refine⟨_,.inl kg1,by omega,by omega,fun acc hacc=>?_⟩;have e2:((((rot (fF ps) rs).map V.ref).length:Int)-1).toNat=ps.length-1:=by omega
      rw[e2];refine jjN (n:=ps.length-1) (fun i=>.ref (ad (rot (fF ps) rs) (ps.length-1-i))) (by omega) hacc ?_ ?_
      . intro i H3 R hi s4 hR
        obtain⟨d1,d2⟩:=hr2.get (i:=ps.length-1-i) (by omega);walk_at "rf";refine⟨_,.inl (s4.seq kg1),?_⟩;have e3:((((rot (fF ps) rs).map V.ref).length:Int)-1-(0+(i:Int)))=((ps.length-1-i:Nat):Int):=by omega
        rw[e3];exact ixL (s4.seq kg1) (jaF d1) (hR _ (Same.refl _))
      intro H3 s4 e4;refine⟨p,acc,_,_,rfl,rfl,s4 _ _ e1,e4,?_,fun a5 h5=>⟨a5,_,_,_,rfl,?_,s2.trans (s3.trans (s4.trans (Same.new h5 _)))⟩⟩
      . rw[xaa,xa2]
        exact xan (show _<=1000 by simp only[xam,List.length_nil];omega) (by decide)
      . have e5:(frm ps rs).map V.ref=[V.ref (ad (rot (fF ps) rs) 0)]++(List.range (ps.length-1)).map (fun i=>V.ref (ad (rot (fF ps) rs) (ps.length-1-i))):=by
          rw[ef2];exact jka (by rw[<- rl2,xaa]) (by omega)
        rw[e5];exact jaf
  rintro σ3 H3 ⟨g,o0,o1,o2,rfl,hg,s3⟩;walk_at "rf";exact⟨_,SqL.of hg,fun t ht=>q t _ (s3.trans (Same.new ht _)) jaf⟩
theorem jiT {m h:Int} (hm:0<m) (hk:0<k) (e:d*m=h*k):d<0↔h<0:=by
 constructor
 ·intro hd;apply xap;intro n;have a:=Int.mul_neg_of_neg_of_pos hd hm;have b:=xbI (show 0<=h by omega) (show 0<=k by omega);omega
 ·intro hh;apply xap;intro n;have a:=Int.mul_neg_of_neg_of_pos hh hk;have b:=xbI (show 0<=d by omega) (show 0<=m by omega);omega
theorem jiU {b:Int} {m:Int} (hk:0<k) (hm:0<m) (e:a*k=m*b):sgn a=sgn b:=by
 have e':a*k=b*m:=by rw[e];exact Int.mul_comm ..
 have n:=jiT hk hm e';have p:=jiT (d:=-a) (h:=-b) hk hm (by rw[Int.neg_mul,Int.neg_mul,e']);unfold sgn;by_cases c:0<a
 ·rw[if_pos c,if_pos (show b>0 by omega)]
 ·rw[if_neg c,if_neg (show ¬b>0 by omega)];by_cases d:a<0
  ·rw[if_pos d,if_pos (by omega)]
  ·rw[if_neg d,if_neg (by omega)]
theorem jg6 (p o u:Pt):jay 0 p o u=jdK p.y p.z p.w o.y o.z o.w u.y u.z u.w:=rfl
theorem jg7 (p o u:Pt):jay 1 p o u=jdK p.x p.z p.w o.x o.z o.w u.x u.z u.w:=rfl
theorem jg8 (p o u:Pt):jay 2 p o u=jdK p.x p.y p.w o.x o.y o.w u.x u.y u.w:=rfl
theorem jns (p o u:Pt):jay 3 p o u=jdK p.x p.y p.z o.x o.y o.z u.x u.y u.z:=rfl
def dt (a b c:Tri):Int:=jdK a.x a.y a.z b.x b.y b.z c.x c.y c.z
theorem jg9 (a b c:Tri):dt b c a=dt a b c:=by
 unfold dt jdK;grind
theorem jl6 (a b c:Tri):dt b a c=-dt a b c:=by
 unfold dt jdK;grind
theorem jdB {g1 g2 g3 b x u w:Int}:jdK (g1*a) (g1*b) (g1*c) (g2*x) (g2*y) (g2*z) (g3*u) (g3*v) (g3*w)=jdK a b c x y z u v w*(g1*g2*g3):=by
 unfold jdK;grind
theorem jbp (Z:Sht) (v:Tri):rG Z v*(spt Z v).x=rX Z v/\rG Z v*(spt Z v).y=rY Z v/\rG Z v*(spt Z v).z=rZ Z v/\rG Z v*(spt Z v).w=rW Z v :=
 ⟨xbm (ja2 (by simp)),xbm (ja2 (by simp)),xbm (ja2 (by simp)),xbm (ja2 (by simp))⟩
def w3 (Z:Sht):Int:=Z.w*Z.w*Z.w
def ud (Z:Sht):Int:=Z.u.x*Z.s.x+Z.u.y*Z.s.y+Z.u.z*Z.s.z
theorem jiV (Z:Sht) (a b c:Tri):jay 0 (spt Z a) (spt Z b) (spt Z c)*(rG Z a*rG Z b*rG Z c)=w3 Z*Z.u.x*dt a b c:=by
 obtain⟨a1,a2,a3,a4⟩:=jbp Z a;obtain⟨b1,b2,b3,b4⟩:=jbp Z b;obtain⟨c1,c2,c3,c4⟩:=jbp Z c;rw[jg6,<- jdB,a2,a3,a4,b2,b3,b4,c2,c3,c4];unfold w3 dt jdK rY rZ rW Sht.u;grind
theorem jiW (Z:Sht) (a b c:Tri):-jay 1 (spt Z a) (spt Z b) (spt Z c)*(rG Z a*rG Z b*rG Z c)=w3 Z*Z.u.y*dt a b c:=by
 obtain⟨a1,a2,a3,a4⟩:=jbp Z a;obtain⟨b1,b2,b3,b4⟩:=jbp Z b;obtain⟨c1,c2,c3,c4⟩:=jbp Z c;rw[Int.neg_mul,jg7,<- jdB,a1,a3,a4,b1,b3,b4,c1,c3,c4];unfold w3 dt jdK rX rZ rW Sht.u;grind
theorem jiX (Z:Sht) (a b c:Tri):jay 2 (spt Z a) (spt Z b) (spt Z c)*(rG Z a*rG Z b*rG Z c)=w3 Z*Z.u.z*dt a b c:=by
 obtain⟨a1,a2,a3,a4⟩:=jbp Z a;obtain⟨b1,b2,b3,b4⟩:=jbp Z b;obtain⟨c1,c2,c3,c4⟩:=jbp Z c;rw[jg8,<- jdB,a1,a2,a4,b1,b2,b4,c1,c2,c4];unfold w3 dt jdK rX rY rW Sht.u;grind
theorem jnt (Z:Sht) (a b c:Tri):jay 3 (spt Z a) (spt Z b) (spt Z c)*(rG Z a*rG Z b*rG Z c)=Z.w*Z.w*ud Z*dt a b c:=by
 obtain⟨a1,a2,a3,a4⟩:=jbp Z a;obtain⟨b1,b2,b3,b4⟩:=jbp Z b;obtain⟨c1,c2,c3,c4⟩:=jbp Z c;rw[jns,<- jdB,a1,a2,a3,b1,b2,b3,c1,c2,c3];unfold ud dt jdK rX rY rZ Sht.u;grind
variable {Z:Sht}
theorem jd3 {v:Tri} (hw:1<=Z.w) (hv:v.pl):0<rG Z v:=by
 have W1:0<rW Z v:=xaP (by omega) (by have:=hv.2.2.2.2.1;omega);exact jf6 (n:=rW Z v) (by simp) (by omega)
theorem jkb (Z:Sht) (v:Tri):Z.w*Z.u.x*rX Z v+Z.w*Z.u.y*rY Z v+Z.w*Z.u.z*rZ Z v-ud Z*rW Z v=0:=by
 unfold ud rX rY rZ rW Sht.u;grind
theorem jha {a b c v:Tri} (hw:1<=Z.w) (ha:a.pl) (hb:b.pl) (hc:c.pl) (hv:v.pl):hgt (jay 0 (spt Z a) (spt Z b) (spt Z c)) (-jay 1 (spt Z a) (spt Z b) (spt Z c)) (jay 2 (spt Z a) (spt Z b) (spt Z c)) (jay 3 (spt Z a) (spt Z b) (spt Z c)) (spt Z v)=0:=by
 have p1:=jd3 hw ha;have p2:=jd3 hw hb;have p3:=jd3 hw hc;have p4:=jd3 hw hv;have gp:rG Z a*rG Z b*rG Z c*rG Z v≠0:=Int.ne_of_gt (xaP (xaP (xaP p1 p2) p3) p4);refine (xbC.mp ?_).resolve_right gp;obtain⟨v1,v2,v3,v4⟩:=jbp Z v;have e:hgt (jay 0 (spt Z a) (spt Z b) (spt Z c)) (-jay 1 (spt Z a) (spt Z b) (spt Z c)) (jay 2 (spt Z a) (spt Z b) (spt Z c)) (jay 3 (spt Z a) (spt Z b) (spt Z c)) (spt Z v)*(rG Z a*rG Z b*rG Z c*rG Z v) =
   (jay 0 (spt Z a) (spt Z b) (spt Z c)*(rG Z a*rG Z b*rG Z c))*(rG Z v*(spt Z v).x)+(-jay 1 (spt Z a) (spt Z b) (spt Z c)*(rG Z a*rG Z b*rG Z c))*(rG Z v*(spt Z v).y)+(jay 2 (spt Z a) (spt Z b) (spt Z c)*(rG Z a*rG Z b*rG Z c))*(rG Z v*(spt Z v).z)-(jay 3 (spt Z a) (spt Z b) (spt Z c)*(rG Z a*rG Z b*rG Z c))*(rG Z v*(spt Z v).w):=by
  unfold hgt;grind
 rw[e,jiV,jiW,jiX,jnt,v1,v2,v3,v4];have f:=jkb Z v;have e2:w3 Z*Z.u.x*dt a b c*rX Z v+w3 Z*Z.u.y*dt a b c*rY Z v+w3 Z*Z.u.z*dt a b c*rZ Z v-Z.w*Z.w*ud Z*dt a b c*rW Z v=Z.w*Z.w*dt a b c*(Z.w*Z.u.x*rX Z v+Z.w*Z.u.y*rY Z v+Z.w*Z.u.z*rZ Z v-ud Z*rW Z v):=by
  unfold w3;grind
 rw[e2,f,Int.mul_zero]
theorem jk6 (hw:1<=Z.w):0<w3 Z:=xaP (xaP (by omega) (by omega)) (by omega)
theorem jeJ {a b c:Tri} (hw:1<=Z.w) (nz:Z.u.nz) (hd:dt a b c≠0):¬jdg (spt Z a) (spt Z b) (spt Z c):=fun ⟨h0,h1,h2⟩=>by
 have e0:=jiV Z a b c;have e1:=jiW Z a b c;have e2:=jiX Z a b c;rw[h0,xa4] at e0;rw[h1,Int.neg_zero,xa4] at e1;rw[h2,xa4] at e2;have w0:=jk6 hw;have c:∀{i:Int},0=w3 Z*i*dt a b c->i=0:=fun {i} e=>by
  rcases xbC.mp e.symm with q | q
  ·rcases xbC.mp q with r | r
   ·omega
   ·exact r
  ·exact absurd q hd
 exact nz ⟨c e0,c e1,c e2⟩
def uk (Z:Sht) (k:Int):Int:=if k=0 then Z.u.x else if k=1 then -Z.u.y else Z.u.z
theorem jiY {a b c:Tri} (hw:1<=Z.w) (ha:a.pl) (hb:b.pl) (hc:c.pl) (hd:0<dt a b c) (k0:0<=k) (k2:k<=2):sgn (jay k (spt Z a) (spt Z b) (spt Z c))=sgn (uk Z k):=by
 have gp:=xaP (xaP (jd3 hw ha) (jd3 hw hb)) (jd3 hw hc);have wd:=xaP (jk6 hw) hd;have e:k=0\/k=1\/k=2:=by omega
 rcases e with rfl | rfl | rfl
 ·refine jiU gp wd ?_;rw[jiV];show _=w3 Z*dt a b c*Z.u.x;grind
 ·refine jiU gp wd ?_;have z:=jiW Z a b c;show _=w3 Z*dt a b c*-Z.u.y;grind
 ·refine jiU gp wd ?_;rw[jiX];show _=w3 Z*dt a b c*Z.u.z;grind
theorem jkc:∀i,i<8->∀j,j<8->∀k,k<8->i<j->j<k->0<jdK (jeH i) (jeI i) 1 (jeH j) (jeI j) 1 (jeH k) (jeI k) 1:=by decide +kernel
theorem jl7 {t:Int} {k:Nat} (s1:1<=s) (t1:1<=t) (hk:k<8) (h1:i<j) (h2:j<k):0<dt (plc s t i) (plc s t j) (plc s t k):=by
 have r:=jkc i (by omega) j (by omega) k hk h1 h2;have e:dt (plc s t i) (plc s t j) (plc s t k)=s*t*(s*t)*jdK (jeH i) (jeI i) 1 (jeH j) (jeI j) 1 (jeH k) (jeI k) 1:=by
  unfold dt plc jdK;grind
 rw[e];have st:0<s*t:=xaP (by omega) (by omega);exact xaP (xaP st st) r
theorem jhb {t:Int} (s1:1<=s) (s6:s<=6) (t1:1<=t) (t6:t<=6):(plc s t i).pl:=by
 obtain⟨⟨p0',p3⟩,q0',q3⟩:=jiQ i;have a:=Int.mul_le_mul p3 s6 (by omega) (by decide);have b:=Int.mul_le_mul q3 t6 (by omega) (by decide);have c:=Int.mul_le_mul s6 t6 (by omega) (by decide);have a0:=xbI p0' (show 0<=s by omega);have b0:=xbI q0' (show 0<=t by omega);have c0:=xaP (show 0<s by omega) (show 0<t by omega);unfold Tri.pl plc;simp only;omega
variable {ix:List Nat}
theorem jnu {f:Nat->Pt} {a:Nat} (h:a<ix.length):pt (ix.map f) a=f (ix.getD a 0):=by
 unfold pt;rw[xag,xag,xad,xab h];rfl
theorem jk7 (h:Ix ix) {a b:Nat} (hab:a<b) (hb:b<ix.length):ix.getD a 0<ix.getD b 0:=by
 have z:=xa6.mp h.2.2.1 a b (by omega) hb hab;rw[xag,xag,xab (by omega),xab hb];exact z
theorem ix_lt (h:Ix ix) {a:Nat} (ha:a<ix.length):ix.getD a 0<8:=by
 rw[xag,xab ha];exact h.2.2.2 _ (xbo ha)
def Qa (s t:Int) (ix:List Nat) (a:Nat):Tri:=plc s t (ix.getD a 0)
theorem jkd {t:Int} (h:Ix ix) (s1:1<=s) (t1:1<=t) {a b c:Nat} (hab:a<b) (hbc:b<c) (hc:c<ix.length):0<dt (Qa s t ix a) (Qa s t ix b) (Qa s t ix c) :=
 jl7 s1 t1 (ix_lt h hc) (jk7 h hab (by omega)) (jk7 h hbc hc)
theorem jnv {t:Int} (h:Ix ix) (s1:1<=s) (t1:1<=t) (hi:i<ix.length) (j1:1<=j) (jn:j<ix.length-1):0<dt (Qa s t ix ((i+(ix.length-1)) % ix.length)) (Qa s t ix i) (Qa s t ix ((i+j) % ix.length)):=by
 by_cases i0:i=0
 ·subst i0;have e1:(0+(ix.length-1)) % ix.length=ix.length-1:=by rw[Nat.zero_add];exact xaC (by omega)
  have e2:(0+j) % ix.length=j:=by rw[Nat.zero_add];exact xaC (by omega)
  rw[e1,e2,<- jg9];exact jkd h s1 t1 (by omega) (by omega) (by omega)
 ·have e1:(i+(ix.length-1)) % ix.length=i-1:=by
   have z:i+(ix.length-1)=i-1+ix.length:=by omega
   rw[z,Nat.add_mod_right];exact xaC (by omega)
  rw[e1];by_cases c:i+j<ix.length
  ·rw[xaC c];exact jkd h s1 t1 (by omega) (by omega) c
  ·have e2:(i+j) % ix.length=i+j-ix.length:=by
    rw[Nat.mod_eq_sub_mod (by omega)];exact xaC (by omega)
   rw[e2,jg9];exact jkd h s1 t1 (by omega) (by omega) hi
theorem D_ne {t:Int} (h:Ix ix) (s1:1<=s) (t1:1<=t) {a b c:Nat} (ha:a<ix.length) (hb:b<ix.length) (hc:c<ix.length) (ab:a≠b) (bc:b≠c) (ac:a≠c):dt (Qa s t ix a) (Qa s t ix b) (Qa s t ix c)≠0:=by
 have P:∀{x y z:Nat},x<y->y<z->z<ix.length->0<dt (Qa s t ix x) (Qa s t ix y) (Qa s t ix z):=fun h1 h2 h3=>jkd h s1 t1 h1 h2 h3;have r1:=jg9 (Qa s t ix a) (Qa s t ix b) (Qa s t ix c);have r2:=jg9 (Qa s t ix b) (Qa s t ix c) (Qa s t ix a);have w1:=jl6 (Qa s t ix a) (Qa s t ix b) (Qa s t ix c);have w2:=jl6 (Qa s t ix b) (Qa s t ix c) (Qa s t ix a);have w3':=jl6 (Qa s t ix c) (Qa s t ix a) (Qa s t ix b);rcases xbe ab with x | x
 ·rcases xbe bc with y | y
  ·have:=P x y hc;omega
  ·rcases xbe ac with z | z
   ·have:=P z y hb;omega
   ·have:=P z x hb;omega
 ·rcases xbe ac with z | z
  ·have:=P x z hc;omega
  ·rcases xbe bc with y | y
   ·have:=P y z ha;omega
   ·have:=P y x ha;omega
def sps (Z:Sht) (s t:Int) (ix:List Nat):List Pt:=ix.map fun i=>spt Z (plc s t i)
theorem jk8 (hf:f<l.length) (hi:i<l.length):pt (rot f l) i=pt l ((f+i) % l.length):=by
 unfold pt rot;rw[xag,xag];by_cases c:f+i<l.length
 ·rw[xaC c,xaO (by rw[xaE];omega),List.getElem?_drop]
 ·have e:(f+i) % l.length=f+i-l.length:=by
   rw[Nat.mod_eq_sub_mod (by omega)];exact xaC (by omega)
  rw[e,xaI (by rw[xaE];omega),xaE,List.getElem?_take,if_pos (by omega)]
  congr 2
  omega
theorem jk9 {H:Hp}:∀(ys:List V) (ps:List Pt),ys.length=ps.length->(∀(i:Nat) (y:V) (p:Pt),ys[i]?=some y->ps[i]?=some p->∃r:Addr,y=V.ref r/\Is4 H r p)->∃rs:List Addr,ys=rs.map V.ref/\Sps H rs ps
  | [],[],_,_=>⟨[],rfl,.nil⟩
  | y :: ys, p :: ps, hl, h => by
    obtain⟨r,rfl,hr⟩:=h 0 y p rfl rfl;obtain⟨rs,rfl,hp⟩:=jk9 ys ps (by simpa using hl) fun i y v h1 h2=>h (i+1) y v h1 h2;exact⟨r::rs,rfl,.cons hr hp⟩
theorem jc3 (h:i<l.length):pt l i∈l:=by
 unfold pt;rw[xag,xab h];exact xbo h
theorem jhc (h:p∈l):∃i,i<l.length/\pt l i=p:=by
 obtain⟨i,hi,e⟩:=List.mem_iff_getElem.mp h;refine⟨i,hi,?_⟩;unfold pt;rw[xag,xab hi];exact e
theorem ix1:∀n,n<9->∀a,a<n->∀f,f<n->∀i,i<n->(a+(f+i) % n) % n=((a+f) % n+i) % n/\(a+(n-(f+i) % n)) % n=((a+(n-f)) % n+(n-i)) % n:=by decide +kernel
theorem ix2:∀n,n<9->∀a,a<n->∀i,i<n->(a+(n-i) % n) % n=(a+(n-i)) % n/\(a+(n-(n-i) % n)) % n=(a+i) % n:=by decide +kernel
theorem ix3:∀n,n<9->∀a,a<n->∀i,i<n->(a+(n-1-i)) % n=((a+(n-1)) % n+(n-i)) % n/\(a+(n-(n-1-i))) % n=((a+1) % n+i) % n:=by decide +kernel
theorem ix4:∀n,n<9->∀a,a<n->∀i,i<n->(a+(i+(n-a)) % n) % n=i/\(a+(n-(a+(n-i)) % n)) % n=i:=by decide +kernel
theorem ix5:∀n,n<9->∀a,a<n->∀i,i<n->(a+(i+(n-1)) % n) % n=((a+i) % n+(n-1)) % n/\(a+(n-i)) % n=((a+(n-(i+(n-1)) % n)) % n+(n-1)) % n:=by decide +kernel
theorem ix5b:∀n,n<9->∀a,a<n->∀i,i<n->∀j,j<n->(a+(i+j) % n) % n=((a+i) % n+j) % n/\(1<=j->(a+(n-(i+j) % n)) % n=((a+(n-(i+(n-1)) % n)) % n+(n-1-j)) % n):=by decide +kernel
theorem ix6:∀n,n<9->3<=n->∀a,a<n->(a+0) % n≠(a+1) % n/\(a+1) % n≠(a+2) % n/\(a+0) % n≠(a+2) % n:=by decide +kernel
theorem ix6b:∀n,n<9->3<=n->∀a,a<n->(a+(n-0)) % n≠(a+(n-1)) % n/\(a+(n-1)) % n≠(a+(n-2)) % n/\(a+(n-0)) % n≠(a+(n-2)) % n:=by decide +kernel
theorem ix7:∀n,n<9->3<=n->∀a,a<n->(a+1) % n≠(a+(n-1)) % n/\(a+0) % n=a/\(a+(n-0)) % n=a:=by decide +kernel
def Dih (ps qs:List Pt):Prop:=qs.length=ps.length/\∃a,a<ps.length/\((∀i,i<ps.length->pt qs i=pt ps ((a+i) % ps.length))\/(∀i,i<ps.length->pt qs i=pt ps ((a+(ps.length-i)) % ps.length)))
theorem Dih.refl (h:3<=ps.length):Dih ps ps:=⟨rfl,0,by omega,.inl fun i hi=>by rw[Nat.zero_add,xaC hi]⟩
theorem Dih.rot (d:Dih ps qs) (n8:ps.length<=8) (hf:f<ps.length):Dih ps (rot f qs):=by
 obtain⟨hl,a,ha,d⟩:=d;have rp:∀i,i<ps.length->pt (My.rot f qs) i=pt qs ((f+i) % ps.length):=fun i hi=>by rw[jk8 (by omega) (by omega),hl]
 have m:∀i,(f+i) % ps.length<ps.length:=fun i=>xaR _ (by omega);refine⟨by rw[jdL (by omega),hl],?_⟩;rcases d with d | d
 ·refine⟨(a+f) % ps.length,xaR _ (by omega),.inl fun i hi=>?_⟩;rw[rp i hi,d _ (m i),(ix1 _ (by omega) a ha f hf i hi).1]
 ·refine⟨(a+(ps.length-f)) % ps.length,xaR _ (by omega),.inr fun i hi=>?_⟩;rw[rp i hi,d _ (m i),(ix1 _ (by omega) a ha f hf i hi).2]
theorem jfv (hi:i<l.length):pt (turn true l) i=pt l ((l.length-i) % l.length):=by
  match l,hi with
  | x :: r, hi =>
    have e:turn true (x::r)=x::r.reverse:=rfl;rw[e];cases i with
    | zero=>rw[Nat.sub_zero,Nat.mod_self];rfl
    | succ j =>
      have hj:j<r.length:=by simpa using hi
      have e2:((x::r).length-(j+1)) % (x::r).length=r.length-1-j+1:=by
        rw[xam,xaC (by omega)];omega
      rw[e2];unfold pt;rw[xag,xag,xbs,xbs,xbi hj]
theorem jke (b:Bool):(turn b l).length=l.length:=by
 unfold turn;cases b
 ·rfl
 ·rw[if_pos rfl,xaf,xaV,xat,xaE];omega
theorem Dih.turn (d:Dih ps qs) (n8:ps.length<=8) (b:Bool):Dih ps (turn b qs):=by
  cases b with
  | false=>exact d
  | true =>
    obtain⟨hl,a,ha,d⟩:=d;refine⟨by rw[jke,hl],a,ha,?_⟩;have tp:∀i,i<ps.length->pt (My.turn true qs) i=pt qs ((ps.length-i) % ps.length):=fun i hi=>by rw[jfv (by omega),hl]
    have m:∀i,(ps.length-i) % ps.length<ps.length:=fun i=>xaR _ (by omega);rcases d with d | d
    . exact .inr fun i hi=>by rw[tp i hi,d _ (m i),(ix2 _ (by omega) a ha i hi).1]
    . exact .inl fun i hi=>by rw[tp i hi,d _ (m i),(ix2 _ (by omega) a ha i hi).2]
theorem jnw (hi:i<l.length):pt l.reverse i=pt l (l.length-1-i):=by
 unfold pt;rw[xag,xag,xbi hi]
theorem Dih.rev (d:Dih ps qs) (n8:ps.length<=8):Dih ps qs.reverse:=by
 obtain⟨hl,a,ha,d⟩:=d;refine⟨by rw[xaV,hl],?_⟩;have tp:∀i,i<ps.length->pt qs.reverse i=pt qs (ps.length-1-i):=fun i hi=>by rw[jnw (by omega),hl]
 rcases d with d | d
 ·exact⟨(a+(ps.length-1)) % ps.length,xaR _ (by omega),.inr fun i hi=>by rw[tp i hi,d _ (by omega),(ix3 _ (by omega) a ha i hi).1]⟩
 ·exact⟨(a+1) % ps.length,xaR _ (by omega),.inl fun i hi=>by rw[tp i hi,d _ (by omega),(ix3 _ (by omega) a ha i hi).2]⟩
theorem jnx (h:3<=ps.length):fF ps<ps.length:=by have:=jdh ps (ps.length-1);unfold fF;omega
theorem Dih.frm (d:Dih ps qs) (n3:3<=ps.length) (n8:ps.length<=8):Dih ps (frm qs qs) :=
 (d.rot n8 (by have:=jnx (ps:=qs) (by rw[d.1];exact n3);rw[d.1] at this;exact this)).turn n8 _
structure Tot (ps:List Pt):Prop where
 tr:∀p q r,p∈ps->q∈ps->r∈ps->sfp p q=true->sfp q r=true->sfp p r=true
 ne:∀i j,i<ps.length->j<ps.length->i≠j->sfp (pt ps i) (pt ps j)=true\/sfp (pt ps j) (pt ps i)=true
theorem Dih.mem (d:Dih ps qs) (n8:ps.length<=8) :p∈qs↔p∈ps:=by
 obtain⟨hl,a,ha,d⟩:=d;constructor
 ·intro h;obtain⟨i,hi,rfl⟩:=jhc h;rcases d with d | d
  ·rw[d i (by omega)];exact jc3 (xaR _ (by omega))
  ·rw[d i (by omega)];exact jc3 (xaR _ (by omega))
 ·intro h;obtain⟨i,hi,rfl⟩:=jhc h;rcases d with d | d
  ·have z:=d ((i+(ps.length-a)) % ps.length) (xaR _ (by omega));rw[(ix4 _ (by omega) a ha i hi).1] at z;rw[<- z];exact jc3 (by rw[hl];exact xaR _ (by omega))
  ·have z:=d ((a+(ps.length-i)) % ps.length) (xaR _ (by omega));rw[(ix4 _ (by omega) a ha i hi).2] at z;rw[<- z];exact jc3 (by rw[hl];exact xaR _ (by omega))
theorem jhd {ps qs:List Pt} (T:Tot ps) (hq:∀p,p∈qs->p∈ps):∀n,n<qs.length->∀i,i<=n->sfp (pt qs i) (pt qs (je4 qs n))=false
  | 0, hn, i, hi => by
    have e:i=0:=by omega
    subst e;exact jg5 _
  | n + 1, hn, i, hi => by
    have ih:=jhd T hq n (by omega);have al:=jdh qs n;unfold je4;cases c:sfp (pt qs (n+1)) (pt qs (je4 qs n)) with
    | true =>
      rw[if_pos rfl];by_cases e:i=n+1
      . rw[e]
        exact jg5 _
      . cases z:sfp (pt qs i) (pt qs (n+1)) with
        | false=>rfl
        | true =>
          have t:=T.tr _ _ _ (hq _ (jc3 (by omega))) (hq _ (jc3 (by omega))) (hq _ (jc3 (by omega))) z c;rw[ih i (by omega)] at t;cases t
    | false =>
      rw[if_neg (by decide)];by_cases e:i=n+1
      . rw[e]
        exact c
      . exact ih i (by omega)
theorem jla {m:List Pt} {n:Nat} (hl:l.length=n) (hm:m.length=n) (h:∀i,i<n->pt l i=pt m i):l=m:=by
 refine List.ext_getElem (by rw[hl,hm]) fun i h1 h2=>?_;have z:=h i (by omega);unfold pt at z;rw[xag,xag,xab h1,xab h2] at z;exact z
theorem jlb (T:Tot ps) (d:Dih ps qs) (n3:3<=ps.length) (n8:ps.length<=8):(∀p,p∈ps->sfp p (pt (frm qs qs) 0)=false)/\sfp (pt (frm qs qs) (ps.length-1)) (pt (frm qs qs) 1)=false:=by
  have hl:=d.1;have fl:=jnx (ps:=qs) (by omega);have rl:(rot (fF qs) qs).length=ps.length:=by rw[jdL (by omega),hl]
  have dr:=d.rot n8 (f:=fF qs) (by omega);have h0:pt (rot (fF qs) qs) 0=pt qs (fF qs):=by rw[jk8 fl (by omega),Nat.add_zero,xaC fl]
  have mn:∀p,p∈ps->sfp p (pt (rot (fF qs) qs) 0)=false:=fun p hp=>by
    rw[h0];obtain⟨i,hi,rfl⟩:=jhc ((d.mem n8).mpr hp);exact jhd T (fun p h=>(d.mem n8).mp h) (qs.length-1) (by omega) i (by omega)
  have eb:fB qs=sfp (pt (rot (fF qs) qs) (ps.length-1)) (pt (rot (fF qs) qs) 1):=by unfold fB;rw[hl]
  unfold frm;cases c:fB qs with
  | false=>exact⟨mn,eb.symm.trans c⟩
  | true =>
    have t0:pt (turn true (rot (fF qs) qs)) 0=pt (rot (fF qs) qs) 0:=by rw[jfv (by omega),Nat.sub_zero,Nat.mod_self]
    have t1':pt (turn true (rot (fF qs) qs)) 1=pt (rot (fF qs) qs) (ps.length-1):=by rw[jfv (by omega),rl,xaC (by omega)]
    have t2':pt (turn true (rot (fF qs) qs)) (ps.length-1)=pt (rot (fF qs) qs) 1:=by
      rw[jfv (by omega),rl,xaC (by omega)]
      congr 1
      omega
    rw[t0,t1',t2'];refine⟨mn,?_⟩;rw[eb] at c;cases z:sfp (pt (rot (fF qs) qs) 1) (pt (rot (fF qs) qs) (ps.length-1)) with
    | false=>rfl
    | true =>
      have m:∀i,i<ps.length->pt (rot (fF qs) qs) i∈ps:=fun i hi=>(dr.mem n8).mp (jc3 (by omega));have t:=T.tr _ _ _ (m _ (by omega)) (m _ (by omega)) (m _ (by omega)) z c;rw[jg5] at t;cases t
theorem jkf {us:List Pt} (T:Tot ps) (n3:3<=ps.length) (n8:ps.length<=8) (d1:Dih ps qs) (d2:Dih ps us) (m1:∀p,p∈ps->sfp p (pt qs 0)=false) (m2:∀p,p∈ps->sfp p (pt us 0)=false) (l1:sfp (pt qs (ps.length-1)) (pt qs 1)=false) (l2:sfp (pt us (ps.length-1)) (pt us 1)=false):qs=us:=by
 obtain⟨hl,a,ha,d1⟩:=d1;obtain⟨hl',b,hb,d2⟩:=d2;have h0:pt qs 0=pt ps a:=by
  rcases d1 with d | d
  ·rw[d 0 (by omega),(ix7 _ (by omega) n3 a ha).2.1]
  ·rw[d 0 (by omega),(ix7 _ (by omega) n3 a ha).2.2]
 have h0':pt us 0=pt ps b:=by
  rcases d2 with d | d
  ·rw[d 0 (by omega),(ix7 _ (by omega) n3 b hb).2.1]
  ·rw[d 0 (by omega),(ix7 _ (by omega) n3 b hb).2.2]
 have ab:a=b:=by
  apply xap;intro n;rw[h0] at m1;rw[h0'] at m2;rcases T.ne a b ha hb n with z | z
  ·rw[m2 _ (jc3 ha)] at z;cases z
  ·rw[m1 _ (jc3 hb)] at z;cases z
 subst ab;have e7:=(ix7 _ (by omega) n3 a ha).1;have m:∀i,(a+i) % ps.length<ps.length:=fun i=>xaR _ (by omega);have sub:ps.length-(ps.length-1)=1:=by omega
 rcases d1 with d | d<;>rcases d2 with d' | d'
 ·exact jla hl hl' fun i hi=>by rw[d i hi,d' i hi]
 ·rw[d _ (by omega),d _ (by omega)] at l1;rw[d' _ (by omega),d' _ (by omega),sub] at l2;rcases T.ne _ _ (m 1) (m (ps.length-1)) e7 with z | z
  ·rw[l2] at z;cases z
  ·rw[l1] at z;cases z
 ·rw[d _ (by omega),d _ (by omega),sub] at l1;rw[d' _ (by omega),d' _ (by omega)] at l2;rcases T.ne _ _ (m 1) (m (ps.length-1)) e7 with z | z
  ·rw[l1] at z;cases z
  ·rw[l2] at z;cases z
 ·exact jla hl hl' fun i hi=>by rw[d i hi,d' i hi]
theorem jl8 (T:Tot ps) (n3:3<=ps.length) (n8:ps.length<=8) (d:Dih ps qs):frm qs qs=frm ps ps:=by
 obtain⟨a1,a2⟩:=jlb T d n3 n8;obtain⟨b1,b2⟩:=jlb T (Dih.refl n3) n3 n8;exact jkf T n3 n8 (d.frm n3 n8) ((Dih.refl n3).frm n3 n8) a1 b1 a2 b2
theorem jhN {x:Int} (hg:0<g) (e:g*x=y):(0<=y->0<=x)/\(0<y->0<x):=by
 constructor
 ·intro h;apply xap;intro n;have:=Int.mul_neg_of_pos_of_neg hg (show x<0 by omega);omega
 ·intro h;apply xap;intro n;have:=Int.mul_nonpos_of_nonneg_of_nonpos (show 0<=g by omega) (show x<=0 by omega);omega
theorem jl9 {v:Tri} (hw:1<=Z.w) (hv:v.pl):1<=(spt Z v).w:=by
 have W1:0<rW Z v:=xaP (by omega) (by have:=hv.2.2.2.2.1;omega);exact (jhN (jd3 hw hv) (jbp Z v).2.2.2).2 W1
theorem jkg {b u w:Int} (hu:0<u) (hv:0<v) (hw:0<w) (h1:a*v<=b*u) (h2:b*w<=c*v):a*w<=c*u:=by
 have e1:=xaX h1 (show 0<=w by omega);have e2:=xaX h2 (show 0<=u by omega);refine Int.le_of_mul_le_mul_right (a:=v) ?_ hv;have z1:a*w*v=a*v*w:=by grind
 have z2:c*u*v=c*v*u:=by grind
 have z3:b*u*w=b*w*u:=by grind
 rw[z1,z2];omega
theorem lt_tr {b u w:Int} (hu:0<u) (hv:0<v) (hw:0<w) (h1:a*v<=b*u) (h2:b*w<=c*v) (h:a*v<b*u\/b*w<c*v):a*w<c*u:=by
 refine Int.lt_iff_le_and_ne.mpr ⟨jkg hu hv hw h1 h2,fun e=>?_⟩;rcases h with h | h
 ·have z:=jkg (a:=c) (b:=a) (c:=b) hv hu hv;have e1:=Int.mul_lt_mul_of_pos_right h hw;have e2:=xaX h2 (show 0<=u by omega);have z1:a*v*w=a*w*v:=by grind
  have z3:b*u*w=b*w*u:=by grind
  have z2:c*v*u=c*u*v:=by grind
  rw[z1,z3] at e1;rw[z2,<- e] at e2;omega
 ·have e1:=xaX h1 (show 0<=w by omega);have e2:=Int.mul_lt_mul_of_pos_right h hu;have z1:a*v*w=a*w*v:=by grind
  have z3:b*u*w=b*w*u:=by grind
  have z2:c*v*u=c*u*v:=by grind
  rw[z1,z3] at e1;rw[z2,<- e] at e2;omega
theorem jiZ (p o:Pt):sfp p o=true↔p.x*o.w<o.x*p.w\/(p.x*o.w=o.x*p.w/\(p.y*o.w<o.y*p.w\/(p.y*o.w=o.y*p.w/\p.z*o.w<o.z*p.w))):=by
 unfold sfp sf;generalize p.x*o.w=a;generalize o.x*p.w=a';generalize p.y*o.w=b;generalize o.y*p.w=b';generalize p.z*o.w=c;generalize o.z*p.w=c';by_cases h1:a=a'
 ·rw[if_neg (fun n=>n h1)];by_cases h2:b=b'
  ·rw[if_neg (fun n=>n h2)];by_cases h3:c=c'
   ·rw[if_neg (fun n=>n h3)];constructor
    ·intro h;cases h
    ·intro h;omega
   ·rw[if_pos h3,decide_eq_true_iff];omega
  ·rw[if_pos h2,decide_eq_true_iff];omega
 ·rw[if_pos h1,decide_eq_true_iff];omega
theorem sf_tr {q r:Pt} (hp:1<=p.w) (hq:1<=q.w) (hr:1<=r.w) (h1:sfp p q=true) (h2:sfp q r=true):sfp p r=true:=by
 rw[jiZ] at h1 h2 |-
 have L:∀{a b c:Int},a*q.w<=b*p.w->b*r.w<=c*q.w->(a*q.w<b*p.w\/b*r.w<c*q.w)->a*r.w<c*p.w:=fun x y z=>lt_tr (by omega) (by omega) (by omega) x y z;have E:∀{a b c:Int},a*q.w=b*p.w->b*r.w=c*q.w->a*r.w=c*p.w:=fun {a b c} x y=>Int.le_antisymm (jkg (by omega) (by omega) (by omega) (Int.le_of_eq x) (Int.le_of_eq y)) (jkg (u:=r.w) (v:=q.w) (w:=p.w) (by omega) (by omega) (by omega) (Int.le_of_eq y.symm) (Int.le_of_eq x.symm));rcases h1 with h1 | ⟨e1,h1⟩
 ·rcases h2 with h2 | ⟨e2,h2⟩
  ·exact .inl (L (by omega) (by omega) (.inl h1))
  ·exact .inl (L (by omega) (by omega) (.inl h1))
 ·rcases h2 with h2 | ⟨e2,h2⟩
  ·exact .inl (L (by omega) (by omega) (.inr h2))
  ·refine .inr ⟨E e1 e2,?_⟩;rcases h1 with h1 | ⟨f1,h1⟩
   ·rcases h2 with h2 | ⟨f2,h2⟩
    ·exact .inl (L (by omega) (by omega) (.inl h1))
    ·exact .inl (L (by omega) (by omega) (.inl h1))
   ·rcases h2 with h2 | ⟨f2,h2⟩
    ·exact .inl (L (by omega) (by omega) (.inr h2))
    ·exact .inr ⟨E f1 f2,L (by omega) (by omega) (.inl h1)⟩
theorem par2 {b u:Int} (hv:1<=v) (h1:a*v=b*u) (h2:c*v=d*u):a*d=c*b:=by
 refine Int.eq_of_mul_eq_mul_right (a:=v) (by omega) ?_;have e1:a*d*v=a*v*d:=by grind
 have e2:c*b*v=c*v*b:=by grind
 rw[e1,e2,h1,h2];grind
theorem ji0 {o:Pt} (u:Pt) (ho:1<=o.w) (h1:p.x*o.w=o.x*p.w) (h2:p.y*o.w=o.y*p.w) (h3:p.z*o.w=o.z*p.w):jdg p o u:=by
 have a1:=par2 ho h2 h3;have a2:=par2 ho h1 h3;have a3:=par2 ho h1 h2;refine⟨?_,?_,?_⟩
 ·rw[jg6];unfold jdK;grind
 ·rw[jg7];unfold jdK;grind
 ·rw[jg8];unfold jdK;grind
theorem jga {t:Int} {a:Nat} (ha:a<ix.length):pt (sps Z s t ix) a=spt Z (Qa s t ix a):=jnu ha
theorem jbr {n:Nat} (h:3<=n):∃k,k<n/\j≠k/\i≠k:=by
 by_cases h0:i=0\/j=0
 ·by_cases h1:i=1\/j=1
  ·exact⟨2,by omega,by omega,by omega⟩
  ·exact⟨1,by omega,by omega,by omega⟩
 ·exact⟨0,by omega,by omega,by omega⟩
theorem jny {t:Int} (hw:1<=Z.w) (nz:Z.u.nz) (h:Ix ix) (s1:1<=s) (s6:s<=6) (t1:1<=t) (t6:t<=6):Tot (sps Z s t ix):=by
 have ln:(sps Z s t ix).length=ix.length:=xaa _;have pl:∀a,(Qa s t ix a).pl:=fun a=>jhb s1 s6 t1 t6;have W:∀p,p∈sps Z s t ix->1<=p.w:=fun p hp=>by
  obtain⟨i,hi,rfl⟩:=jhc hp;rw[jga (by omega)];exact jl9 hw (pl _)
 refine⟨fun p q r hp hq hr h1 h2=>sf_tr (W p hp) (W q hq) (W r hr) h1 h2,fun i j hi hj ij=>?_⟩;rw[ln] at hi hj;obtain⟨k,hk,jk,ik⟩:=jbr (i:=i) (j:=j) h.1;have na:=jeJ hw nz (D_ne h s1 t1 hi hj hk ij jk ik);rw[jga hi,jga hj];apply xap;intro n;rw[not_or,jiZ,jiZ] at n;refine na (ji0 _ (jl9 hw (pl _)) ?_ ?_ ?_)
 all_goals
  generalize (spt Z (Qa s t ix i)).x*(spt Z (Qa s t ix j)).w=a at *
  generalize (spt Z (Qa s t ix j)).x*(spt Z (Qa s t ix i)).w=a' at *
  generalize (spt Z (Qa s t ix i)).y*(spt Z (Qa s t ix j)).w=b at *
  generalize (spt Z (Qa s t ix j)).y*(spt Z (Qa s t ix i)).w=b' at *
  generalize (spt Z (Qa s t ix i)).z*(spt Z (Qa s t ix j)).w=c at *
  generalize (spt Z (Qa s t ix j)).z*(spt Z (Qa s t ix i)).w=c' at *
  omega
theorem ji1 {b x u w:Int}:jdK x y z a b c u v w=-jdK a b c x y z u v w:=by
 unfold jdK;grind
theorem jkh (k0:0<=k) (k2:k<=2) (p o u:Pt):jay k o p u=-jay k p o u:=by
 have e:k=0\/k=1\/k=2:=by omega
 rcases e with rfl | rfl | rfl
 ·rw[jg6,jg6];exact ji1
 ·rw[jg7,jg7];exact ji1
 ·rw[jg8,jg8];exact ji1
theorem jma (n:Int):sgn (-n)=-sgn n:=by
 unfold sgn;by_cases a:n>0
 ·rw[if_neg (by omega),if_pos (by omega),if_pos a]
 ·rw[if_neg a];by_cases b:n<0
  ·rw[if_pos (by omega),if_pos b];rfl
  ·rw[if_neg (by omega),if_neg (by omega),if_neg b];rfl
theorem jmb {t:Int} (hw:1<=Z.w) (nz:Z.u.nz) (h:Ix ix) (s1:1<=s) (s6:s<=6) (t1:1<=t) (t6:t<=6) (d:Dih (sps Z s t ix) qs):Brd qs:=by
 have ln:(sps Z s t ix).length=ix.length:=xaa _;have pl:∀a,(Qa s t ix a).pl:=fun a=>jhb s1 s6 t1 t6;obtain⟨hl,a,ha,d⟩:=d;rw[ln] at hl ha d;have n3:=h.1;have n8:=h.2.1;have md:∀i,i % ix.length<ix.length:=fun i=>xaR _ (by omega);rcases d with d | d
 ·have e:∀{i:Nat},i<ix.length->pt qs i=spt Z (Qa s t ix ((a+i) % ix.length)):=fun {i} hi=>by rw[d i hi,jga (md _)]
  obtain⟨z1,z2,z3⟩:=ix6 _ (by omega) n3 a ha;have dn:=D_ne h s1 t1 (md (a+0)) (md (a+1)) (md (a+2)) z1 z2 z3;have C:∀k:Int,0<=k->k<=2->∀i j,i<ix.length->1<=j->j<ix.length-1->sgn (jay k (pt qs ((i+(ix.length-1)) % ix.length)) (pt qs i) (pt qs ((i+j) % ix.length)))=sgn (uk Z k):=fun k k0 k2 i j hi j1 jn=>by
   rw[e (md _),e hi,e (md _),(ix5 _ (by omega) a ha i hi).1,(ix5b _ (by omega) a ha i hi j (by omega)).1];exact jiY hw (pl _) (pl _) (pl _) (jnv h s1 t1 (md _) j1 jn) k0 k2
  refine⟨by omega,by omega,?_,?_,?_⟩
  ·rw[e (by omega),e (by omega),e (by omega)];exact jeJ hw nz dn
  ·intro i hi;rw[e (by omega),e (by omega),e (by omega),e (by omega)];exact jha hw (pl _) (pl _) (pl _) (pl _)
  ·intro k k0 k2 _ i j hi j1 jn;rw[hl] at hi jn |-
   have c1:=C k k0 k2 1 1 (by omega) (by omega) (by omega);rw[show (1+(ix.length-1)) % ix.length=0 by rw[show 1+(ix.length-1)=ix.length by omega,Nat.mod_self],show (1+1) % ix.length=2 from xaC (by omega)] at c1;rw[C k k0 k2 i j hi j1 jn,c1]
 ·have e:∀{i:Nat},i<ix.length->pt qs i=spt Z (Qa s t ix ((a+(ix.length-i)) % ix.length)):=fun {i} hi=>by rw[d i hi,jga (md _)]
  obtain⟨z1,z2,z3⟩:=ix6b _ (by omega) n3 a ha;have dn:=D_ne h s1 t1 (md (a+(ix.length-0))) (md (a+(ix.length-1))) (md (a+(ix.length-2))) z1 z2 z3;have C:∀k:Int,0<=k->k<=2->∀i j,i<ix.length->1<=j->j<ix.length-1->sgn (jay k (pt qs ((i+(ix.length-1)) % ix.length)) (pt qs i) (pt qs ((i+j) % ix.length)))=-sgn (uk Z k):=fun k k0 k2 i j hi j1 jn=>by
   rw[jkh k0 k2 (pt qs i),jma,e (md _),e hi,e (md _),(ix5 _ (by omega) a ha i hi).2,(ix5b _ (by omega) a ha i hi j (by omega)).2 j1];rw[jiY hw (pl _) (pl _) (pl _) (jnv h s1 t1 (md _) (j:=ix.length-1-j) (by omega) (by omega)) k0 k2]
  refine⟨by omega,by omega,?_,?_,?_⟩
  ·rw[e (by omega),e (by omega),e (by omega)];exact jeJ hw nz dn
  ·intro i hi;rw[e (by omega),e (by omega),e (by omega),e (by omega)];exact jha hw (pl _) (pl _) (pl _) (pl _)
  ·intro k k0 k2 _ i j hi j1 jn;rw[hl] at hi jn |-
   have c1:=C k k0 k2 1 1 (by omega) (by omega) (by omega);rw[show (1+(ix.length-1)) % ix.length=0 by rw[show 1+(ix.length-1)=ix.length by omega,Nat.mod_self],show (1+1) % ix.length=2 from xaC (by omega)] at c1;rw[C k k0 k2 i j hi j1 jn,c1]
theorem SameB.fresh {L:Addr} {H3:Hp} (s0:Same H H3) (h:H L=none) (s:SameB L H3 H'):Same H H':=fun b o hb=>s b o (jal hb h) (s0 b o hb)
def jlc:Sp:=fun vs H Q _=>∃(l:Addr) (k:Int) (rs:List Addr) (ps:List Pt),vs=[.ref l,.int k]/\Cor H l rs ps/\3<=ps.length/\ps.length<=8/\0<=k/\k<=2/\((Rnd k ps/\∀H':Hp,Same H H'->Q (.bl true) H')\/(¬Rnd k ps/\∀H':Hp,Same H H'->Q (.bl false) H'))
theorem jki {b x w:Int} (h:pln [a,b,c,d]=[x,y,z,w]) (hp:hgt x y z w p=0):hgt a b c d p=0:=by
 have ea:=xax (ja2 (ns:=[a,b,c,d]) (n:=a) (by simp));have eb:=xax (ja2 (ns:=[a,b,c,d]) (n:=b) (by simp));have ec:=xax (ja2 (ns:=[a,b,c,d]) (n:=c) (by simp));have ed:=xax (ja2 (ns:=[a,b,c,d]) (n:=d) (by simp));have el:low [a,b,c,d]=[a / gl [a,b,c,d],b / gl [a,b,c,d],c / gl [a,b,c,d],d / gl [a,b,c,d]]:=rfl;unfold pln at h;rw[el] at h;generalize gl [a,b,c,d]=g at ea eb ec ed h;generalize a / g=x' at ea h;generalize b / g=y' at eb h;generalize c / g=z' at ec h;generalize d / g=w' at ed h;have h:(if plb x' y' z'=true then [x',y',z',w'] else [-x',-y',-z',-w'])=[x,y,z,w]:=h;have k:hgt a b c d p=hgt x' y' z' w' p*g:=by
  rw[<- ea,<- eb,<- ec,<- ed];unfold hgt;grind
 rw[k];split at h
 ·cases h;rw[hp,xa4]
 ·cases h;have e2:hgt (-x') (-y') (-z') (-w') p=-hgt x' y' z' w' p:=by
   unfold hgt;grind
  rw[e2] at hp;have:hgt x' y' z' w' p=0:=by omega
  rw[this,xa4]
theorem jkj (h:sgn n=0):n=0:=by
 unfold sgn at h;split at h
 ·cases h
 ·split at h
  ·cases h
  ·omega
theorem jmc (T:Tx K mg t1 t2) (F:At K mg "is_convex" jc9 ["corners","axis"] []) (dA:jap P w K mg base CX0 4 "side_of_edge" ["edge","spot","axis"] [] jkY):jap P w K mg base CX0 5 "is_convex" ["corners","axis"] [] jlc:=by
 refine F.ok jdS (fun vs H Q E h=>?_) (fun f cdv A outer s H vs Q E hr h=>?_)
 ·obtain⟨l,k,rs,ps,rfl,_⟩:=h;rfl
 obtain⟨l,k,rs,ps,rfl,hc,n3,n8,k0,k2,q⟩:=h;have S:=jdS;refine⟨_,(jae (jas (i:=2) S.nd rfl (Or.inl rfl) (jai dA hr.m rfl jav (jaa (jbG (jaa (jar ix_list (pv 0) jab) (jaa (jar ix_list (pv 0) jab) jac jaD) jaD)) (jaa (jar ix_list (pv 0) jab) (jaa (pv 1) jac jah) jaD) jbh)))
  (jae (jas (i:=3) S.nd rfl (Or.inl rfl) (jaz jaB rfl T.m_len PySem.boot_len (jaa (pv 0) jac jah)))
  (jae (ja1 PassesOwn.never rfl (jaG rfl T.m_range (jaa (pv 3) jac jah)) (jan (i:=4) S.nd rfl (Or.inl rfl))
  (jae (jas (i:=5) S.nd rfl (Or.inl rfl) (jbG (jaa (jar ix_list (pv 0) (jao jbF (pv 4) jab)) (jaa (jar ix_list (pv 0) (pv 4)) jac jaD) jaD)))
  (jag (ja1 PassesOwn.never rfl (jfH rfl T.m_range (jaa jab (jaa (jao jbF (pv 3) jab) jac jaX) jaj)) (jan (i:=6) S.nd rfl (Or.inl rfl))
  (jag (jaQ (jat jcn (jai dA hr.m rfl jav (jaa (pv 5) (jaa (jar ix_list (pv 0) (jao jcR (jao jbu (pv 4) (pv 6)) (pv 3))) (jaa (pv 1) jac jah) jaD) jah)) (pv 2) (jaw _))
  (jag (jaq jcM))
  jax))))))
  (jag (jaq jcM))))),?_⟩
 have ln:=hc.2.len;have lm:(rs.map V.ref).length=ps.length:=by rw[xaa,ln]
 have kl:SqL K H l (rs.map V.ref):=SqL.of hc.1;obtain⟨a1,a2⟩:=hc.2.get (i:=0) (by omega);obtain⟨a3,a4⟩:=hc.2.get (i:=1) (by omega);obtain⟨a5,a6⟩:=hc.2.get (i:=2) (by omega);walk_at "rf";refine ixL kl (jaF (j:=0) a1) (ixL kl (jaF (j:=1) a3) ⟨by decide,fun g hg=>?_⟩);refine ja6 hg fun H1 s1 e1=>?_;refine ixL (s1.seq kl) (jaF (j:=2) a5) ?_;refine⟨g,_,_,_,k,_,_,_,rfl,e1,a2.keep s1,a4.keep s1,a6.keep s1,k0,by omega,fun H2 s2=>?_⟩;have s12:=s1.trans s2;have kl2:=s12.seq kl;walk_at "rf";refine⟨_,.inl kl2,?_⟩;rw[lm];refine⟨by omega,by omega,?_⟩;refine jaL (lo:=0) (n:=_) (fun i σ H3=>Same H H3/\(∀i' j',i'<i->1<=j'->j'<ps.length-1->sgn (jay k (pt ps ((i'+(ps.length-1)) % ps.length)) (pt ps i') (pt ps ((i'+j') % ps.length)))=sgn (jay k (pt ps 0) (pt ps 1) (pt ps 2)))/\∃o4 o5 o6:Option V,σ=[some (.ref l),some (.int k),some (.int (sgn (jay k (pt ps 0) (pt ps 1) (pt ps 2)))),some (.int (ps.length:Nat)),o4,o5,o6]) ⟨s12,fun i' j' h=>absurd h (Nat.not_lt_zero _),none,none,none,rfl⟩ ?_ ?_
 ·rintro i σ H3 hi ⟨s3,al,o4,o5,o6,rfl⟩;have hi2:i<ps.length:=by simpa using hi
  have kl3:=s3.seq kl;have sp3:=hc.2.keep s3.t;obtain⟨b1,b2⟩:=sp3.get hi2;have hm:(i+(ps.length-1)) % ps.length<ps.length:=xaR _ (by omega);obtain⟨b3,b4⟩:=sp3.get hm;have ep:=jj5 sp3 hi2;have z0:(0:Int)+(i:Int)=(i:Int):=xbb _;rw[z0];walk_at "rf";refine ixL kl3 ep (ixL kl3 (jaF b1) ⟨by decide,fun g3 hg3=>?_⟩);refine ja6 hg3 fun H4 s4 e4=>?_;refine⟨by decide,by decide,by omega,by omega,?_⟩;refine jaL (lo:=1) (n:=_) (fun j σ H5=>Same H4 H5/\(∀j',j'<j->sgn (jay k (pt ps ((i+(ps.length-1)) % ps.length)) (pt ps i) (pt ps ((i+(j'+1)) % ps.length)))=sgn (jay k (pt ps 0) (pt ps 1) (pt ps 2)))/\∃o6:Option V,σ=[some (.ref l),some (.int k),some (.int (sgn (jay k (pt ps 0) (pt ps 1) (pt ps 2)))),some (.int (ps.length:Nat)),some (.int (i:Int)),some (.ref g3),o6]) ⟨Same.refl _,fun j' h=>absurd h (Nat.not_lt_zero _),_,rfl⟩ ?_ ?_
  ·rintro j σ H5 hj ⟨s5,al5,o6,rfl⟩;have hj2:j+1<ps.length-1:=by omega
   have s35:=s4.trans s5;have s05:=s3.trans s35;have sp5:=hc.2.keep s05.t;have hm2:(i+(j+1)) % ps.length<ps.length:=xaR _ (by omega);obtain⟨c1,c2⟩:=sp5.get hm2;have ez:((i:Int)+(1+(j:Int))) % ((ps.length:Nat):Int)=(((i+(j+1)) % ps.length:Nat):Int):=by
    rw[Int.natCast_emod]
    congr 1
    omega
   walk_at "rf";rw[ez];refine⟨by omega,ixL (s05.seq kl) (jaF c1) ?_⟩;refine⟨g3,_,_,_,k,_,_,_,rfl,s5 _ _ e4,b4.keep s35,b2.keep s35,c2,k0,by omega,fun H6 s6=>?_⟩;try walk_at "rf"
   refine jcl (fun ce=>?_) fun ce=>?_
   ·refine⟨s5.trans s6,fun j' hj'=>?_,_,rfl⟩;by_cases cj:j'<j
    ·exact al5 j' cj
    ·have ej:j'=j:=by omega
     rw[ej];exact ce
   ·rcases q with ⟨rn,q⟩ | ⟨nr,q⟩
    ·exact absurd (rn i (j+1) hi2 (by omega) hj2) ce
    ·exact q _ (s05.trans s6)
  ·rintro σ H5 ⟨s5,al5,o6,rfl⟩;refine⟨s3.trans (s4.trans s5),fun i' j' hi' j1 j2=>?_,_,_,_,rfl⟩;by_cases ci:i'<i
   ·exact al i' j' ci j1 j2
   ·have ei:i'=i:=by omega
    subst ei;have z:=al5 (j'-1) (by omega);rw[show j'-1+1=j' by omega] at z;exact z
 ·rintro σ H3 ⟨s3,al,o4,o5,o6,rfl⟩;rcases q with ⟨_,q⟩ | ⟨nr,q⟩
  ·exact q _ s3
  ·exact absurd (fun i j hi j1 j2=>al i j (by simpa using hi) j1 j2) nr
def az (c:Nat):Bool:=decide (97<=c/\c<=122)
def nm (x:Str):Bool:=decide (1<=x.cps.size/\x.cps.size<=8)&&x.cps.toList.all az
def AZ (x:Str):Prop:=∀c∈x.cps.toList,97<=c/\c<=122
def Lo (x:Str):Prop:=∀c∈x.cps.toList,c<128
def abc:Str:=Str.ofString "abcdefghijklmnopqrstuvwxyz"
theorem jnz {x:Str} (h:Lo x):Asc x:=by
 unfold Asc;rw[Array.all_eq_true];intro i hi;exact decide_eq_true (h _ (by simp))
theorem AZ.lo {x:Str} (h:AZ x):Lo x:=fun c hc=>by have:=h c hc;omega
theorem AZ.nm {x:Str} (h:AZ x):nm x=decide (1<=x.cps.size/\x.cps.size<=8):=by
 unfold My.nm;have e:x.cps.toList.all az=true:=xaY.mpr fun c hc=>decide_eq_true (h c hc);rw[e,Bool.and_true]
theorem jnA {c:Nat} (h:abc.cps[i]?=some c):97<=c/\c<=122:=by
 have e:abc.cps.all az=true:=by decide +kernel
 rw[Array.all_eq_true] at e;obtain⟨hi,rfl⟩:=Array.getElem?_eq_some_iff.mp h;exact of_decide_eq_true (e i hi)
theorem jnB (c d:Nat):([c] < [d])=(c<d):=by
 simp [List.cons_lt_cons_iff]
theorem jld {x:Str} {j:Int} (h0:0<=j) (h1:j<=x.cps.size):(∀c∈(Txt.slice x none (some j)).cps.toList,c∈x.cps.toList)/\(Txt.slice x none (some j)).cps.size<=x.cps.size:=by
 have e:Txt.slice x none (some j)=_:=StrLaws.sliceText_to (x:=x) (j:=j) ⟨h0,by rw[Array.length_toList];exact h1⟩;rw[e];refine⟨fun c hc=>?_,?_⟩
 ·exact List.mem_of_mem_drop (List.mem_of_mem_take hc)
 ·rw[xai,xat,xaE,Array.length_toList];omega
def jle:Sp:=fun vs H Q _=>∃x:Str,vs=[.str x]/\Lo x/\x.cps.size<=900/\∀H',Same H H'->Q (.bl (nm x)) H'
theorem jmd (T:Tx K mg t1 t2) (F:At K mg "is_name" jcw ["text"] []):jap P w K mg base CX0 1 "is_name" ["text"] [] jle:=by
 refine F.ok jfa (fun vs H Q E h=>?_) (fun f cdv A outer s H vs Q E hr h=>?_)
 ·obtain⟨x,rfl,_⟩:=h;rfl
 obtain⟨x,rfl,hx,h9,q⟩:=h;have S:=jfa;refine⟨_,(jae (jaQ (PW.pt (jd4 (jcQ (jbR (jaz jet rfl T.m_isinstance boot_isinstance (jaa (pv 0) (jaa (jhS (v:=.ty "str") rfl T.m_str boot_str rfl) jac jah) jah)))) (jcP (jcQ (jgL jgi jgi jab (jaz jgM rfl T.m_len PySem.boot_len (jaa (pv 0) jac jah)) (jc5 rfl T.m_MOST_LETTERS T.r_MOST_LETTERS))))))
  (jag (jaq jcM))
  jax)
  (jag (jaq (jaz (jcT rfl) rfl T.m_all boot_all (jaa (jaU rfl (N':=["sign"]) (ix:=[]) ⟨rfl,rfl,by decide +kernel,by decide +kernel,by decide +kernel,(show ∀y:Str × NameKind,y∈_->y.2=NameKind.free->(jad jcw).names.lookup y.1=some .cell\/(jad jcw).names.lookup y.1=some .free from by decide +kernel),.nil⟩ (jkQ (pv 0)) (fun _ _ _ _=>jan (i:=0) (show (["sign"]:List Str).Nodup from by decide +kernel) rfl (Or.inl rfl)) (fun _ _ _ _=>ja4) (fun _ _ _ _=>(jjz jf1 jf1 jaC (pv 0) jaC))) jac jcr))))),?_⟩
 walk_at "rf";refine⟨_,.str x,_,rfl,?_⟩;rw[if_neg (by decide)];refine⟨x.cps.size,⟨xan (show x.length<=900 from h9) (by decide),rfl⟩,?_⟩;by_cases c1:1<=x.cps.size/\x.cps.size<=8
 ·rw[if_pos (by omega),if_pos (by omega)];refine⟨jnz hx,fun acc hacc=>?_⟩;refine jlG (fun c=>.bl (az c)) (by omega) hacc ?_ ?_
  ·intro c H3 R hc s3 hR;walk_at "rf";have e1:(Str.ofString "a").cps.toList=[97]:=by decide +kernel
   have e2:(Str.ofString "z").cps.toList=[122]:=by decide +kernel
   rw[e1];simp only[e2,jnB,List.toList_toArray];have q:=hR H3 (Same.refl _);unfold az at q;by_cases c2:c<97
   ·rw[decide_eq_false (by omega)] at q;rw[if_pos c2];exact q
   ·rw[if_neg c2];rw[show (!decide (122<c))=decide (97<=c/\c<=122) from by by_cases z:122<c<;>simp [z]<;>omega];exact q
  ·intro H1 s1 e1;refine⟨x.cps.toList.map az,by rw[xaW];exact SqL.of e1,?_⟩;have q:=q H1 s1;unfold nm at q;rw[decide_eq_true c1,Bool.true_and] at q;rw[List.all_map];exact q
 ·have q:=q H (Same.refl _);unfold nm at q;rw[decide_eq_false c1,Bool.false_and] at q;by_cases c2:(1:Int)<=(x.cps.size:Int)
  ·rw[if_pos c2,if_neg (by omega)];exact q
  ·rw[if_neg c2];exact q
section
open PySem PySem.W PySem.NumText PySem.Builtin.Str
def dec (n:Int):Str:=Str.ofString (toString n)
def sg (x:Str):List Nat:=x.cps.toList
theorem jeK {x y:Str} (h:sg x=sg y):x=y:=by
 obtain⟨a⟩:=x;obtain⟨b⟩:=y;exact congrArg Str.mk (Array.toList_inj.mp h)
theorem jaT (x:Str):(sg x).length=x.length:=Array.length_toList
theorem jbs (x y:Str):sg (x++y)=sg x++sg y:=Array.toList_append
def ds (m:Nat):List Nat:=(Nat.toDigits 10 m).map Char.toNat
theorem jck (m:Nat):sg (dec (m:Int))=ds m:=PySem.W.KIN.signs_num m
theorem jeL (m:Nat) (h:0<m):sg (dec (-(m:Int)))=45::ds m:=by
 obtain⟨k,rfl⟩:∃k,m=k+1:=⟨m-1,by omega⟩;have e:(-(((k+1:Nat)):Int))=Int.negSucc k:=rfl;unfold dec sg;rw[e,signs_ofString];show ("-"++Nat.repr (k+1)).toList.map Char.toNat=_;rw[String.toList_append,xal,Nat.toList_repr];rfl
theorem jeM (m:Nat):AllDigits (ds m):=fun c hc=>by
 obtain⟨ch,hch,e⟩:=xaA.mp hc;have r:=digit_range (Nat.isDigit_of_mem_toDigits (by decide) (by decide) hch);rw[<- e];exact r
theorem ji2 {m:Nat} (h:10<=m):ds m=ds (m / 10)++ds (m % 10):=by
 have hm:m % 10<10:=xaR m (by decide);have t:Nat.toDigits 10 (m / 10)++Nat.toDigits 10 (m % 10)=Nat.toDigits 10 (10*(m / 10)+m % 10):=Nat.toDigits_append_toDigits (by decide) (by omega) hm;rw[Nat.div_add_mod] at t;unfold ds;rw[<- t,xal]
theorem jhe {m:Nat} (h:m<10):ds m=[48+m]:=by
 have:m=0\/m=1\/m=2\/m=3\/m=4\/m=5\/m=6\/m=7\/m=8\/m=9:=by omega
 rcases this with rfl | rfl | rfl | rfl | rfl | rfl | rfl | rfl | rfl | rfl<;>decide
theorem jlf (m:Nat):digitsVal (ds m)=m:=PySem.W.KIN.val_back m
theorem jfe:∀(k m:Nat),1<=k->m<10^k->(ds m).length<=k
  | 0,_,h,_=>absurd h (by decide)
  | 1,m,_,h=>by rw[jhe (by simpa using h)];exact xae 1
  | k + 2, m, _, h => by
    by_cases c:m<10
    . rw[jhe c];simp
    . have h':m / 10<10^(k+1):=by
        rw[Nat.pow_succ] at h;exact Nat.div_lt_of_lt_mul (by rw[Nat.mul_comm];exact h)
      have:=jfe (k+1) (m / 10) (by omega) h';rw[ji2 (by omega),xaf,jhe (xaR m (by decide))];simp;omega
theorem jgx (m:Nat) (h:0<m):∃c r,ds m=c::r/\49<=c/\c<=57:=by
  induction m using Nat.strongRecOn with
  | _ m ih =>
    by_cases c:m<10
    . exact⟨48+m,[],jhe c,by omega,by omega⟩
    . obtain⟨d,r,e,h1,h2⟩:=ih (m / 10) (by omega) (by omega)
      exact⟨d,r++ds (m % 10),by rw[ji2 (by omega),e];rfl,h1,h2⟩
theorem jkk (m:Nat):ds m≠[]:=by
 by_cases h:0<m
 ·obtain⟨c,r,e,_⟩:=jgx m h;rw[e];exact xbd _ _
 ·have:m=0:=by omega
  subst this;decide
theorem jef (h:n.natAbs<10^30):PySem.intText? (dec n)=some n:=by
 by_cases c:0<=n
 ·obtain⟨m,rfl⟩:=xaZ c;have h':m<10^30:=h;have e:=intText_digits (x:=dec (m:Int)) (by show AllDigits (sg (dec (m:Int)));rw[jck];exact jeM m) (by show sg (dec (m:Int))≠[];rw[jck];exact jkk m) (by rw[<- jaT,jck];exact xan (jfe 30 m (by decide) h') (by decide));rw[e];show some ((digitsVal (sg (dec (m:Int))):Nat):Int)=_;rw[jck,jlf]
 ·obtain⟨m,rfl⟩:∃m:Nat,n=-(m:Int):=⟨n.natAbs,by omega⟩;have m0:0<m:=by omega
  have h':m<10^30:=by rwa [xbH] at h
  have e:=intText_neg (x:=dec (-(m:Int))) (cs:=ds m) (jeL m m0) (jeM m) (jkk m) (by rw[<- jaT,jeL m m0,xam];exact xan (Nat.succ_le_succ (jfe 30 m (by decide) h')) (by decide));rw[e,jlf]
theorem jme (h:n.natAbs<10^30):(dec n).length<=31:=by
 rw[<- jaT];by_cases c:0<=n
 ·obtain⟨m,rfl⟩:=xaZ c;rw[jck];exact xan (jfe 30 m (by decide) h) (by decide)
 ·obtain⟨m,rfl⟩:∃m:Nat,n=-(m:Int):=⟨n.natAbs,by omega⟩;rw[jeL m (by omega),xam];exact Nat.succ_le_succ (jfe 30 m (by decide) (by rwa [xbH] at h))
theorem jb1 {c:Nat} (h:c∈sg (dec n)):c=45\/(48<=c/\c<=57):=by
 by_cases z:0<=n
 ·obtain⟨m,rfl⟩:=xaZ z;rw[jck] at h;exact .inr (jeM m c h)
 ·obtain⟨m,rfl⟩:∃m:Nat,n=-(m:Int):=⟨n.natAbs,by omega⟩;rw[jeL m (by omega)] at h;rcases xac.mp h with h | h
  ·exact .inl h
  ·exact .inr (jeM m c h)
theorem jmf {α:Type} (p:α->Bool):∀{l:List α},(l.takeWhile p).length=0->l.dropWhile p=l
  | [],_=>rfl
  | a :: r, h => by
    by_cases c:p a=true
    . rw[xbE,if_pos c] at h;cases h
    . rw[xbc,if_neg c]
theorem jgy {α:Type} (p:α->Bool):∀(l:List α),l.drop (l.takeWhile p).length=l.dropWhile p
  | []=>rfl
  | a :: r => by
    by_cases c:p a=true
    . rw[xbE,if_pos c,xbc,if_pos c,xam,List.drop_succ_cons,jgy p r]
    . rw[xbE,if_neg c,xbc,if_neg c];rfl
theorem ji3 (x y:Str):sg (Txt.lstripChars x y)=(sg x).dropWhile y.cps.contains:=by
 unfold Txt.lstripChars Txt.stripBy;split
 ·rename_i h
  simp only[stripSame,stripLo,if_true,xaJ,beq_iff_eq] at h;exact (jmf _ h.1).symm
 ·unfold PySem.stripped;have e:=StrLaws.strSub_toList x (stripLo y.cps.contains true x) (stripHi y.cps.contains false x (stripLo y.cps.contains true x));refine Eq.trans e ?_;have e1:stripHi y.cps.contains false x (stripLo y.cps.contains true x)=x.cps.toList.length:=by unfold stripHi;simp [Str.length]
  have e2:stripLo y.cps.contains true x=(x.cps.toList.takeWhile y.cps.contains).length:=by unfold stripLo;simp
  rw[e1,e2,jgy];refine xaM ?_;rw[<- jgy,xaE];exact xae _
theorem jhf {x:Str} {c:Nat} {r:List Nat} (h:sg x=c::r) (h1:48<=c) (i:Nat):sg (Txt.zfill x i)=List.replicate (i-x.length) 48++sg x:=by
 unfold Txt.zfill;split
 ·rename_i hi
  have:i-x.length=0:=by omega
  rw[this];rfl
 ·have h0:x.cps[0]?=some c:=by
   have:x.cps.toList[0]?=some c:=by show (sg x)[0]?=_;rw[h];rfl
   simpa using this
  unfold zfilled;rw[h0];have e:(match some c with | some 43 | some 45=>strSub x 0 1++padded (strSub x 1 x.length) ((i:Int).toNat-x.length) 0 48 | _=>padded x ((i:Int).toNat-x.length) 0 48)=padded x ((i:Int).toNat-x.length) 0 48:=by
   split
   ·rename_i h2;cases h2;omega
   ·rename_i h2;cases h2;omega
   ·rfl
  refine Eq.trans (congrArg sg e) ?_;unfold padded sg;simp
theorem jkl {m:Nat} (h:0<m):Txt.lstripChars (Txt.zfill (dec (m:Int)) ((64:Nat):Int)) ⟨#[48]⟩=dec (m:Int):=by
  obtain⟨c,r,e,h1,h2⟩:=jgx m h;refine jeK ?_;rw[ji3,jhf (c:=c) (r:=r) (by rw[jck];exact e) (by omega),jck];generalize 64-(dec (m:Int)).length=k;have p1:∀k,(List.replicate k 48++ds m).dropWhile (#[48]:Array Nat).contains=(ds m).dropWhile (#[48]:Array Nat).contains:=fun k=>by
    induction k with
    | zero=>rfl
    | succ k ih =>
      rw[List.replicate_succ,List.cons_append,xbc,if_pos (by simp)];exact ih
  rw[p1,e,xbc,if_neg];simp;omega
end
section
open PySem PySem.W PySem.NumText PySem.Builtin.Str PySem.StrLaws
theorem at_one {x:Str} {c:Nat}:StrLaws.At x ⟨#[c]⟩ x.length i↔(sg x)[i]?=some c:=subAt_one x c i
theorem jhO (x:Str) (c:Nat):Txt.startswith x ⟨#[c]⟩=decide ((sg x)[0]?=some c):=by
  have h:=subAt_one x c 0;unfold Txt.startswith;by_cases z:(sg x)[0]?=some c
  . have:=h.mpr z
    rw[decide_eq_true z,this.2];simpa using this.1
  . rw[decide_eq_false z]
    cases e:(decide (0+(⟨#[c]⟩:Str).length<=x.length)&&subAt x ⟨#[c]⟩ 0) with
    | false=>rfl
    | true =>
      rw[xaJ,decide_eq_true_eq] at e;exact absurd (h.mp e) z
theorem jmg {x:Str} {c:Nat} (h:c∉sg x):Txt.partition x ⟨#[c]⟩=(x,Str.empty,Str.empty):=by
 unfold Txt.partition;rcases occ_head x ⟨#[c]⟩ 1 (xae 1) with ⟨e,_⟩ | ⟨i,r,e,h1,_⟩
 ·rw[e]
 ·exact absurd (xas (at_one.mp h1)) h
theorem jmh {a b:Str} {c:Nat} (h:c∉sg a):Txt.partition (a++⟨#[c]⟩++b) ⟨#[c]⟩=(a,⟨#[c]⟩,b):=by
 have es:sg (a++⟨#[c]⟩++b)=sg a++c::sg b:=by rw[jbs,jbs,List.append_assoc];rfl
 have hm:(sg (a++⟨#[c]⟩++b))[(sg a).length]?=some c:=by rw[es,xaI (xae _),Nat.sub_self];rfl
 unfold Txt.partition;rcases occ_head (a++⟨#[c]⟩++b) ⟨#[c]⟩ 1 (xae 1) with ⟨_,n⟩ | ⟨i,r,e,h1,h2⟩
 ·exact absurd (at_one.mpr hm) (n _)
 ·have h1':=at_one.mp h1;have ie:i=(sg a).length:=by
   rcases Nat.lt_trichotomy i (sg a).length with z | z | z
   ·rw[es,xaO z] at h1';exact absurd (xas h1') h
   ·exact z
   ·exact absurd (at_one.mpr hm) (h2 _ z)
  rw[e];subst ie;have s1:strSub (a++⟨#[c]⟩++b) 0 (sg a).length=a:=jeK (by
   refine (strSub_toList _ _ _).trans ?_;show ((sg (a++⟨#[c]⟩++b)).drop 0).take _=_;rw[es,List.drop_zero,Nat.sub_zero,List.take_left])
  have s2:strSub (a++⟨#[c]⟩++b) ((sg a).length+(⟨#[c]⟩:Str).length) (a++⟨#[c]⟩++b).length=b:=jeK (by
   refine (strSub_toList _ _ _).trans ?_;show ((sg (a++⟨#[c]⟩++b)).drop ((sg a).length+1)).take _=_;have e2:sg a++c::sg b=(sg a++[c])++sg b:=by simp
   have e3:(sg a).length+1=(sg a++[c]).length:=by simp
   rw[es,e2,e3,List.drop_left];refine xaM ?_;rw[<- jaT,es,xaf,xam];show _<=_+(_+1)-((sg a).length+1);omega)
  show (strSub _ 0 (sg a).length,_,strSub _ ((sg a).length+(⟨#[c]⟩:Str).length) _)=_;rw[s1,s2]
theorem jcI (z x:Str):∀r:List Str,sg (Str.join z (x::r))=sg x++(r.map fun y=>sg z++sg y).flatten
  | []=>by simp [Str.join]
  | y :: r => by
    show sg (x++z++Str.join z (y::r))=_;rw[jbs,jbs,jcI z y r];simp
theorem ji4 {c:Nat}:∀(l m:List (List Nat)) (a b:List Nat),c∉a->c∉b->(∀x∈l,c∉x)->(∀x∈m,c∉x) ->
    a++(l.map fun y=>c::y).flatten=b++(m.map fun y=>c::y).flatten->a=b/\l=m:=by
  have key:∀(a b s t:List Nat),c∉a->c∉b->(s=[]\/∃s',s=c::s')->(t=[]\/∃t',t=c::t')->a++s=b++t->a=b/\s=t:=by
    intro a;induction a with
    | nil =>
      intro b s t _ hb hs ht e;cases b with
      | nil=>exact⟨rfl,e⟩
      | cons d b =>
        rcases hs with rfl | ⟨s',rfl⟩
        . cases e
        . have:c=d:=xa0 e
          subst this;exact absurd xav hb
    | cons d a ih =>
      intro b s t ha hb hs ht e;cases b with
      | nil =>
        rcases ht with rfl | ⟨t',rfl⟩
        . cases e
        . have:d=c:=xa0 e
          subst this;exact absurd xav ha
      | cons d' b =>
        have h1:d=d':=xa0 e;obtain⟨h2,h3⟩:=ih b s t (fun z=>ha (xaq _ z)) (fun z=>hb (xaq _ z)) hs ht (xbt e);exact⟨by rw[h1,h2],h3⟩
  have fl:∀l:List (List Nat),(l.map fun y=>c::y).flatten=[]\/∃s',(l.map fun y=>c::y).flatten=c::s':=fun l=>by
    cases l with
    | nil=>exact .inl rfl
    | cons x r=>exact .inr ⟨_,rfl⟩
  intro l;induction l with
  | nil =>
    intro m a b ha hb hl hm e;obtain⟨h1,h2⟩:=key a b _ _ ha hb (fl []) (fl m) e;cases m with
    | nil=>exact⟨h1,rfl⟩
    | cons y m=>cases h2
  | cons x l ih =>
    intro m a b ha hb hl hm e;obtain⟨h1,h2⟩:=key a b _ _ ha hb (fl _) (fl m) e;cases m with
    | nil=>cases h2
    | cons y m =>
      have h3:x++(l.map fun y=>c::y).flatten=y++(m.map fun y=>c::y).flatten:=xbt h2;obtain⟨h4,h5⟩:=ih m x y (hl x xav) (hm y xav) (fun z hz=>hl z (xaq _ hz)) (fun z hz=>hm z (xaq _ hz)) h3;exact⟨h1,by rw[h4,h5]⟩
theorem jkm (x:Str) (c:Nat):Txt.split x ⟨#[c]⟩≠[]:=fun e=>by
 have h1:=join_split x ⟨#[c]⟩;rw[e] at h1;have h2:x=Str.empty:=h1.symm;subst h2
 revert e
 unfold Txt.split;rw[if_pos (by rw[decide_eq_true (show Str.empty.length<(⟨#[c]⟩:Str).length from Nat.zero_lt_one)];rfl)];exact xbd _ _
theorem jdM {c:Nat} {x:Str} {r:List Str} (hx:c∉sg x) (hr:∀y∈r,c∉sg y):Txt.split (Str.join ⟨#[c]⟩ (x::r)) ⟨#[c]⟩=x::r:=by
  have hf:=split_free (Str.join ⟨#[c]⟩ (x::r)) c;have hj:=join_split (Str.join ⟨#[c]⟩ (x::r)) ⟨#[c]⟩;have hn:=jkm (Str.join ⟨#[c]⟩ (x::r)) c;generalize Txt.split (Str.join ⟨#[c]⟩ (x::r)) ⟨#[c]⟩=p at hf hj hn |-
  cases p with
  | nil=>exact absurd rfl hn
  | cons y s =>
    have e:=congrArg sg hj;rw[jcI,jcI] at e;have mm:∀t:List Str,(t.map fun y=>sg (⟨#[c]⟩:Str)++sg y)=(t.map sg).map fun y=>c::y:=fun t=>by rw[xaW];rfl
    rw[mm,mm] at e;obtain⟨h1,h2⟩:=ji4 (s.map sg) (r.map sg) (sg y) (sg x) (hf y xav) hx (fun z hz=>by obtain⟨w,hw,rfl⟩:=xaA.mp hz;exact hf w (xaq _ hw)) (fun z hz=>by obtain⟨w,hw,rfl⟩:=xaA.mp hz;exact hr w hw) e;have h3:s=r:=by
      have inj:∀(s r:List Str),s.map sg=r.map sg->s=r:=fun s=>by
        induction s with
        | nil => intro r h; cases r with
          | nil=>rfl
          | cons a r=>cases h
        | cons a s ih => intro r h; cases r with
          | nil=>cases h
          | cons b r =>
            rw[xaT,xaT] at h;rw[jeK (xa0 h),ih r (xbt h)]
      exact inj s r h2
    rw[jeK h1,h3]
end
def TB (n:Int):Prop:=n.natAbs<10^30
def jnC:Sp:=fun vs H Q _=>∃(n:Int) (L:Addr),vs=[.int n,.ref L,.int 0]/\TB n/\Q (.str (Txt.zfill (dec n) 64)) H
def jgz:Sp:=fun vs H Q _=>∃n:Int,vs=[.int n]/\TB n/\∀H',Same H H'->Q (.str (dec n)) H'
theorem TB.st (h:TB n):n.natAbs<2^1900:=xah h (by decide +kernel)
theorem TB.fit (h:TB n):Fit n:=Bd.fit (n:=100) (xah h (by decide +kernel))
theorem TB.len (h:TB n):(dec n).length<=31:=jme h
theorem jbq {n:Nat} (h:n<1000):n<=sizeLine:=xa1 (jaH h)
theorem ji5 {x:Str} {c:Nat} {r:List Nat} (h:sg x=c::r) (h1:48<=c) (hl:x.length<=64):(Txt.zfill x 64).length<=64:=by
 have e:=congrArg List.length (jhf h h1 64);rw[jaT,xaf,xaQ,jaT] at e;have e':(Txt.zfill x ((64:Nat):Int)).length=(Txt.zfill x 64).length:=rfl;omega
theorem jmi:Str.ofString "/"=⟨#[47]⟩:=by decide +kernel
theorem jmG:Str.ofString ","=⟨#[44]⟩:=by decide +kernel
theorem c_mi:Str.ofString "-"=⟨#[45]⟩:=by decide +kernel
theorem jnD:Str.ofString "0"=⟨#[48]⟩:=by decide +kernel
theorem dec0:dec 0=⟨#[48]⟩:=by decide +kernel
theorem jnE (T:Tx K mg t1 t2) (F:At K mg "padded_figures" jbB ["number","powers","place"] []):jap P w K mg base CX0 1 "padded_figures" ["number","powers","place"] [] jnC:=by
 refine F.ok jb4 (fun vs H Q E h=>?_) (fun f cdv A outer s H vs Q E hr h=>?_)
 ·obtain⟨n,L,rfl,_⟩:=h;rfl
 obtain⟨n,L,rfl,hn,q⟩:=h;have S:=jb4;refine⟨_,(jae (jaQ (jat jcN (pv 2) jab (jaw _))
  (jag (jaq (jb2 PySem.F.plainAttrs_str PySem.F.slot_str_zfill PySem.F.type_str_zfill jjU (jaE jcs rfl T.m_str boot_str (jaa (pv 0) jac jah)) (jaa (jc5 rfl T.m_PIECE_FIGURES T.r_PIECE_FIGURES) jac jah))))
  jax)
  jbj),?_⟩
 try walk_at "rf"
 exact⟨hn.st,by decide +kernel,q⟩
theorem jkn (T:Tx K mg t1 t2) (F:At K mg "whole_text" jcx ["number"] []) (dL:jap P w K mg base CX0 1 "padded_figures" ["number","powers","place"] [] jnC):jap P w K mg base CX0 2 "whole_text" ["number"] [] jgz:=by
 refine F.ok jds (fun vs H Q E h=>?_) (fun f cdv A outer s H vs Q E hr h=>?_)
 ·obtain⟨n,rfl,_⟩:=h;rfl
 obtain⟨n,rfl,hn,q⟩:=h;have S:=jds;refine⟨_,(jae (jas (i:=1) S.nd rfl (Or.inl rfl) (jaV (jaa (jao jgJ jab jab) jac jaX)))
  (jae (jea PassesOwn.never (jat jgi (jar ix_list (pv 1) (jfJ jdO jab)) (jaz jb9 rfl T.m_abs boot_abs (jaa (pv 0) jac jah)) (jaw _)) jbj)
  (jae (jas (i:=2) S.nd rfl (Or.inl rfl) (jb2 PySem.F.plainAttrs_str PySem.F.slot_str_lstrip PySem.F.type_str_lstrip jhI (jai dL hr.m rfl jav (jaa (jaz jb9 rfl T.m_abs boot_abs (jaa (pv 0) jac jah)) (jaa (pv 1) (jaa (jao jbF (jaz jaB rfl T.m_len PySem.boot_len (jaa (pv 1) jac jah)) jab) jac jaX) jah) jaJ)) (jaa jaC jac jaj)))
  (jae (jaQ (jat jcN (pv 0) jab (jaw _))
  (jag (jaq jaC))
  jax)
  (jag (jaq (jd9 (jat jfK (pv 0) jab (jaw _)) (pv 2) (jao jaP jaC (pv 2))))))))),?_⟩
 try walk_at "rf"
 refine⟨⟨by decide,by decide,by decide +kernel⟩,by decide,fun p hp=>?_⟩;refine ja6 hp fun H1 s1 e1=>?_;have k1:SqL K H1 p [V.int (10^Int.toNat 64)]:=SqL.of e1;have ha:(if n<0 then -n else n)=((n.natAbs:Nat):Int):=by split<;>omega
 have hb:TB ((n.natAbs:Nat):Int):=hn;have hbig:¬(10:Int)^Int.toNat 64<=((n.natAbs:Nat):Int):=by
  have h1:n.natAbs<10^64:=xah hn (by decide +kernel);have h2:((10:Int)^Int.toNat 64)=((10^64:Nat):Int):=by decide +kernel
  rw[h2];omega
 refine⟨fun _ σ J=>σ=[some (.int n),some (.ref p),none]/\J=H1,⟨0,rfl,rfl⟩,?_⟩;rintro _ σ J ⟨rfl,rfl⟩;try walk_at "rf"
 refine ixL k1 (i:=-1) rfl ⟨_,rfl,?_⟩;rw[ha,if_neg (by simpa using hbig)];try walk_at "rf"
 refine⟨_,.inl k1,_,p,rfl,hb,trivial,?_⟩;have zl:(Txt.zfill (dec ((n.natAbs:Nat):Int)) 64).length<=64:=by
  obtain⟨c,r,e⟩:=List.exists_cons_of_ne_nil (jkk n.natAbs);have hd:=jeM n.natAbs c (by rw[e];exact xav);exact ji5 (c:=c) (r:=r) (by rw[jck];exact e) hd.1 (xan hb.len (by decide))
 refine⟨_,rfl,jbq (by omega),?_⟩;rw[jnD];refine jcl (fun h0=>?_) fun h0=>?_
 ·have z:=q _ s1;rw[h0,dec0] at z;exact z
 have own:=jkl (m:=n.natAbs) (by omega);have own':Txt.lstripChars (Txt.zfill (dec ((n.natAbs:Nat):Int)) 64) ⟨#[48]⟩=dec ((n.natAbs:Nat):Int):=own;rw[own'];simp only[L2.tIf];try walk_at "rf"
 refine jcl (fun h1=>?_) fun h1=>?_
 ·have e:((n.natAbs:Nat):Int)=n:=by
   have:0<n:=by simpa using h1
   omega
  rw[e];exact q _ s1
 ·have h1':¬0<n:=by simpa using h1
  have hl:=hb.len;refine⟨jbq (by rw[c_mi];show 1+_<1000;omega),?_⟩;have e:Str.ofString "-"++dec ((n.natAbs:Nat):Int)=dec n:=jeK (by
   have en:n=-((n.natAbs:Nat):Int):=by omega
   have z:=jeL n.natAbs (by omega);rw[<- en] at z;rw[z,jbs,c_mi,jck];rfl)
  rw[e];exact q _ s1
def sl:Str:=⟨#[47]⟩
def cm:Str:=⟨#[44]⟩
def jd7 (x:Str) (b:Int):Str:=if b=1 then x else x++sl++dec b
def jlg:Sp:=fun vs H Q _=>∃(x:Str) (b:Int),vs=[.str x,.int b]/\x.length<=200/\TB b/\∀H',Same H H'->Q (.str (jd7 x b)) H'
theorem jmj (T:Tx K mg t1 t2) (F:At K mg "over_bottom" jce ["text","bottom"] []) (dq:jap P w K mg base CX0 2 "whole_text" ["number"] [] jgz):jap P w K mg base CX0 3 "over_bottom" ["text","bottom"] [] jlg:=by
 refine F.ok jcX (fun vs H Q E h=>?_) (fun f cdv A outer s H vs Q E hr h=>?_)
 ·obtain⟨x,b,rfl,_⟩:=h;rfl
 obtain⟨x,b,rfl,hx,hb,q⟩:=h;have S:=jcX;refine⟨_,(jag (jaq (jd9 (jat jcN (pv 1) jab (jaw _)) (pv 0) (jao jaP (jao jaP (pv 0) jaC) (jai dq hr.m rfl jav (jaa (pv 1) jac jah)))))),?_⟩;try walk_at "rf"
 simp only[L2.tIf];try walk_at "rf"
 have z:=q;unfold jd7 at z;refine jcl (fun h=>?_) fun h=>?_
 ·have h':b=1:=by simpa using h
  have z:=z H (fun _ _ h=>h);rw[if_pos h'] at z;exact z
 ·have h':¬b=1:=by simpa using h
  have hl:=hb.len;refine⟨jbq (by rw[jmi];show x.length+1<1000;omega),b,rfl,hb,fun H' s'=>⟨_,rfl,?_,?_⟩⟩
  ·have e:(x++Str.ofString "/").length=x.length+1:=by rw[jmi,<- jaT,jbs,xaf,jaT];rfl
   exact jbq (by rw[e];omega)
  ·have z:=z H' s';rw[if_neg h'] at z;rw[jmi];exact z
def tx3 (a b c:Int):Str:=Str.join cm [dec a,dec b,dec c]
def jmH:Sp:=fun vs H Q _=>∃(r:Addr) (a b c d:Int),vs=[.ref r]/\H r=some (.tup [.int a,.int b,.int c,.int d])/\TB a/\TB b/\TB c/\TB d/\1<=d/\∀H',Same H H'->Q (.str (jd7 (tx3 a b c) d)) H'
def fdec (v:V):V:=match v with | .int n=>.str (dec n) | _=>v
theorem ji6 (a b c:Int):Txt.join (Str.ofString ",") [dec a,dec b,dec c]=tx3 a b c:=by
 unfold tx3 Txt.join;rw[StrLaws.glued_eq_join,jmG];rfl
theorem jmk {x y z:Str} (hx:x.length<=31) (hy:y.length<=31) (hz:z.length<=31):JoinOk (Str.ofString ",") [x,y,z]=true:=by
 unfold JoinOk;rw[StrLaws.joinFits (B:=31) (fun w hw=>?_) (by rw[jmG];show 3*31+3*1<=16777216;decide)]
 ·rfl
 ·rcases xac.mp hw with rfl | hw
  ·exact hx
  rcases xac.mp hw with rfl | hw
  ·exact hy
  rw[xak] at hw;subst hw;exact hz
theorem jhg (a b c:Int):sg (tx3 a b c)=sg (dec a)++44::(sg (dec b)++44::sg (dec c)):=by
 unfold tx3;rw[jcI];show sg (dec a)++((44::sg (dec b))++((44::sg (dec c))++[]))=_;simp
theorem jeN {b:Int} (ha:TB a) (hb:TB b) (hc:TB c):(tx3 a b c).length<=200:=by
 rw[<- jaT,jhg,xaf,xam,xaf,xam,jaT,jaT,jaT];have:=ha.len;have:=hb.len;have:=hc.len;omega
theorem ok_st (T:Tx K mg t1 t2) (F:At K mg "spot_text" jbK ["spot"] []) (dR:jap P w K mg base CX0 3 "over_bottom" ["text","bottom"] [] jlg) (dq:jap P w K mg base CX0 2 "whole_text" ["number"] [] jgz):jap P w K mg base CX0 4 "spot_text" ["spot"] [] jmH:=by
 refine F.ok jdT (fun vs H Q E h=>?_) (fun f cdv A outer s H vs Q E hr h=>?_)
 ·obtain⟨r,a,b,c,d,rfl,_⟩:=h;rfl
 obtain⟨r,a,b,c,d,rfl,e0,ha,hb,hc,hd,d1,q⟩:=h;have S:=jdT;refine⟨_,(jag (jaq (jai dR hr.m rfl jav (jaa (jb2 PySem.F.plainAttrs_str PySem.F.slot_str_join PySem.F.type_str_join jeu jaC (jaa (jaU rfl (N':=["number"]) (ix:=[]) ⟨rfl,rfl,by decide +kernel,by decide +kernel,by decide +kernel,(show ∀y:Str × NameKind,y∈_->y.2=NameKind.free->(jad jbK).names.lookup y.1=some .cell\/(jad jbK).names.lookup y.1=some .free from by decide +kernel),.nil⟩ (jeX (ja5 jkF (pv 0) jbe (ja7 jab))) (fun _ _ _ _=>jan (i:=0) (show (["number"]:List Str).Nodup from by decide +kernel) rfl (Or.inl rfl)) (fun _ _ _ _=>ja4) (fun _ _ _ _=>(jai dq hr.m rfl jav (jaa (pv 0) jac jah)))) jac jcr)) (jaa (jar jau (pv 0) jab) jac jaD) jaJ)))),?_⟩;have k0:SqT K H r [.int a,.int b,.int c,.int d]:=SqT.of e0;try walk_at "rf"
 refine⟨r,_,rfl,k0,show ¬(HT.sIx 4 0 none=0/\HT.sIx 4 4 (some 3)=4) by decide,fun p hp=>?_⟩;have ec:jeR [V.int a,V.int b,V.int c,V.int d] none (some 3)=[V.int a,V.int b,V.int c]:=rfl;rw[ec];refine ja6 hp fun H1 s1 e1=>?_;have k1:SqT K H1 p [V.int a,V.int b,V.int c]:=SqT.of e1;refine⟨p,rfl,⟨_,k1⟩,fun acc hacc=>jm9 (zs:=[V.int a,V.int b,V.int c]) fdec (show 3<1000 by decide) hacc k1 (fun z0 H3 R hz0 s3' hR=>?_) fun J8 s12 e12=>?_⟩
 ·walk_at "rf";rcases xac.mp hz0 with rfl | hz0
  ·exact⟨a,rfl,ha,hR⟩
  rcases xac.mp hz0 with rfl | hz0
  ·exact⟨b,rfl,hb,hR⟩
  rw[xak] at hz0;subst hz0;exact⟨c,rfl,hc,hR⟩
 have la:=ha.len;have lb:=hb.len;have lc:=hc.len;have hj:JoinOk (Str.ofString ",") [dec a,dec b,dec c]=true:=jmk la lb lc;refine⟨[dec a,dec b,dec c],SqL.of e12,hj,ixT ((s1.trans s12).tup k0) (i:=3) rfl ⟨_,d,rfl,?_,hd,fun H2 s2=>?_⟩⟩
 ·have e:(Txt.join (Str.ofString ",") [dec a,dec b,dec c]).length=(tx3 a b c).length:=congrArg Str.length (ji6 a b c);rw[e];exact jeN ha hb hc
 ·rw[ji6];exact q _ ((s1.trans s12).trans s2)
def spRW:Sp:=fun vs H Q _=>∃n:Int,vs=[.str (dec n)]/\TB n/\∀H',Same H H'->Q (.int n) H'
theorem jhP {x:Str} {c:Nat} {r:List Nat} (h:sg x=c::r):sg (Txt.slice x (some 1) none)=r:=by
 have hl:(1:Int)<=x.cps.toList.length:=by
  have:=congrArg List.length h;rw[xam] at this;show (1:Int)<=(sg x).length;omega
 have e:Txt.slice x (some 1) none=_:=StrLaws.sliceText_from (x:=x) (i:=1) ⟨by decide,hl⟩;rw[e];show (((sg x).drop 1).take (((sg x).length:Int)-1).toNat)=r;rw[h];show r.take _=r;refine xaM ?_;rw[xam];omega
theorem jlh (hn:TB n) {f:Str} (hf:sg f=ds n.natAbs):1<=f.length/\f.length<=30/\Asc f/\(∀c∈f.cps.toList,48<=c/\c<=57)/\∃c,f.cps[0]?=some c/\(c=48->n=0):=by
 have h1:=jfe 30 n.natAbs (by decide) hn;have hd:=jeM n.natAbs;obtain⟨c,r,e⟩:=List.exists_cons_of_ne_nil (jkk n.natAbs);have hl:f.length=(ds n.natAbs).length:=by rw[<- hf,jaT]
 have hm:∀c∈f.cps.toList,48<=c/\c<=57:=fun c hc=>hd c (by rw[<- hf];exact hc);refine⟨by rw[hl,e,xam];omega,by rw[hl];exact h1,?_,hm,c,?_,fun h48=>?_⟩
 ·unfold Asc;rw[Array.all_eq_true_iff_forall_mem];intro c hc;have:=hm c (by simpa using hc);exact decide_eq_true (by omega)
 ·have:f.cps.toList[0]?=some c:=by show (sg f)[0]?=_;rw[hf,e];rfl
  simpa using this
 ·apply xap;intro h0;obtain⟨c',r',e',h49,_⟩:=jgx n.natAbs (by omega);rw[e] at e';have:=xa0 e';omega
theorem ji7 {c:Nat} (h:48<=c/\c<=57):(!(Builtin.Str.occurrences (Str.ofString "0123456789") ⟨#[c]⟩ 0 (Str.ofString "0123456789").length 1).isEmpty)=true:=by
 rw[StrLaws.found_one];have e:(Str.ofString "0123456789").cps.toList=[48,49,50,51,52,53,54,55,56,57]:=by decide +kernel
 rw[e];have:c=48\/c=49\/c=50\/c=51\/c=52\/c=53\/c=54\/c=55\/c=56\/c=57:=by omega
 rcases this with rfl | rfl | rfl | rfl | rfl | rfl | rfl | rfl | rfl | rfl<;>decide
theorem ok_rw (T:Tx K mg t1 t2) (F:At K mg "read_whole" jbw ["text"] []):jap P w K mg base CX0 1 "read_whole" ["text"] [] spRW:=by
 refine F.ok jdt (fun vs H Q E h=>?_) (fun f cdv A outer s H vs Q E hr h=>?_)
 ·obtain⟨n,rfl,_⟩:=h;rfl
 obtain⟨n,rfl,hn,q⟩:=h;have S:=jdt;refine⟨_,(jae (jas (i:=1) S.nd rfl (Or.inl rfl) (jd9 (jbR (jb2 PySem.F.plainAttrs_str PySem.F.slot_str_startswith PySem.F.type_str_startswith jiD (pv 0) (jaa jaC jac jaj))) (jf2 (pv 0) (ja7 jab) jbe) (pv 0)))
  (jae (jaQ (PW.pt (jd4 (jcQ (jgL jgi jgi jab (jaz jgM rfl T.m_len PySem.boot_len (jaa (pv 1) jac jah)) (jc5 rfl T.m_MOST_FIGURES T.r_MOST_FIGURES))) (jcP (jcQ (jbR (jaz (jcT rfl) rfl T.m_all boot_all (jaa (jaU rfl (N':=["sign"]) (ix:=[]) ⟨rfl,rfl,by decide +kernel,by decide +kernel,by decide +kernel,(show ∀y:Str × NameKind,y∈_->y.2=NameKind.free->(jad jbw).names.lookup y.1=some .cell\/(jad jbw).names.lookup y.1=some .free from by decide +kernel),.nil⟩ (jkQ (pv 1)) (fun _ _ _ _=>jan (i:=0) (show (["sign"]:List Str).Nodup from by decide +kernel) rfl (Or.inl rfl)) (fun _ _ _ _=>ja4) (fun _ _ _ _=>(jb8 jh2 (pv 0) (jc5 rfl T.m_FIGURES T.r_FIGURES) rfl))) jac jcr)))))))
  jbj
  jax)
  (jae (jaQ (PW.pt (jhU (jat jcN (jek (pv 1) jab (fun _ _=>rfl)) jaC (jaw _)) (jhT (jat jcn (pv 0) jaC (jaw _)))))
  jbj
  jax)
  (jag (jaq (jaE jiE rfl T.m_int boot_int (jaa (pv 0) jac jah))))))),?_⟩
 try walk_at "rf"
 simp only[L2.tIf];try walk_at "rf"
 rw[c_mi,jhO];refine jcl (fun c=>?_) fun c=>?_
 ·have c':=of_decide_eq_true c;have n0:n<0:=by
   apply xap;intro h;obtain⟨m,rfl⟩:=xaZ (show 0<=n by omega);rw[jck] at c';have:=jeM m _ (xas c');omega
  have en:n=-((n.natAbs:Nat):Int):=by omega
  have es:sg (dec n)=45::ds n.natAbs:=by
   have z:=jeL n.natAbs (by omega);rw[<- en] at z;exact z
  have hf:sg (Txt.slice (dec n) (some 1) none)=ds n.natAbs:=jhP es;refine⟨_,rfl,jbq (by have:=hn.len;omega),.inr ⟨by simp,rfl⟩,?_⟩;generalize Txt.slice (dec n) (some 1) none=f at hf |-
  obtain⟨g1,g2,g3,g4,c0,g5,g6⟩:=jlh hn hf;refine⟨_,⟨jbq (by omega),rfl⟩,?_⟩;rw[if_pos (by omega),if_pos (by omega)];refine⟨_,rfl,g3,fun acc hacc=>jlG (fun _=>.bl true) (show Array.size _<1000 from xaU g2 (by decide)) hacc (fun ch H3 R hch s3' hR=>?_) fun J8 s12 e12=>?_⟩
  ·walk_at "rf";rw[ji7 (g4 ch hch)];exact hR _ (fun _ _ h=>h)
  have e13:f.cps.toList.map (fun _=>V.bl true)=(f.cps.toList.map fun _=>true).map V.bl:=by rw[xaW];rfl
  rw[e13] at e12;refine⟨_,SqL.of e12,?_⟩;have al:(f.cps.toList.map fun _=>true).all id=true:=by simp
  rw[al,if_neg (by decide)];refine⟨_,rfl,Int.le_refl 0,by decide,by omega,c0,g5,?_⟩;refine jcl (fun z=>?_) fun z=>?_
  ·rw[jnD] at z;have z0:n=0:=g6 (by simpa using z);rw[if_pos (by rw[z0,dec0,jnD])];exact⟨n,jef hn,xan hn.len (by decide),q _ s12⟩
  ·exact⟨n,jef hn,xan hn.len (by decide),q _ s12⟩
 ·have c':¬(sg (dec n))[0]?=some 45:=fun h=>c (decide_eq_true h);have n0:0<=n:=by
   apply xap;intro h;have en:n=-((n.natAbs:Nat):Int):=by omega
   have z:=jeL n.natAbs (by omega);rw[<- en] at z;rw[z] at c';exact c' rfl
  have hf:sg (dec n)=ds n.natAbs:=by
   obtain⟨m,rfl⟩:=xaZ n0;exact jck m
  obtain⟨g1,g2,g3,g4,c0,g5,g6⟩:=jlh hn hf;refine⟨_,⟨jbq (by omega),rfl⟩,?_⟩;rw[if_pos (by omega),if_pos (by omega)];refine⟨g3,fun acc hacc=>jlG (fun _=>.bl true) (show Array.size _<1000 from xaU g2 (by decide)) hacc (fun ch H3 R hch s3' hR=>?_) fun J8 s12 e12=>?_⟩
  ·walk_at "rf";rw[ji7 (g4 ch hch)];exact hR _ (fun _ _ h=>h)
  have e13:(dec n).cps.toList.map (fun _=>V.bl true)=((dec n).cps.toList.map fun _=>true).map V.bl:=by rw[xaW];rfl
  rw[e13] at e12;refine⟨_,SqL.of e12,?_⟩;have al:((dec n).cps.toList.map fun _=>true).all id=true:=by simp
  rw[al,if_neg (by decide)];refine⟨Int.le_refl 0,by decide,by omega,c0,g5,?_⟩;refine jcl (fun z=>?_) fun z=>?_
  ·rw[jnD] at z;have z0:n=0:=g6 (by simpa using z);rw[if_pos (by rw[z0,dec0,jnD])];exact⟨n,jef hn,xan hn.len (by decide),q _ s12⟩
  ·exact⟨n,jef hn,xan hn.len (by decide),q _ s12⟩
def spR3:Sp:=fun vs H Q _=>∃a b c:Int,vs=[.str (tx3 a b c)]/\TB a/\TB b/\TB c/\∀(r:Addr) (H':Hp),Same H H'->H' r=some (.tup [.int a,.int b,.int c])->Q (.ref r) H'
theorem ok_r3 (T:Tx K mg t1 t2) (F:At K mg "read_three_wholes" jaO ["text"] []) (du:jap P w K mg base CX0 1 "read_whole" ["text"] [] spRW):jap P w K mg base CX0 2 "read_three_wholes" ["text"] [] spR3:=by
  refine F.ok jbE (fun vs H Q E h=>?_) (fun f cdv A outer s H vs Q E hr h=>?_)
  . obtain⟨a,b,c,rfl,_⟩:=h
    rfl
  obtain⟨a,b,c,rfl,ha,hb,hc,q⟩:=h;have S:=jbE;refine⟨_,(jae (jas (i:=1) S.nd rfl (Or.inl rfl) (jaE ja9 rfl T.m_tuple boot_tuple (jaa (jaU rfl (N':=["word"]) (ix:=[]) ⟨rfl,rfl,by decide +kernel,by decide +kernel,by decide +kernel,(show ∀y:Str × NameKind,y∈_->y.2=NameKind.free->(jad jaO).names.lookup y.1=some .cell\/(jad jaO).names.lookup y.1=some .free from by decide +kernel),.nil⟩ (jbd (jb2 PySem.F.plainAttrs_str PySem.F.slot_str_split PySem.F.type_str_split jfp (pv 0) (jaa jaC jac jaj))) (fun _ _ _ _=>jan (i:=0) (show (["word"]:List Str).Nodup from by decide +kernel) rfl (Or.inl rfl)) (fun _ _ _ _=>ja4) (fun _ _ _ _=>(jai du hr.m rfl jav (jaa (pv 0) jac jah)))) jac jcr)))
    (jae (jaQ (jat jcn (jaz jaB rfl T.m_len PySem.boot_len (jaa (pv 1) jac jah)) jab (jaw _))
    jbj
    jax)
    (jag (jaq (pv 1))))),?_⟩
  try walk_at "rf"
  have ea:44∉sg (dec a):=fun h=>by rcases jb1 h with h | h<;>omega
  have eb:44∉sg (dec b):=fun h=>by rcases jb1 h with h | h<;>omega
  have ec:44∉sg (dec c):=fun h=>by rcases jb1 h with h | h<;>omega
  have es:Txt.split (tx3 a b c) (Str.ofString ",")=[dec a,dec b,dec c]:=by
    rw[jmG];exact jdM ea (fun y hy=>by
      rcases xac.mp hy with rfl | hy
      . exact eb
      . rw[xak] at hy;subst hy;exact ec)
  have l3:=jeN ha hb hc;rw[es];refine⟨by rw[jmG];rfl,jbq (by omega),jbq (show 3<1000 by decide),?_,fun p hp=>?_⟩
  . rw[length_partsBetween]
    have:=StrLaws.occ_length_le (tx3 a b c) (Str.ofString ",") 0 (tx3 a b c).length ((tx3 a b c).length+1);exact jbq (by omega)
  refine ja6 hp fun H1 s1 e1=>?_;have k1:SqL K H1 p [V.str (dec a),V.str (dec b),V.str (dec c)]:=SqL.of e1;refine⟨⟨_,k1⟩,fun acc hacc=>jf0 (zs:=[V.str (dec a),V.str (dec b),V.str (dec c)]) (fun i y _=>y=[V.int a,V.int b,V.int c].getD i .non) (fun _ _ _ _ h _=>h) (show 3<1000 by decide) hacc k1 (fun i z0 H3 R hz0 s3' hR=>?_) fun ys J8 s12 e12 l12 p12=>?_⟩
  . walk_at "rf"
    match i,hz0 with
    | 0,hz0=>cases hz0;exact⟨a,rfl,ha,fun H' s'=>hR _ _ s' rfl⟩
    | 1,hz0=>cases hz0;exact⟨b,rfl,hb,fun H' s'=>hR _ _ s' rfl⟩
    | 2,hz0=>cases hz0;exact⟨c,rfl,hc,fun H' s'=>hR _ _ s' rfl⟩
    | i+3,hz0=>cases hz0
  have ey:ys=[V.int a,V.int b,V.int c]:=by
    match ys,l12,p12 with
    | [x, y, z], _, p12 =>
      have q0:=p12 0 x rfl;have q1:=p12 1 y rfl;have q2:=p12 2 z rfl;rw[q0,q1,q2];rfl
  subst ey;refine⟨_,.inl ⟨SqL.of e12,fun l hl=>⟨_,.inr (SqT.of jaf),?_⟩⟩⟩;rw[if_pos (show (([V.int a,V.int b,V.int c].length:Nat):Int)=3 from rfl)];exact q l _ ((s1.trans s12).trans (Same.new hl _)) jaf
def spWB:Sp:=fun vs H Q _=>∃(r:Addr) (sla tx:Str) (a b c d:Int),vs=[.ref r,.str sla,.str tx]/\H r=some (.tup [.int a,.int b,.int c])/\TB a/\TB b/\TB c/\TB d/\(sla=Str.empty/\d=1\/sla=sl/\tx=dec d/\1<d/\gl [a,b,c,d]=1)/\∀(r:Addr) (H':Hp),Same H H'->H' r=some (.tup [.int a,.int b,.int c,.int d])->Q (.ref r) H'
theorem ok_wb (T:Tx K mg t1 t2) (F:At K mg "with_bottom" jcf ["numbers","slash","text"] []) (du:jap P w K mg base CX0 1 "read_whole" ["text"] [] spRW) (dl:jap P w K mg base CX0 2 "in_lowest_terms" ["numbers"] [] jjX):jap P w K mg base CX0 3 "with_bottom" ["numbers","slash","text"] [] spWB:=by
 refine F.ok jcY (fun vs H Q E h=>?_) (fun f cdv A outer s H vs Q E hr h=>?_)
 ·obtain⟨r,sla,tx,a,b,c,d,rfl,_⟩:=h;rfl
 obtain⟨r,sla,tx,a,b,c,d,rfl,e0,ha,hb,hc,hd,hh,q⟩:=h;have S:=jcY;refine⟨_,(jae (jaQ (jat jcN (pv 1) jaC (jaw _))
  (jag (jaq (jao jid (pv 0) (jbG (jaa jab jac jaj)))))
  jax)
  (jae (jas (i:=3) S.nd rfl (Or.inl rfl) (jao jid (pv 0) (jbG (jaa (jai du hr.m rfl jav (jaa (pv 2) jac jah)) jac jaJ))))
  (jae (jaQ (PW.pt (jd4 (jat jgi (jar jau (pv 3) (jfJ jdO jab)) jab (jaw _)) (jcP (jat (je2 (jkL hr)) (jai dl hr.m rfl jav (jaa (pv 3) jac jah)) (pv 3) (jaw _)))))
  jbj
  jax)
  (jag (jaq (pv 3)))))),?_⟩
 have k0:SqT K H r [.int a,.int b,.int c]:=SqT.of e0;try walk_at "rf"
 have e_em:Str.ofString ""=Str.empty:=by decide +kernel
 rw[e_em];refine jcl (fun c0=>?_) fun c0=>?_
 ·rcases hh with ⟨_,rfl⟩ | ⟨rfl,_⟩
  ·refine⟨by decide,fun p hp=>?_⟩;have s1:=Same.new hp (.tup [V.int 1]);refine⟨r,p,_,_,rfl,rfl,SqT.of (s1 _ _ e0),SqT.of jaf,xbd _ _,jbq (show 3+1<1000 by decide),fun h=>absurd h (xbd _ _),fun _ p2 hp2=>?_⟩;exact q p2 _ (s1.trans (Same.new hp2 _)) jaf
  ·exact absurd c0 (by decide)
 ·rcases hh with ⟨h,_⟩ | ⟨rfl,rfl,d1,hg⟩
  ·exact absurd h c0
  ·refine⟨d,rfl,hd,fun H1 s1=>⟨by decide,fun p hp=>?_⟩⟩;have s2:=Same.new hp (.tup [V.int d]);refine⟨r,p,_,_,rfl,rfl,SqT.of (s2 _ _ (s1 _ _ e0)),SqT.of jaf,xbd _ _,jbq (show 3+1<1000 by decide),fun h=>absurd h (xbd _ _),fun _ p2 hp2=>?_⟩;have s3:=Same.new hp2 (.tup [V.int a,V.int b,V.int c,V.int d]);have e3:upd (upd H1 p (.tup [V.int d])) p2 (.tup [V.int a,V.int b,V.int c,V.int d]) p2=some (.tup [V.int a,V.int b,V.int c,V.int d]):=jaf;show jmE K (V.ref p2) (V.int (-1)) (upd (upd H1 p (.tup [V.int d])) p2 (.tup [V.int a,V.int b,V.int c,V.int d])) _;generalize upd (upd H1 p (.tup [V.int d])) p2 (.tup [V.int a,V.int b,V.int c,V.int d])=J at s3 e3 |-
   refine ixT (SqT.of e3) (i:=-1) rfl ⟨d,rfl,?_⟩;rw[if_neg (by omega)];have sm:∀{n:Int},TB n->Small n:=fun h=>xah h (by decide +kernel);refine⟨p2,[a,b,c,d],rfl,e3,show 4<=10 by decide,fun n hn=>?_,by rw[hg];decide,fun g J2 s4 e4=>?_⟩
   ·rcases xac.mp hn with rfl | hn
    ·exact sm ha
    rcases xac.mp hn with rfl | hn
    ·exact sm hb
    rcases xac.mp hn with rfl | hn
    ·exact sm hc
    rw[xak] at hn;subst hn;exact sm hd
   ·rw[hg] at e4;have e5:([a,b,c,d].map fun x=>x / 1)=[a,b,c,d]:=by simp
    rw[e5] at e4;refine jgR (x:=[a,b,c,d]) (y:=[a,b,c,d]) (SqT.of e4) (SqT.of (s4 _ _ e3)) ⟨_,rfl,?_⟩;rw[if_neg (by simp)];exact q p2 _ (s1.trans (s2.trans (s3.trans s4))) (s4 _ _ e3)
def spRS:Sp:=fun vs H Q _=>∃a b c d:Int,vs=[.str (jd7 (tx3 a b c) d)]/\TB a/\TB b/\TB c/\TB d/\1<=d/\gl [a,b,c,d]=1/\∀(r:Addr) (H':Hp),Same H H'->H' r=some (.tup [.int a,.int b,.int c,.int d])->Q (.ref r) H'
theorem ok_rs (T:Tx K mg t1 t2) (F:At K mg "read_spot" jda ["text"] []) (dZ:jap P w K mg base CX0 3 "with_bottom" ["numbers","slash","text"] [] spWB) (dG:jap P w K mg base CX0 2 "read_three_wholes" ["text"] [] spR3):jap P w K mg base CX0 4 "read_spot" ["text"] [] spRS:=by
 refine F.ok jdV (fun vs H Q E h=>?_) (fun f cdv A outer s H vs Q E hr h=>?_)
 ·obtain⟨a,b,c,d,rfl,_⟩:=h;rfl
 obtain⟨a,b,c,d,rfl,ha,hb,hc,hd,d1,hg,q⟩:=h;have S:=jdV;refine⟨_,(jae (jas (i:=1) S.nd rfl (Or.inl rfl) (jb2 PySem.F.plainAttrs_str PySem.F.slot_str_partition PySem.F.type_str_partition jf5 (pv 0) (jaa jaC jac jaj)))
  (jag (jaq (jai dZ hr.m rfl jav (jaa (jai dG hr.m rfl jav (jaa (jar jau (pv 1) jab) jac jaD)) (jaa (jar jau (pv 1) jab) (jaa (jar jau (pv 1) jab) jac jaD) jaD) jaJ))))),?_⟩
 try walk_at "rf"
 have e47:47∉sg (tx3 a b c):=fun h=>by
  rw[jhg] at h;rcases xay.mp h with h | h
  ·rcases jb1 h with h | h<;>omega
  rcases xac.mp h with h | h
  ·omega
  rcases xay.mp h with h | h
  ·rcases jb1 h with h | h<;>omega
  rcases xac.mp h with h | h
  ·omega
  ·rcases jb1 h with h | h<;>omega
 have l3:=jeN ha hb hc;have ld:=hd.len;have lo:(jd7 (tx3 a b c) d).length<=300:=by
  unfold jd7;split
  ·omega
  ·rw[<- jaT,jbs,jbs,xaf,xaf,jaT,jaT,jaT];show _+1+_<=300;omega
 have ep:Txt.partition (jd7 (tx3 a b c) d) (Str.ofString "/")=(tx3 a b c,if d=1 then Str.empty else sl,if d=1 then Str.empty else dec d):=by
  rw[jmi];unfold jd7;split
  ·exact jmg e47
  ·exact jmh e47
 rw[ep];refine⟨by rw[jmi];rfl,jbq (by omega),fun p hp=>?_⟩;have s1:=Same.new hp (.tup [V.str (tx3 a b c),V.str (if d=1 then Str.empty else sl),V.str (if d=1 then Str.empty else dec d)]);have e1:upd H p (.tup [V.str (tx3 a b c),V.str (if d=1 then Str.empty else sl),V.str (if d=1 then Str.empty else dec d)]) p=some (.tup [V.str (tx3 a b c),V.str (if d=1 then Str.empty else sl),V.str (if d=1 then Str.empty else dec d)]):=jaf;show jmE K (V.ref p) (V.int 0) (upd H p (.tup [V.str (tx3 a b c),V.str (if d=1 then Str.empty else sl),V.str (if d=1 then Str.empty else dec d)])) _;generalize upd H p (.tup [V.str (tx3 a b c),V.str (if d=1 then Str.empty else sl),V.str (if d=1 then Str.empty else dec d)])=H1 at s1 e1 |-
 have k1:SqT K H1 p [V.str (tx3 a b c),V.str (if d=1 then Str.empty else sl),V.str (if d=1 then Str.empty else dec d)]:=SqT.of e1;refine ixT k1 (i:=0) rfl ⟨a,b,c,rfl,ha,hb,hc,fun r H2 s2 e2=>ixT (s2.tup k1) (i:=1) rfl (ixT (s2.tup k1) (i:=2) rfl ⟨r,_,_,a,b,c,d,rfl,e2,ha,hb,hc,hd,?_,fun r' H3 s3 e3=>q r' H3 ((s1.trans s2).trans s3) e3⟩)⟩;by_cases h:d=1
 ·rw[if_pos h];exact .inl ⟨rfl,h⟩
 ·rw[if_neg h,if_neg h];exact .inr ⟨rfl,rfl,by omega,hg⟩
theorem jdi (x y:Str):(x++y).length=x.length+y.length:=by rw[<- jaT,jbs,xaf,jaT,jaT]
theorem l_cm:(Str.ofString ",").length=1:=by rw[jmG];rfl
theorem l_sl:(Str.ofString "/").length=1:=by rw[jmi];rfl
theorem jml (a b c:Int):dec a++Str.ofString ","++dec b++Str.ofString ","++dec c=tx3 a b c:=jeK (by
 rw[jhg,jmG,jbs,jbs,jbs,jbs];show sg (dec a)++[44]++sg (dec b)++[44]++sg (dec c)=_;simp)
theorem p12:((10:Int)^Int.toNat 12)=1000000000000:=by decide +kernel
theorem TB.of (h1:-1000000000000000000000000000000<n) (h2:n<1000000000000000000000000000000):TB n:=by
 unfold TB;have e:(10^30:Nat)=1000000000000000000000000000000:=by decide +kernel
 rw[e];omega
theorem jnF (T:Tx K mg t1 t2) (F:At K mg "_law_spot_text" jbC ["spot"] []):jap P w K mg base CX0 1 "_law_spot_text" ["spot"] [] jmH:=by
 refine F.ok jb5 (fun vs H Q E h=>?_) (fun f cdv A outer s H vs Q E hr h=>?_)
 ·obtain⟨r,a,b,c,d,rfl,_⟩:=h;rfl
 obtain⟨r,a,b,c,d,rfl,e0,ha,hb,hc,hd,d1,q⟩:=h;have S:=jb5;refine⟨_,(jae (jas (i:=1) S.nd rfl (Or.inl rfl) (jao jaP (jao jaP (jao jaP (jao jaP (jaE jcs rfl T.m_str boot_str (jaa (jar jau (pv 0) jab) jac jaD)) jaC) (jaE jcs rfl T.m_str boot_str (jaa (jar jau (pv 0) jab) jac jaD))) jaC) (jaE jcs rfl T.m_str boot_str (jaa (jar jau (pv 0) jab) jac jaD))))
  (jae (jaQ (jat jfK (jar jau (pv 0) jab) jab (jaw _))
  (jag (jaq (jao jaP (jao jaP (pv 1) jaC) (jaE jcs rfl T.m_str boot_str (jaa (jar jau (pv 0) jab) jac jaD)))))
  jax)
  (jag (jaq (pv 1))))),?_⟩
 have k0:SqT K H r [.int a,.int b,.int c,.int d]:=SqT.of e0;try walk_at "rf"
 have la:(Str.ofString (toString a)).length<=31:=ha.len;have lb:(Str.ofString (toString b)).length<=31:=hb.len;have lc:(Str.ofString (toString c)).length<=31:=hc.len;have ld:(Str.ofString (toString d)).length<=31:=hd.len;refine ixT k0 (i:=0) rfl ⟨a,rfl,ha.st,jbq (by rw[l_cm];omega),ixT k0 (i:=1) rfl ⟨b,rfl,hb.st,jbq (by rw[jdi,l_cm];omega),jbq (by rw[jdi,jdi,l_cm];omega),ixT k0 (i:=2) rfl ⟨c,rfl,hc.st,jbq (by rw[jdi,jdi,jdi,l_cm];omega),ixT k0 (i:=3) rfl ⟨d,rfl,?_⟩⟩⟩⟩;have z:=q H (fun _ _ h=>h);have l3:=jeN ha hb hc;have et:Str.ofString (toString a)++Str.ofString ","++Str.ofString (toString b)++Str.ofString ","++Str.ofString (toString c)=tx3 a b c:=jml a b c;rw[et];unfold jd7 at z;refine jcl (fun h=>?_) fun h=>?_
 ·rw[if_neg (by omega)] at z;refine⟨jbq (by rw[l_sl];omega),ixT k0 (i:=3) rfl ⟨d,rfl,hd.st,jbq (by rw[jdi,l_sl];omega),?_⟩⟩;rw[jmi];exact z
 ·rw[if_pos (by omega)] at z;exact z
theorem TB.div (h:TB n):TB (n / g):=xaU (xa5 n g) h
structure Tyd (K:PySem.W.Frag) (mg:Str->Option Value) (t1 t2:Tok) (cs:Nat->Addr) (S Y:Addr):Prop extends Tx K mg t1 t2 where
 m_SightError:mg "SightError"=some (.ref S)
 m_NoName:mg "NoName"=some (.ref (cs 0))
 m_NoBoard:mg "NoBoard"=some (.ref (cs 1))
 m_TooMany:mg "TooMany"=some (.ref (cs 2))
 m_NoDeed:mg "NoDeed"=some (.ref (cs 3))
 x_NoName:Exc K (cs 0) "ValueError" "ValueError.__new__" "ValueError.__init__" [.type "ValueError",.type "Exception",.type "BaseException",.type "object"]
 x_NoBoard:Exc K (cs 1) "ValueError" "ValueError.__new__" "ValueError.__init__" [.type "ValueError",.type "Exception",.type "BaseException",.type "object"]
 x_TooMany:Exc K (cs 2) "ValueError" "ValueError.__new__" "ValueError.__init__" [.type "ValueError",.type "Exception",.type "BaseException",.type "object"]
 x_NoDeed:Exc K (cs 3) "ValueError" "ValueError.__new__" "ValueError.__init__" [.type "ValueError",.type "Exception",.type "BaseException",.type "object"]
 xc:∀i,i<4->XCls K (cs i)
 em:∀i,i<4->PySem.W.exmOne K (.ref (cs i)) (.ref S)=some true
 kt:∀i j,i<4->j<4->PySem.W.kitOne K (.ref (cs i)) (.ref (cs j))=some (decide (i=j))
 m_Yard:mg "Yard"=some (.ref Y)
 cl:Cls K Y
 nS:NoAttr K Y "standing"
 nP:NoAttr K Y "past"
 mkY:PySem.W.makesIn K Y=true
 kpY:PySem.W.keepIn K (.ref Y)=true
def axk (ps:List Pt):Int:=if jay 0 (pt ps 0) (pt ps 1) (pt ps 2)≠0 then 0 else if jay 1 (pt ps 0) (pt ps 1) (pt ps 2)≠0 then 1 else 2
structure GoodB (ps:List Pt):Prop where
 n3:3<=ps.length
 n8:ps.length<=8
 na:¬jdg (pt ps 0) (pt ps 1) (pt ps 2)
 flat:∀i,i<ps.length->hgt (jay 0 (pt ps 0) (pt ps 1) (pt ps 2)) (-jay 1 (pt ps 0) (pt ps 1) (pt ps 2)) (jay 2 (pt ps 0) (pt ps 1) (pt ps 2)) (jay 3 (pt ps 0) (pt ps 1) (pt ps 2)) (pt ps i)=0
 rnd:Rnd (axk ps) ps
def jhh (C:Addr):Sp:=fun vs H Q E=>∃(l:Addr) (rs:List Addr) (ps:List Pt),vs=[.ref l]/\Cor H l rs ps/\(GoodB ps->∀(t:Addr) (H':Hp),Same H H'->H' t=some (.tup ((frm ps rs).map V.ref))->Q (.ref t) H')/\(¬GoodB ps->∀H':Hp,Same H H'->E (.ref C) none H')
theorem jko {b x w:Int} (h:pln [a,b,c,d]=[x,y,z,w]):(x=0->a=0)/\(y=0->b=0)/\(z=0->c=0):=by
 have ea:=xax (ja2 (ns:=[a,b,c,d]) (n:=a) (by simp));have eb:=xax (ja2 (ns:=[a,b,c,d]) (n:=b) (by simp));have ec:=xax (ja2 (ns:=[a,b,c,d]) (n:=c) (by simp));have el:low [a,b,c,d]=[a / gl [a,b,c,d],b / gl [a,b,c,d],c / gl [a,b,c,d],d / gl [a,b,c,d]]:=rfl;unfold pln at h;rw[el] at h;generalize gl [a,b,c,d]=g at ea eb ec h;generalize a / g=x' at ea h;generalize b / g=y' at eb h;generalize c / g=z' at ec h;generalize d / g=w' at h;have h:(if plb x' y' z'=true then [x',y',z',w'] else [-x',-y',-z',-w'])=[x,y,z,w]:=h;have k:(x=0->x'=0)/\(y=0->y'=0)/\(z=0->z'=0):=by
  split at h
  ·cases h;exact⟨id,id,id⟩
  ·cases h;exact⟨fun q=>by omega,fun q=>by omega,fun q=>by omega⟩
 refine⟨fun q=>?_,fun q=>?_,fun q=>?_⟩
 ·rw[<- ea,k.1 q,xa4]
 ·rw[<- eb,k.2.1 q,xa4]
 ·rw[<- ec,k.2.2 q,xa4]
theorem jnG {x:Int} (ep:pln [jay 0 (pt ps 0) (pt ps 1) (pt ps 2),-jay 1 (pt ps 0) (pt ps 1) (pt ps 2),jay 2 (pt ps 0) (pt ps 1) (pt ps 2),jay 3 (pt ps 0) (pt ps 1) (pt ps 2)]=[x,y,z,v])
  (hk:(k=0/\x≠0)\/(k=1/\x=0/\y≠0)\/(k=2/\x=0/\y=0/\z≠0)):k=axk ps:=by
 obtain⟨nx,ny,nz⟩:=jno ep;obtain⟨zx,zy,zz⟩:=jko ep;unfold axk;rcases hk with ⟨rfl,h⟩ | ⟨rfl,h0,h⟩ | ⟨rfl,h0,h1,h⟩
 ·rw[if_pos (nx h)]
 ·rw[if_neg (by intro q;exact q (zx h0)),if_pos (by intro e;exact ny h (by omega))]
 ·have:=zy h1;rw[if_neg (by intro q;exact q (zx h0)),if_neg (by omega)]
variable {cs:Nat->Addr}
theorem ji8 (T:Tyd K mg t1 t2 cs SE Y) (F:At K mg "made_board" jcv ["corners"] []) (Du:jap P w K mg base CX0 4 "in_line" ["one","other","third"] [] jkV) (dM:jap P w K mg base CX0 5 "plane_through" ["one","other","third"] [] jf8) (Dq:jap P w K mg base CX0 2 "side_of" ["plane","spot"] [] jkW) (Dl:jap P w K mg base CX0 1 "flat_axis" ["plane"] [] jkX) (Dh:jap P w K mg base CX0 5 "is_convex" ["corners","axis"] [] jlc) (Dv:jap P w K mg base CX0 2 "formed" ["corners"] [] jee):jap P w K mg base (XOk P w) 6 "made_board" ["corners"] [] (jhh (cs 1)):=by
 refine F.okX jdr (fun vs H Q E h=>?_) (fun f cdv A outer s H vs Q E hr h=>?_)
 ·obtain⟨l,rs,ps,rfl,_⟩:=h;rfl
 obtain⟨l,rs,ps,rfl,hc,q,qb⟩:=h;have S:=jdr;refine⟨_,(jae (jaQ (PW.pt (jd4 (jat jhs (jaz jaB rfl T.m_len PySem.boot_len (jaa (pv 0) jac jah)) jab (jaw _)) (jcP (jat jfK (jaz jaB rfl T.m_len PySem.boot_len (jaa (pv 0) jac jah)) (jc5 rfl T.m_MOST_CORNERS T.r_MOST_CORNERS) (jaw _)))))
  (jag (jbT rfl rfl T.m_NoBoard T.x_NoBoard (jaa jaC jac jaj) jcq))
  jax)
  (jae (jaQ (jbR (jai Du hr.m rfl jav (jaa (jar ix_list (pv 0) jab) (jaa (jar ix_list (pv 0) jab) (jaa (jar ix_list (pv 0) jab) jac jaD) jaD) jaD)))
  (jag (jbT rfl rfl T.m_NoBoard T.x_NoBoard (jaa jaC jac jaj) jcq))
  jax)
  (jae (jas (i:=1) S.nd rfl (Or.inl rfl) (jai dM hr.m rfl jav (jaa (jar ix_list (pv 0) jab) (jaa (jar ix_list (pv 0) jab) (jaa (jar ix_list (pv 0) jab) jac jaD) jaD) jaD)))
  (jae (ja1 PassesOwn.leaving rfl (jbd (pv 0)) (jan (i:=2) S.nd rfl (Or.inl rfl))
  (jag (jaQ (jat jcn (jai Dq hr.m rfl jav (jaa (pv 1) (jaa (pv 2) jac jah) jah)) jab (jaw _))
  (jag (jbT rfl rfl T.m_NoBoard T.x_NoBoard (jaa jaC jac jaj) jcq))
  jax)))
  (jae (jaQ (jcQ (jbR (jai Dh hr.m rfl jav (jaa (pv 0) (jaa (jai Dl hr.m rfl jav (jaa (pv 1) jac jah)) jac jaJ) jah))))
  (jag (jbT rfl rfl T.m_NoBoard T.x_NoBoard (jaa jaC jac jaj) jcq))
  jax)
  (jag (jaq (jai Dv hr.m rfl jav (jaa (pv 0) jac jah))))))))),?_⟩
 have ln:=hc.2.len;have lm:(rs.map V.ref).length=ps.length:=by rw[xaa,ln]
 have kl:SqL K H l (rs.map V.ref):=SqL.of hc.1;try walk_at "rf"
 refine⟨_,.inl kl,?_⟩;rw[lm];refine jcl (fun c1=>⟨by decide,qb (fun B=>by have:=B.n3;omega) _ (Same.refl _)⟩) fun c1=>?_;refine⟨_,.inl kl,?_⟩;rw[lm];refine jcl (fun c2=>⟨by decide,qb (fun B=>by have:=B.n8;omega) _ (Same.refl _)⟩) fun c2=>?_;have n3:3<=ps.length:=by omega
 have n8:ps.length<=8:=by omega
 obtain⟨a1,a2⟩:=hc.2.get (i:=0) (by omega);obtain⟨a3,a4⟩:=hc.2.get (i:=1) (by omega);obtain⟨a5,a6⟩:=hc.2.get (i:=2) (by omega);obtain⟨m0,m1,m2,m3⟩:=jg4 a2.2 a4.2 a6.2;refine ixL kl (jaF (j:=0) a1) (ixL kl (jaF (j:=1) a3) (ixL kl (jaF (j:=2) a5) ?_));refine⟨_,_,_,_,_,_,rfl,a2,a4,a6,fun H1 s1=>⟨_,rfl,jcl (fun cl=>⟨by decide,qb (fun B=>B.na (by have z:=cl;unfold inl at z;have y:=of_decide_eq_true z;exact y)) _ s1⟩) fun cl=>?_⟩⟩;have na:¬jdg (pt ps 0) (pt ps 1) (pt ps 2):=fun z=>cl (decide_eq_true z);obtain⟨x,y,z,v,ep,sx,sy,sz,sv,g1',pb,hz⟩:=jiN (a:=jay 0 (pt ps 0) (pt ps 1) (pt ps 2)) (b:=-jay 1 (pt ps 0) (pt ps 1) (pt ps 2)) (c:=jay 2 (pt ps 0) (pt ps 1) (pt ps 2)) (d:=jay 3 (pt ps 0) (pt ps 1) (pt ps 2)) (fun z=>na ⟨z.1,by omega,z.2.2⟩) m0 m1.neg m2 m3;have er:rgh (pt ps 0) (pt ps 1) (pt ps 2)=[jay 0 (pt ps 0) (pt ps 1) (pt ps 2),-jay 1 (pt ps 0) (pt ps 1) (pt ps 2),jay 2 (pt ps 0) (pt ps 1) (pt ps 2),jay 3 (pt ps 0) (pt ps 1) (pt ps 2)]:=rfl;have kl1:=s1.seq kl;refine ixL kl1 (jaF (j:=0) a1) (ixL kl1 (jaF (j:=1) a3) (ixL kl1 (jaF (j:=2) a5) ?_));refine⟨_,_,_,_,_,_,rfl,a2.keep s1,a4.keep s1,a6.keep s1,na,fun g H2 s2 e2=>?_⟩;rw[er,ep] at e2;have s12:=s1.trans s2;have kl2:=s12.seq kl;refine⟨⟨_,kl2⟩,?_⟩;refine jdk (K:=K) (a:=l) (xs:=rs.map V.ref) (fun i σ H3=>H3=H2/\(∀i',i'<i->hgt (jay 0 (pt ps 0) (pt ps 1) (pt ps 2)) (-jay 1 (pt ps 0) (pt ps 1) (pt ps 2)) (jay 2 (pt ps 0) (pt ps 1) (pt ps 2)) (jay 3 (pt ps 0) (pt ps 1) (pt ps 2)) (pt ps i')=0)/\∃o2:Option V,σ=[some (.ref l),some (.ref g),o2]) ⟨rfl,fun i' h=>absurd h (Nat.not_lt_zero _),none,rfl⟩ (fun i σ H3 _ ⟨h,_⟩=>by rw[h];exact kl2) ?_ ?_
 ·rintro i r σ H3 hi ⟨rfl,al,o2,rfl⟩;have hlt:i<ps.length:=by
   have:=(xaj.mp hi).1;omega
  obtain⟨b1,b2⟩:=(hc.2.keep s12.t).get hlt;rw[b1] at hi;cases hi;try walk_at "rf"
  refine⟨g,_,x,y,z,v,_,rfl,e2,sx,sy,sz,sv,b2,?_⟩;try walk_at "rf"
  refine jcl (fun c0=>?_) fun c0=>⟨by decide,qb (fun B=>c0 (by rw[hz _ (B.flat i hlt)];exact sgn0)) _ s12⟩;refine⟨fun i' hi'=>?_,_,rfl⟩;by_cases ci:i'<i
  ·exact al i' ci
  ·have ei:i'=i:=by omega
   rw[ei];exact jki ep (jkj c0)
 ·rintro σ H3 ⟨rfl,al,o2,rfl⟩;try walk_at "rf"
  refine⟨g,x,y,z,v,rfl,e2,jnp pb,fun k hk=>?_⟩;have ek:=jnG ep hk;have kk:0<=k/\k<=2:=by
   rcases hk with ⟨rfl,h⟩ | ⟨rfl,_,h⟩ | ⟨rfl,_,_,h⟩<;>exact⟨by decide,by decide⟩
  have fl:∀i,i<ps.length->hgt (jay 0 (pt ps 0) (pt ps 1) (pt ps 2)) (-jay 1 (pt ps 0) (pt ps 1) (pt ps 2)) (jay 2 (pt ps 0) (pt ps 1) (pt ps 2)) (jay 3 (pt ps 0) (pt ps 1) (pt ps 2)) (pt ps i)=0:=fun i hi=>al i (by rw[lm];exact hi);refine⟨l,k,rs,ps,rfl,hc.keep s12,n3,n8,kk.1,kk.2,?_⟩;by_cases cr:Rnd k ps
  ·refine .inl ⟨cr,fun H4 s4=>?_⟩;have B:GoodB ps:=⟨n3,n8,na,fl,ek▸cr⟩;try walk_at "rf"
   refine⟨l,rs,ps,rfl,hc.keep (s12.trans s4),n3,n8,fun t H5 s5 e5=>?_⟩;exact q B t H5 (s12.trans (s4.trans s5)) e5
  ·refine .inr ⟨cr,fun H4 s4=>?_⟩;try walk_at "rf"
   exact⟨by decide,qb (fun B=>cr (ek▸B.rnd)) _ (s12.trans s4)⟩
def rm (M:List Addr) (H:Hp):Hp:=fun a=>if a∈M then none else H a
theorem ja3 {a:Addr} {o:HO} (h:rm M H a=some o):H a=some o/\a∉M:=by
 unfold rm at h;split at h
 ·cases h
 ·exact⟨h,by assumption⟩
theorem jc4 {a:Addr} {o:HO} (h:H a=some o) (n:a∉M):rm M H a=some o:=by
 unfold rm;rw[if_neg n];exact h
theorem jbV (M:List Addr) (H:Hp):Same (rm M H) H:=fun _ _ h=>(ja3 h).1
theorem jdN (s:Same H H'):Same (rm M H) (rm M H'):=fun _ _ h=>jc4 (s _ _ (ja3 h).1) (ja3 h).2
def SX (S:List Addr) (H H':Hp):Prop:=∀b o,b∉S->H b=some o->H' b=some o
theorem SX.rm (s:SX S H H') (h:∀a∈S,a∈M):Same (rm M H) (rm M H'):=fun b o q=>jc4 (s b o (fun z=>(ja3 q).2 (h _ z)) (ja3 q).1) (ja3 q).2
theorem SX.refl (S:List Addr) (H:Hp):SX S H H:=fun _ _ _ h=>h
theorem SX.trans {J:Hp} (s:SX S H H') (t:SX S H' J):SX S H J:=fun b o n h=>t b o n (s b o n h)
theorem Same.x (s:Same H H') (S:List Addr):SX S H H':=fun b o _ h=>s b o h
inductive All2 {α β:Type} (R:α->β->Prop):List α->List β->Prop
 | nil:All2 R [] []
 | cons {a:α} {b:β} {as:List α} {bs:List β} (h:R a b) (t:All2 R as bs):All2 R (a::as) (b::bs)
section
variable {α β:Type} {R R':α->β->Prop}
theorem All2.len {as:List α} {bs:List β} (h:All2 R as bs):as.length=bs.length:=by
 induction h with
 | nil=>rfl
 | cons _ _ ih=>rw[xam,xam,ih]
theorem All2.mono {as:List α} {bs:List β} (h:All2 R as bs) (f:∀a b,R a b->R' a b):All2 R' as bs:=by
 induction h with
 | nil=>exact .nil
 | cons h _ ih=>exact .cons (f _ _ h) ih
theorem All2.app {as as':List α} {bs bs':List β} (h:All2 R as bs) (h':All2 R as' bs'):All2 R (as++as') (bs++bs'):=by
 induction h with
 | nil=>exact h'
 | cons h _ ih=>exact .cons h ih
theorem All2.get {as:List α} {bs:List β} (h:All2 R as bs):∀{i:Nat} {b:β},bs[i]?=some b->∃a,as[i]?=some a/\R a b:=by
  induction h with
  | nil=>intro i b e;cases e
  | cons h _ ih =>
    intro i b e;cases i with
    | zero=>cases e;exact⟨_,rfl,h⟩
    | succ i=>exact ih e
theorem All2.getA {as:List α} {bs:List β} (h:All2 R as bs):∀{i:Nat} {a:α},as[i]?=some a->∃b,bs[i]?=some b/\R a b:=by
  induction h with
  | nil=>intro i b e;cases e
  | cons h _ ih =>
    intro i b e;cases i with
    | zero=>cases e;exact⟨_,rfl,h⟩
    | succ i=>exact ih e
theorem All2.take {as:List α} {bs:List β} (h:All2 R as bs):∀n,All2 R (as.take n) (bs.take n):=by
  induction h with
  | nil=>intro n;rw[xbz,xbz];exact .nil
  | cons h _ ih =>
    intro n;cases n with
    | zero=>exact .nil
    | succ n=>exact .cons h (ih n)
theorem All2.drop {as:List α} {bs:List β} (h:All2 R as bs):∀n,All2 R (as.drop n) (bs.drop n):=by
  induction h with
  | nil=>intro n;rw[xbK,xbK];exact .nil
  | cons h t ih =>
    intro n;cases n with
    | zero=>exact .cons h t
    | succ n=>exact ih n
end
theorem ji9 {α β:Type} {R:α->β->Prop}:∀{as:List α} {bs:List β},as.length=bs.length->(∀(i:Nat) (a:α),as[i]?=some a->∃b,bs[i]?=some b/\R a b)->All2 R as bs
  | [],[],_,_=>.nil
  | a :: as, b :: bs, hl, h => by
    refine .cons ?_ (ji9 (Nat.succ.inj hl) fun i a' e=>h (i+1) a' e);obtain⟨b',e,r⟩:=h 0 a rfl;cases e;exact r
  | [],_::_,hl,_=>nomatch hl
  | _::_,[],hl,_=>nomatch hl
def BoAt (H:Hp) (t:Addr) (b:List Pt):Prop:=∃rs,H t=some (.tup (rs.map V.ref))/\Sps H rs b
theorem BoAt.keep {t:Addr} {b:List Pt} (h:BoAt H t b) (s:Same H H'):BoAt H' t b:=by
 obtain⟨rs,e,q⟩:=h;exact⟨rs,s _ _ e,q.keep s.t⟩
def ItAt (H:Hp) (r:Addr) (it:Str × List Pt):Prop:=(∃t,H r=some (.tup [.str it.1,.ref t])/\BoAt H t it.2)/\Lo it.1
theorem ItAt.keep {it:Str × List Pt} (h:ItAt H r it) (s:Same H H'):ItAt H' r it:=by
 obtain⟨⟨t,e,q⟩,l⟩:=h;exact⟨⟨t,s _ _ e,q.keep s⟩,l⟩
def StAt (H:Hp) (l:Addr) (st:List (Str × List Pt)):Prop:=∃rs,H l=some (.lst (rs.map V.ref))/\All2 (ItAt H) rs st
theorem StAt.keep {l:Addr} {st:List (Str × List Pt)} (h:StAt H l st) (s:Same H H'):StAt H' l st:=by
 obtain⟨rs,e,q⟩:=h;exact⟨rs,s _ _ e,q.mono fun _ _ h=>h.keep s⟩
theorem kSP:¬(("past":Str)="standing"):=by decide +kernel
def jeg (sL pL:Addr):List (Str × V):=[("standing",.ref sL),("past",.ref pL)]
theorem jgb (sL pL:Addr):(jeg sL pL).lookup ("standing":Str)=some (.ref sL):=by
 unfold jeg;rw[xaw];simp
theorem jhi (sL pL:Addr):(jeg sL pL).lookup ("past":Str)=some (.ref pL):=by
 have e:(("past":Str)=="standing")=false:=by decide +kernel
 unfold jeg;rw[xaw,e,xaw];simp
theorem ja0 {sL:Addr} {m:Str} (h1:(m==("standing":Str))=false) (h2:(m==("past":Str))=false):(jeg sL pL).lookup m=none:=by
 unfold jeg;rw[xaw,h1,xaw,h2];rfl
theorem jhj (sL pL sN:Addr):jd5 "standing" (.ref sN) (jeg sL pL)=jeg sN pL:=by
 show (if ("standing":Str)="standing" then _ else _)=_;rw[if_pos rfl];rfl
theorem jmm (sL pL:Addr):jd5 "past" (.ref pL) (jd5 "standing" (.ref sL) [])=jeg sL pL:=by
 show (if ("standing":Str)="past" then _ else _)=_;rw[if_neg (fun z=>kSP z.symm)];rfl
def Mut (H:Hp) (m:Addr):Prop:=∃o,H m=some o/\∀xs,o≠.tup xs
theorem Mut.keep {m:Addr} (h:Mut H m) (s:Same H H'):Mut H' m:=by
 obtain⟨o,e,n⟩:=h;exact⟨o,s _ _ e,n⟩
theorem Mut.nn {m:Addr} (h:Mut H m):H m≠none:=by
 obtain⟨o,e,_⟩:=h;rw[e];exact fun z=>nomatch z
theorem Mut.ls {m:Addr} (h:H m=some (.lst xs)):Mut H m:=⟨_,h,fun _ z=>nomatch z⟩
theorem Mut.is {m dx:Addr} {fs:List (Str × V)} (h:H m=some (.ins Y dx fs)):Mut H m:=⟨_,h,fun _ z=>nomatch z⟩
theorem Mut.up {m p:Addr} {o:HO} (h:Mut H m) (n:∀xs,o≠.tup xs):Mut (upd H p o) m:=by
 by_cases c:m=p
 ·rw[c];exact⟨o,jaf,n⟩
 ·obtain⟨o',e,n'⟩:=h;exact⟨o',by rw[jak c];exact e,n'⟩
structure YardAt (Y:Addr) (M:List Addr) (H:Hp) (y pL:Addr) (st:List (Str × List Pt)) (past:List (List (Str × List Pt))):Prop where
 yM:y∈M
 pM:pL∈M
 mu:∀m∈M,Mut H m
 ob:∃dx sL ss,H y=some (.ins Y dx (jeg sL pL))/\H pL=some (.lst (ss.map V.ref))/\StAt (rm M H) sL st/\All2 (StAt (rm M H)) ss past
theorem YardAt.al {y:Addr} {st:List (Str × List Pt)} {past:List (List (Str × List Pt))} (h:YardAt Y M H y pL st past):∀m∈M,H m≠none:=fun m hm=>(h.mu m hm).nn
theorem YardAt.ne {y:Addr} {st:List (Str × List Pt)} {past:List (List (Str × List Pt))} (h:YardAt Y M H y pL st past):y≠pL:=by
 obtain⟨dx,sL,ss,h1,h2,_⟩:=h.ob;exact ne_of h1 h2 (by intro z;cases z)
theorem YardAt.keep {y:Addr} {st:List (Str × List Pt)} {past:List (List (Str × List Pt))} (h:YardAt Y M H y pL st past) (s:Same H H'):YardAt Y M H' y pL st past:=by
 obtain⟨dx,sL,ss,h1,h2,h3,h4⟩:=h.ob;exact⟨h.yM,h.pM,fun m hm=>(h.mu m hm).keep s,dx,sL,ss,s _ _ h1,s _ _ h2,h3.keep (jdN s),h4.mono fun _ _ q=>q.keep (jdN s)⟩
theorem YardAt.more {M':List Addr} {y:Addr} {st:List (Str × List Pt)} {past:List (List (Str × List Pt))} (h:YardAt Y M H y pL st past) (hM:∀m∈M,m∈M') (al:∀m∈M',Mut H m) (s:Same (rm M H) (rm M' H)):YardAt Y M' H y pL st past:=by
 obtain⟨dx,sL,ss,h1,h2,h3,h4⟩:=h.ob;exact⟨hM _ h.yM,hM _ h.pM,al,dx,sL,ss,h1,h2,h3.keep s,h4.mono fun _ _ q=>q.keep s⟩
def nmL (st:List (Str × List Pt)):List Str:=st.map (·.1)
def stV (st:List (Str × List Pt)):List V:=(nmL st).map V.str
def jeO (Y:Addr):Sp:=fun vs H Q _=>∃(y dx sL pL:Addr) (st:List (Str × List Pt)),vs=[.ref y]/\H y=some (.ins Y dx (jeg sL pL))/\StAt H sL st/\st.length<=900/\∀(l:Addr) (H':Hp),H l=none->Same H H'->H' l=some (.lst (stV st))->Q (.ref l) H'
def jfw (Y:Addr):Sp:=fun vs H Q _=>∃(y dx sL pL:Addr) (st:List (Str × List Pt)),vs=[.ref y]/\H y=some (.ins Y dx (jeg sL pL))/\StAt H sL st/\st.length<=900/\∀(l:Addr) (ts:List Addr) (H':Hp),H l=none->Same H H'->H' l=some (.lst (ts.map V.ref))->All2 (BoAt H') ts (st.map (·.2))->Q (.ref l) H'
def jgA (Y:Addr):Sp:=fun vs H Q _=>∃(y pL dx sL:Addr) (ss:List Addr),vs=[.ref y]/\H y=some (.ins Y dx (jeg sL pL))/\H pL=some (.lst (ss.map V.ref))/\Q (.int (ss.length:Nat)) H
def jgB (Y:Addr):Sp:=fun vs H Q _=>∃(y dx:Addr),vs=[.ref y]/\H y=some (.ins Y dx [])/\∀(sL pL:Addr) (H':Hp),H sL=none->H pL=none->sL≠pL->SX [y] H H'->H' y=some (.ins Y dx (jeg sL pL))->H' sL=some (.lst [])->H' pL=some (.lst [])->Q .non H'
theorem jja {a:Addr} {zs:List V} {n:Nat} {g:TG} {acc:Addr} {Z:Hp->Prop} {H1:Hp} (f:Nat->V) (hn:zs.length<1000) (hacc:H1 acc=none) (hz:SqL K H1 a zs)
  (hs:∀(i:Nat) (z:V) (v0:L2.St) (H3:Hp) (R:V->Hp->Prop),zs[i]?=some z->v0.length=n->Same H1 H3->(∀H4,Same H3 H4->R (f i) H4)->g z (v0++ρ) H3 fun σ2 H2=>(∃v:L2.St,v.length=n/\σ2=v++ρ)/\te σ2 H2 R)
  (hd:∀H',Same H1 H'->H' acc=some (.lst ((List.range zs.length).map f))->Z H')
  (mono:∀z σ H (A B:L2.St->Hp->Prop),(∀σ' H',A σ' H'->B σ' H')->g z σ H A->g z σ H B):jdG (Itl K a) n ρ g jb3 te acc Z H1:=by
 refine⟨fun i m xs H=>(Same H1 H/\H acc=some (.lst xs)/\xs=(List.range i).map f)/\i<=zs.length/\m=zs.length-i,⟨zs.length,⟨Same.new hacc _,jaf,rfl⟩,xaG _,rfl⟩,?_⟩;rintro i m xs H ⟨⟨g1,g2,rfl⟩,hi,rfl⟩;have sq:=g1.seq hz;by_cases hlt:i<zs.length
 ·have ez:zs[i]?=some zs[i]:=xab hlt;refine .inr ⟨⟨zs,zs[i],sq,ez⟩,(fun y H4=>y=f i/\Same H1 H4/\H4 acc=some (.lst ((List.range i).map f))),fun _=>False,?_,fun _ z=>z.elim,?_⟩
  ·rintro y H4 ⟨rfl,s4,a4⟩;refine⟨a4,jaH (by simp;omega),zs.length-(i+1),by omega,⟨Same.keepN s4 hacc _,jaf,?_⟩,hlt,rfl⟩;rw[xbg,xal];rfl
  ·rintro v0 x H' l0 ⟨rfl,hx⟩;have ex:x=zs[i]:=by
    have z:=hx zs sq;rw[ez] at z;exact (Option.some.inj z).symm
   subst ex;refine mono _ _ _ _ _ (fun σ' H'' h=>?_) (hs i _ v0 H' (fun y H4=>y=f i/\Same H1 H4/\H4 acc=some (.lst ((List.range i).map f))) ez l0 g1 fun H4 s4=>⟨rfl,g1.trans s4,s4 _ _ g2⟩);refine⟨h.1,?_⟩;simp only[jb3,if_true];exact h.2
 ·have e:i=zs.length:=by omega
  subst e;exact .inl ⟨⟨zs,sq,xae _⟩,hd _ g1 g2⟩
theorem jgc {α β:Type} (f:α->β) (l:List α) (g:Nat->β) (h:∀i a,l[i]?=some a->g i=f a):(List.range l.length).map g=l.map f:=by
 apply xbw;intro i;rw[xad,xad];by_cases c:i<l.length
 ·rw[xbD c,xab c];show some (g i)=some (f l[i]);rw[h i l[i] (xab c)]
 ·rw[xaK (by simp;omega),xaK (by omega)];rfl
theorem jjb :∀(z:V) (σ:L2.St) (H:Hp) (A B:L2.St->Hp->Prop),(∀σ' H',A σ' H'->B σ' H')->jjw K 2 (jej (jbt i) (jej (jbt j) jkB)) z σ H A->jjw K 2 (jej (jbt i) (jej (jbt j) jkB)) z σ H B:=by
 intro z σ H A B hAB h;obtain⟨p,xs,h1,h2,h3,h4⟩:=h;refine⟨p,xs,h1,h2,h3,?_⟩;obtain⟨v,r,e1,v',r',e2,e3,h5⟩:=h4;exact⟨v,r,e1,v',r',e2,e3,hAB _ _ h5⟩
theorem jnH {v0:L2.St} (h:v0.length=2):∃a b,v0=[a,b]:=match v0,h with | [a,b],_=>⟨a,b,rfl⟩
theorem jkp (T:Tyd K mg t1 t2 cs SE Y) (F:AtM K Y "names" "Yard.names" jbx ["self"]):MethOk P w K mg base CX0 1 Y "names" ["self"] (jeO Y):=by
 refine F.ok jdu (fun vs H Q E h=>?_) (fun f cdv A outer s H vs Q E hr h=>?_)
 ·obtain⟨y,dx,sL,pL,st,rfl,_⟩:=h;rfl
 obtain⟨y,dx,sL,pL,st,rfl,hy,⟨rs,hs,ha⟩,hn,q⟩:=h;have S:=jdu;refine⟨_,(jag (jaq (jev rfl (N':=["name","board"]) (ix:=[]) (xs0:=["name","board"]) ⟨rfl,rfl,by decide +kernel,by decide +kernel,by decide +kernel,(show ∀y:Str × NameKind,y∈_->y.2=NameKind.free->(jad jbx).names.lookup y.1=some .cell\/(jad jbx).names.lookup y.1=some .free from by decide +kernel),.nil⟩ (jbd (jdl (pv 0) rfl)) (fun _ _ _ _=>jgq (K:=K) (n:=2) rfl rfl (jaK (jan (i:=0) (show (["name","board"]:List Str).Nodup from by decide +kernel) rfl (Or.inl rfl)) (jaK (jan (i:=1) (show (["name","board"]:List Str).Nodup from by decide +kernel) rfl (Or.inl rfl)) jcm))) (fun _ _ _ _=>ja4) (fun _ _ _ _=>(pv 0))))),?_⟩;walk_at "rf";refine⟨_,rfl,y,Y,dx,_,_,rfl,hy,T.cl,T.nS,jgb _ _,sL,rfl,⟨_,SqL.of hs⟩,fun acc hacc=>?_⟩;have ln:=ha.len;refine jja (fun i=>V.str ((nmL st).getD i "")) (by rw[xaa];omega) hacc (SqL.of hs) (fun i z v0 H3 R hz l0 s3 hR=>?_) (fun H3 s3 e3=>?_) jjb
 ·rw[xad] at hz;obtain⟨r,hr1,rfl⟩:=xau.mp hz;obtain⟨it,hi,⟨t,e1,e2⟩,_⟩:=ha.getA hr1;obtain⟨v1,v2,rfl⟩:=jnH l0;have en:(nmL st).getD i ""=it.1:=by
   unfold nmL;rw[xag,xad,hi];rfl
  refine⟨_,_,rfl,SqT.of (s3 _ _ e1),rfl,_,_,rfl,_,_,rfl,rfl,⟨[_,_],rfl,rfl⟩,_,rfl,?_⟩;have z:=hR H3 (Same.refl _);rw[en] at z;exact z
 ·refine q acc H3 hacc s3 ?_;rw[e3,xaa,ln];have z:=jgc (fun it:Str × List Pt=>V.str it.1) st (fun i=>V.str ((nmL st).getD i "")) fun i a h=>by
   unfold nmL;rw[xag,xad,h];rfl
  rw[z];unfold stV nmL;rw[xaW];rfl
theorem jjc (T:Tyd K mg t1 t2 cs SE Y) (F:AtM K Y "boards" "Yard.boards" jbm ["self"]):MethOk P w K mg base CX0 1 Y "boards" ["self"] (jfw Y):=by
  refine F.ok jc0 (fun vs H Q E h=>?_) (fun f cdv A outer s H vs Q E hr h=>?_)
  . obtain⟨y,dx,sL,pL,st,rfl,_⟩:=h
    rfl
  obtain⟨y,dx,sL,pL,st,rfl,hy,⟨rs,hs,ha⟩,hn,q⟩:=h;have S:=jc0;refine⟨_,(jag (jaq (jev rfl (N':=["name","board"]) (ix:=[]) (xs0:=["name","board"]) ⟨rfl,rfl,by decide +kernel,by decide +kernel,by decide +kernel,(show ∀y:Str × NameKind,y∈_->y.2=NameKind.free->(jad jbm).names.lookup y.1=some .cell\/(jad jbm).names.lookup y.1=some .free from by decide +kernel),.nil⟩ (jbd (jdl (pv 0) rfl)) (fun _ _ _ _=>jgq (K:=K) (n:=2) rfl rfl (jaK (jan (i:=0) (show (["name","board"]:List Str).Nodup from by decide +kernel) rfl (Or.inl rfl)) (jaK (jan (i:=1) (show (["name","board"]:List Str).Nodup from by decide +kernel) rfl (Or.inl rfl)) jcm))) (fun _ _ _ _=>ja4) (fun _ _ _ _=>(pv 1))))),?_⟩;walk_at "rf";refine⟨_,rfl,y,Y,dx,_,_,rfl,hy,T.cl,T.nS,jgb _ _,sL,rfl,⟨_,SqL.of hs⟩,fun acc hacc=>?_⟩;have ln:=ha.len;obtain⟨ts,ht⟩:∃ts:List Addr,ts.length=rs.length/\∀(i:Nat) (r:Addr) (it:Str × List Pt),rs[i]?=some r->st[i]?=some it->∃t,ts[i]?=some t/\H r=some (.tup [.str it.1,.ref t])/\BoAt H t it.2:=by
    clear hs q hn ln;induction ha with
    | nil=>exact⟨[],rfl,fun i r it h=>nomatch h⟩
    | cons h _ ih =>
      obtain⟨ts,hl,ht⟩:=ih;obtain⟨⟨t,e1,e2⟩,_⟩:=h;refine⟨t::ts,by rw[xam,xam,hl],fun i r it h1 h2=>?_⟩;cases i with
      | zero=>cases h1;cases h2;exact⟨t,rfl,e1,e2⟩
      | succ i=>exact ht i r it h1 h2
  refine jja (fun i=>V.ref (ts.getD i 0)) (by rw[xaa];omega) hacc (SqL.of hs) (fun i z v0 H3 R hz l0 s3 hR=>?_) (fun H3 s3 e3=>?_) jjb
  . rw[xad] at hz
    obtain⟨r,hr1,rfl⟩:=xau.mp hz;obtain⟨it,hi,_⟩:=ha.getA hr1;obtain⟨t,h1,h2,h3⟩:=ht.2 i r it hr1 hi;obtain⟨v1,v2,rfl⟩:=jnH l0;have en:ts.getD i 0=t:=by
      rw[xag,h1];rfl
    refine⟨_,_,rfl,SqT.of (s3 _ _ h2),rfl,_,_,rfl,_,_,rfl,rfl,⟨[_,_],rfl,rfl⟩,_,rfl,?_⟩;have z:=hR H3 (Same.refl _);rw[en] at z;exact z
  . refine q acc ts H3 hacc s3 ?_ ?_
    . rw[e3,xaa,<- ht.1]
      rw[jgc V.ref ts (fun i=>V.ref (ts.getD i 0)) fun i a h=>by rw[xag,h];rfl]
    . have:∀(i:Nat) (t:Addr),ts[i]?=some t->∃b,(st.map (·.2))[i]?=some b/\BoAt H3 t b:=fun i t h=>by
        have il:i<rs.length:=by have:=(xaj.mp h).1;omega
        obtain⟨it,hi,_⟩:=ha.getA (xab il);obtain⟨t',h1,_,h3⟩:=ht.2 i _ it (xab il) hi;rw[h] at h1;cases h1;exact⟨it.2,by rw[xad,hi];rfl,h3.keep s3⟩
      exact ji9 (by rw[xaa];omega) this
theorem jkq (T:Tyd K mg t1 t2 cs SE Y) (F:AtM K Y "deeds" "Yard.deeds" jcz ["self"]):MethOk P w K mg base CX0 1 Y "deeds" ["self"] (jgA Y):=by
 refine F.ok jdv (fun vs H Q E h=>?_) (fun f cdv A outer s H vs Q E hr h=>?_)
 ·obtain⟨y,pL,dx,sL,ss,rfl,_⟩:=h;rfl
 obtain⟨y,pL,dx,sL,ss,rfl,hy,hp,q⟩:=h;have S:=jdv;refine⟨_,(jag (jaq (jaz jaB rfl T.m_len PySem.boot_len (jaa (jdl (pv 0) rfl) jac jiC)))),?_⟩;walk_at "rf";refine⟨_,rfl,y,Y,dx,_,_,rfl,hy,T.cl,T.nP,jhi _ _,pL,rfl,_,.inl (SqL.of hp),?_⟩;rw[xaa];exact q
theorem jkr (T:Tyd K mg t1 t2 cs SE Y) (F:AtM K Y "__init__" "Yard.__init__" jbM ["self"]):MethOk P w K mg base CX0 1 Y "__init__" ["self"] (jgB Y):=by
 refine F.ok jcj (fun vs H Q E h=>?_) (fun f cdv A outer s H vs Q E hr h=>?_)
 ·obtain⟨y,dx,rfl,_⟩:=h;rfl
 obtain⟨y,dx,rfl,hy,q⟩:=h;have S:=jcj;refine⟨_,(jae (jfL (pv 0) (jaV jac) rfl)
  (jag (jfL (pv 0) (jaV jac) rfl))),?_⟩
 walk_at "rf";refine⟨by decide,fun a ha=>⟨_,rfl,y,Y,dx,[],rfl,?_,T.cl,T.nS,by decide,?_⟩⟩
 ·rw[jak (jal hy ha)];exact hy
 have nya:=jal hy ha;refine⟨by decide,fun b hb=>⟨_,rfl,y,Y,dx,jd5 "standing" (.ref a) [],rfl,?_,T.cl,T.nP,(by show 1<1000;decide),?_⟩⟩
 ·have nyb:y≠b:=fun z=>by rw[<- z,jaf] at hb;cases hb
  rw[jak nyb,jaf]
 have nyb:y≠b:=fun z=>by rw[<- z,jaf] at hb;cases hb
 rw[jak (Ne.symm nyb)] at hb;have nab:a≠b:=fun z=>by rw[<- z,jaf] at hb;cases hb
 rw[jak (Ne.symm nab)] at hb;refine q a b _ ha hb nab (fun c o hc e=>?_) ?_ ?_ ?_
 ·have c1:c≠y:=fun z=>hc (by rw[z];exact xak.mpr rfl);rw[jak c1,jak (jal e hb),jak c1,jak (jal e ha)];exact e
 ·rw[jaf,jmm]
 ·rw[jak (Ne.symm nya),jak nab,jak (Ne.symm nya),jaf]
 ·rw[jak (Ne.symm nyb),jaf]
theorem jli {a:Addr} (mu:∀m∈M,Mut H m) (h:H a=some (.tup xs)):rm M H a=some (.tup xs):=jc4 h fun z=>by
 obtain⟨o,e,n⟩:=mu a z;rw[h] at e;exact n xs (Option.some.inj e).symm
theorem jjd (mu:∀m∈M,Mut H m) (h:Sps H rs ps):Sps (rm M H) rs ps:=by
 induction h with
 | nil=>exact .nil
 | cons h _ ih=>exact .cons ⟨jli mu h.1,h.2⟩ ih
theorem bo_rm {t:Addr} {b:List Pt} (mu:∀m∈M,Mut H m) (h:BoAt H t b):BoAt (rm M H) t b:=by
 obtain⟨rs,e,q⟩:=h;exact⟨rs,jli mu e,jjd mu q⟩
def spDo (Y:Addr):Sp:=fun vs H Q _=>∃(M:List Addr) (y pL sN:Addr) (st sn:List (Str × List Pt)) (past:List (List (Str × List Pt))),vs=[.ref y,.ref sN]/\YardAt Y M H y pL st past/\StAt (rm M H) sN sn/\past.length<=900/\∀H',SX [y,pL] H H'->YardAt Y M H' y pL sn (past++[st])->Q .non H'
theorem ok_do (T:Tyd K mg t1 t2 cs SE Y) (F:AtM K Y "do_deed" "Yard.do_deed" jbY ["self","standing"]):MethOk P w K mg base CX0 1 Y "do_deed" ["self","standing"] (spDo Y):=by
 refine F.ok jcF (fun vs H Q E h=>?_) (fun f cdv A outer s H vs Q E hr h=>?_)
 ·obtain⟨M,y,pL,sN,st,sn,past,rfl,_⟩:=h;rfl
 obtain⟨M,y,pL,sN,st,sn,past,rfl,hY,hn,hl,q⟩:=h;have S:=jcF;refine⟨_,(jae (jbi (jb2 PySem.F.plainAttrs_list PySem.F.slot_list_append PySem.F.type_list_append jbk (jdl (pv 0) rfl) (jaa (jdl (pv 0) rfl) jac jiC)))
  (jag (jfL (pv 0) (pv 1) rfl))),?_⟩
 have nyp:=hY.ne;obtain⟨dx,sL,ss,h1,h2,h3,h4⟩:=hY.ob;have l4:=h4.len;walk_at "rf";refine⟨_,rfl,y,Y,dx,_,_,rfl,h1,T.cl,T.nP,jhi _ _,.inl ⟨_,SqL.of h2⟩,_,rfl,y,Y,dx,_,_,rfl,h1,T.cl,T.nS,jgb _ _,pL,_,_,rfl,rfl,h2,?_,?_⟩
 ·rw[xaa];exact jaH (by omega)
 refine⟨_,rfl,_,rfl,y,Y,dx,jeg sL pL,rfl,?_,T.cl,T.nS,(by show 2<1000;decide),?_⟩
 ·rw[jak nyp];exact h1
 have sx:SX [y,pL] H (upd (upd H pL (.lst (ss.map V.ref++[.ref sL]))) y (.ins Y dx (jd5 "standing" (.ref sN) (jeg sL pL)))):=fun b o hb e=>by
  simp only[xac,xao,or_false,not_or] at hb;rw[jak hb.1,jak hb.2];exact e
 have hM:∀a∈[y,pL],a∈M:=fun a ha=>by
  simp only[xac,xao,or_false] at ha;rcases ha with rfl | rfl
  ·exact hY.yM
  ·exact hY.pM
 refine q _ sx ⟨hY.yM,hY.pM,fun m hm=>?_,dx,sN,ss++[sL],?_,?_,hn.keep (sx.rm hM),(h4.mono fun _ _ z=>z.keep (sx.rm hM)).app (.cons (h3.keep (sx.rm hM)) .nil)⟩
 ·refine Mut.up (Mut.up (hY.mu m hm) ?_) ?_<;>(intro _ z;cases z)
 ·rw[jaf,jhj]
 ·rw[jak (Ne.symm nyp),jaf,xal];rfl
def inN (x:Str) (st:List (Str × List Pt)):Bool:=(nmL st).any fun z=>z==x
theorem jks (st:List (Str × List Pt)):(stV st).all jeS=true:=by
 unfold stV;rw[List.all_map];exact xaY.mpr fun _ _=>rfl
theorem jnI (x:Str) (st:List (Str × List Pt)):inV (.str x) (stV st)=inN x st:=by
 unfold inV stV inN;rw[List.any_map];rfl
theorem jgC (st:List (Str × List Pt)):(stV st).length=st.length:=by
 unfold stV nmL;rw[xaa,xaa]
def jje (Y C3:Addr):Sp:=fun vs H Q E=>∃(M:List Addr) (y pL:Addr) (st:List (Str × List Pt)) (past:List (List (Str × List Pt))),vs=[.ref y]/\YardAt Y M H y pL st past/\past.length<=900 /\
 (∀p0 s0,past=p0++[s0]->∀H',SX [y,pL] H H'->YardAt Y M H' y pL s0 p0->Q .non H')/\(past=[]->∀H',Same H H'->E (.ref C3) none H')
theorem jmn (T:Tyd K mg t1 t2 cs SE Y) (F:AtM K Y "back" "Yard.back" jdc ["self"]):MethOk P w K mg base (XOk P w) 1 Y "back" ["self"] (jje Y (cs 3)):=by
 refine F.okX jdX (fun vs H Q E h=>?_) (fun f cdv A outer s H vs Q E hr h=>?_)
 ·obtain⟨M,y,pL,st,past,rfl,_⟩:=h;rfl
 obtain⟨M,y,pL,st,past,rfl,hY,hl,q1,q2⟩:=h;have S:=jdX;refine⟨_,(jae (jaQ (jcQ (jjA (jdl (pv 0) rfl) (fun _=>rfl)))
  (jag (jbT rfl rfl T.m_NoDeed T.x_NoDeed (jaa jaC jac jaj) jcq))
  jax)
  (jag (jfL (pv 0) (jkI PySem.F.plainAttrs_list PySem.F.slot_list_pop PySem.F.type_list_pop jm5 (jdl (pv 0) rfl)) rfl))),?_⟩
 obtain⟨dx,sL,ss,h1,h2,h3,h4⟩:=hY.ob;have nyp:=hY.ne;walk_at "rf";refine⟨_,rfl,y,Y,dx,_,_,rfl,h1,T.cl,T.nP,jhi _ _,?_⟩;have l4:=h4.len;refine⟨!(ss.map V.ref).isEmpty,.inl ⟨_,SqL.of h2,rfl⟩,?_⟩;by_cases ce:past=[]
 ·have es:ss=[]:=List.eq_nil_of_length_eq_zero (by rw[l4,ce];rfl);subst es;rw[if_pos (by rfl)];exact⟨by decide,q2 ce _ (Same.refl _)⟩
 obtain⟨p0,s0,rfl⟩:∃p0 s0,past=p0++[s0]:=⟨past.dropLast,past.getLast ce,(List.dropLast_concat_getLast ce).symm⟩;have ns:ss≠[]:=fun z=>by rw[z,xaf] at l4;cases l4
 obtain⟨ss0,a,rfl⟩:∃q0 t0,ss=q0++[t0]:=⟨ss.dropLast,ss.getLast ns,(List.dropLast_concat_getLast ns).symm⟩;have e0:(!((ss0++[a]).map V.ref).isEmpty)=true:=by simp
 rw[e0,if_neg (by decide)];have l0:ss0.length=p0.length:=by simpa using l4
 have h40:All2 (StAt (rm M H)) ss0 p0:=by
  have:=h4.take ss0.length;rw[List.take_left' rfl,List.take_left' l0.symm] at this;exact this
 have h4a:StAt (rm M H) a s0:=by
  have:=h4.drop ss0.length;rw[List.drop_left' rfl,List.drop_left' l0.symm] at this;cases this with
  | cons h _=>exact h
 refine⟨_,rfl,y,Y,dx,_,_,rfl,h1,T.cl,T.nP,jhi _ _,.inl ⟨rfl,_,SqL.of h2⟩,pL,_,.ref a,rfl,rfl,h2,?_,_,rfl,y,Y,dx,jeg sL pL,rfl,?_,T.cl,T.nS,(by show 2<1000;decide),?_⟩
 ·rw[xal,xaf];simp
 ·rw[jak nyp];exact h1
 have sx:SX [y,pL] H (upd (upd H pL (.lst ((ss0++[a]).map V.ref).dropLast)) y (.ins Y dx (jd5 "standing" (.ref a) (jeg sL pL)))):=fun b o hb e=>by
  simp only[xac,xao,or_false,not_or] at hb;rw[jak hb.1,jak hb.2];exact e
 have hM:∀a∈[y,pL],a∈M:=fun a ha=>by
  simp only[xac,xao,or_false] at ha;rcases ha with rfl | rfl
  ·exact hY.yM
  ·exact hY.pM
 refine q1 p0 s0 rfl _ sx ⟨hY.yM,hY.pM,fun m hm=>?_,dx,a,ss0,?_,?_,h4a.keep (sx.rm hM),h40.mono fun _ _ z=>z.keep (sx.rm hM)⟩
 ·refine Mut.up (Mut.up (hY.mu m hm) ?_) ?_<;>(intro _ z;cases z)
 ·rw[jaf,jhj]
 ·rw[jak (Ne.symm nyp),jaf,xal];show some (HO.lst (ss0.map V.ref++[V.ref a]).dropLast)=_;rw[List.dropLast_concat]
def jb7 (st:List (Str × List Pt)) (x:Str) (g:Bool):Option Nat:=if nm x=false then some 0 else if inN x st=true then some 0 else if g=false then some 1 else if 6<=st.length then some 2 else none
def jkt (Y:Addr) (cs:Nat->Addr):Sp:=fun vs H Q E=>∃(M:List Addr) (y pL l:Addr) (rs:List Addr) (ps:List Pt) (st:List (Str × List Pt)) (past:List (List (Str × List Pt))) (x:Str) (g:Bool),vs=[.ref y,.str x,.ref l]/\(g=true↔GoodB ps)/\YardAt Y M H y pL st past/\st.length<=6/\past.length<=900/\Lo x/\x.cps.size<=900/\Cor H l rs ps /\
 (jb7 st x g=none->∀H',SX [y,pL] H H'->YardAt Y M H' y pL (st++[(x,frm ps ps)]) (past++[st])->Q .non H')/\(∀i,jb7 st x g=some i->∀H',Same H H'->E (.ref (cs i)) none H')
theorem jnJ (T:Tyd K mg t1 t2 cs SE Y) (F:AtM K Y "put" "Yard.put" jdJ ["self","name","corners"]) (Dt:jap P w K mg base CX0 1 "is_name" ["text"] [] jle) (de:MethOk P w K mg base CX0 1 Y "names" ["self"] (jeO Y)) (Df:jap P w K mg base (XOk P w) 6 "made_board" ["corners"] [] (jhh (cs 1))) (dN:MethOk P w K mg base CX0 1 Y "do_deed" ["self","standing"] (spDo Y)):MethOk P w K mg base (XOk P w) 7 Y "put" ["self","name","corners"] (jkt Y cs):=by
  refine F.okX jeF (fun vs H Q E h=>?_) (fun f cdv A outer s H vs Q E hr h=>?_)
  . obtain⟨M,y,pL,l,rs,ps,st,past,x,g,rfl,_⟩:=h
    rfl
  obtain⟨M,y,pL,l,rs,ps,st,past,x,g,rfl,hg,hY,hn,hl,lo,l9,hc,q1,q2⟩:=h;have S:=jeF;refine⟨_,(jae (jaQ (jcQ (jbR (jai Dt hr.m rfl jav (jaa (pv 1) jac jah))))
    (jag (jbT rfl rfl T.m_NoName T.x_NoName (jaa jaC jac jaj) jcq))
    jax)
    (jae (jaQ (jat jih (pv 1) (jaR de (pv 0) T.cl hr.m jav) rfl)
    (jag (jbT rfl rfl T.m_NoName T.x_NoName (jaa jaC jac jaj) jcq))
    jax)
    (jae (jas (i:=3) S.nd rfl (Or.inl rfl) (jai Df hr.m rfl pass1 (jaa (pv 2) jac jah)))
    (jae (jaQ (jat jmY (jaz jaB rfl T.m_len PySem.boot_len (jaa (jdl (pv 0) rfl) jac jiC)) (jc5 rfl T.m_MOST_BOARDS T.r_MOST_BOARDS) (jaw _))
    (jag (jbT rfl rfl T.m_TooMany T.x_TooMany (jaa jaC jac jaj) jcq))
    jax)
    (jag (jbi (jec dN (pv 0) T.cl hr.m jav (jaa (jao jcS (jdl (pv 0) rfl) (jaV (jaa (jbG (jaa (pv 1) (jaa (pv 3) jac jah) jah)) jac jbh))) jac jaX)))))))),?_⟩
  obtain⟨dx,sL,ss,h1,h2,h3,h4⟩:=hY.ob;walk_at "rf";refine⟨x,rfl,lo,l9,fun H1 s1=>⟨_,rfl,?_⟩⟩;cases c1:nm x with
  | false =>
    rw[if_pos rfl];exact⟨by decide,q2 0 (by unfold jb7;rw[if_pos c1]) _ s1⟩
  | true =>
  have n1:¬nm x=false:=by rw[c1];decide
  rw[if_neg (by decide)];refine⟨_,rfl,y,dx,_,rfl,s1 _ _ h1,ja0 (by decide +kernel) (by decide +kernel),y,dx,sL,pL,st,rfl,s1 _ _ h1,h3.keep ((jbV _ _).trans s1),by omega,fun nl H2 hnl s2 e2=>?_⟩;refine⟨nl,_,rfl,.inl (SqL.of e2),rfl,jks st,_,rfl,?_⟩;rw[show (if false=true then !inV (V.str x) (stV st) else inV (V.str x) (stV st))=inN x st from jnI x st];have s12:=s1.trans s2;cases c2:inN x st with
  | true =>
    rw[if_pos rfl];exact⟨by decide,q2 0 (by unfold jb7;rw[if_neg n1,if_pos c2]) _ s12⟩
  | false =>
  have n2:¬inN x st=true:=by rw[c2];decide
  rw[if_neg (by decide)];refine⟨l,rs,ps,rfl,hc.keep s12,fun G t H3 s3 e3=>?_,fun G H3 s3=>q2 1 ?_ _ (s12.trans s3)⟩
  . have s13:=s12.trans s3
    obtain⟨srs,i1,i2⟩:=h3.keep (jdN s13);have ln:=i2.len;have gt:g=true:=hg.mpr G;have n3:¬g=false:=by rw[gt];decide
    refine⟨_,rfl,y,Y,dx,_,_,rfl,s13 _ _ h1,T.cl,T.nS,jgb _ _,sL,rfl,_,.inl (SqL.of (ja3 i1).1),?_⟩;rw[xaa,ln];by_cases c4:6<=st.length
    . rw[if_pos (by omega)]
      exact⟨by decide,q2 2 (by unfold jb7;rw[if_neg n1,if_neg n2,if_neg n3,if_pos c4]) _ s13⟩
    rw[if_neg (by omega)];refine⟨_,rfl,y,dx,_,rfl,s13 _ _ h1,ja0 (by decide +kernel) (by decide +kernel),_,rfl,y,Y,dx,_,_,rfl,s13 _ _ h1,T.cl,T.nS,jgb _ _,?_⟩;refine⟨_,rfl,_,rfl,by show 2<=sizeLine;decide,fun a1 n1'=>ja6 n1' fun J1 j1 k1=>⟨by show 1<=sizeLine;decide,fun a2 n2'=>ja6 n2' fun J2 j2 k2=>?_⟩⟩;have s02:=s13.trans (j1.trans j2);refine⟨sL,a2,_,_,rfl,rfl,j2 _ _ (j1 _ _ (ja3 i1).1),k2,?_,fun a3 n3'=>ja6 n3' fun J3 j3 k3=>?_⟩
    . rw[xaa,ln]
      exact xa1 (jaH (by show st.length+1<1000;omega))
    have s03:=s02.trans j3;have r1:rm M J3 a1=some (.tup [.str x,.ref t]):=jc4 (j3 _ _ (j2 _ _ k1)) fun z=>hY.al a1 z (s13.noneN n1');have r3:rm M J3 a3=some (.lst ((srs++[a1]).map V.ref)):=by
      refine jc4 ?_ fun z=>hY.al a3 z (s02.noneN n3');rw[k3,xal];rfl
    have ft:rm M J3 t=some (.tup ((frm ps rs).map V.ref)):=jc4 (j3 _ _ (j2 _ _ (j1 _ _ e3))) fun z=>?_
    . have b0:BoAt (rm M J3) t (frm ps ps):=⟨_,ft,((jjd hY.mu hc.2).keep (jdN s03).t).frm⟩
      refine⟨M,y,pL,a3,st,st++[(x,frm ps ps)],past,rfl,hY.keep s03,⟨_,r3,(i2.mono fun _ _ h=>h.keep (jdN (j1.trans (j2.trans j3)))).app (.cons ⟨⟨t,r1,b0⟩,lo⟩ .nil)⟩,hl,fun H4 s4 h4=>?_⟩;exact q1 (by unfold jb7;rw[if_neg n1,if_neg n2,if_neg n3,if_neg c4]) H4 ((Same.x s03 _).trans s4) h4
    . obtain⟨o,e,n⟩:=hY.mu t z
      rw[s13 _ _ e] at e3;exact n _ (Option.some.inj e3)
  . unfold jb7
    have gf:g=false:=by
      cases g with
      | false=>rfl
      | true=>exact absurd (hg.mp rfl) G
    rw[if_neg n1,if_neg n2,if_pos gf]
abbrev Rws:=List (Str × List Pt)
def jfx (Y:Addr):Sp:=fun vs H Q _=>∃(M:List Addr) (y pL:Addr) (st:List (Str × List Pt)) (past:List (List (Str × List Pt))),vs=[.ref y]/\YardAt Y M H y pL st past/\∀(p':Addr) (H':Hp),H p'=none->SX [y] H H'->YardAt Y (p'::M) H' y p' st []->Q .non H'
theorem jjf (T:Tyd K mg t1 t2 cs SE Y) (F:AtM K Y "settle" "Yard.settle" jcg ["self"]):MethOk P w K mg base CX0 1 Y "settle" ["self"] (jfx Y):=by
 refine F.ok jcZ (fun vs H Q E h=>?_) (fun f cdv A outer s H vs Q E hr h=>?_)
 ·obtain⟨M,y,pL,st,past,rfl,_⟩:=h;rfl
 obtain⟨M,y,pL,st,past,rfl,hY,q⟩:=h;have S:=jcZ;refine⟨_,(jag (jfL (pv 0) (jaV jac) rfl)),?_⟩;obtain⟨dx,sL,ss,h1,h2,h3,h4⟩:=hY.ob;walk_at "rf";refine⟨by decide,fun a ha=>⟨_,rfl,y,Y,dx,jeg sL pL,rfl,?_,T.cl,T.nP,(by show 2<1000;decide),?_⟩⟩
 ·rw[jak (jal h1 ha)];exact h1
 have nya:=jal h1 ha;have aM:a∉M:=fun z=>hY.al a z ha;have sx:SX [y] H (upd (upd H a (.lst [])) y (.ins Y dx (jd5 "past" (.ref a) (jeg sL pL)))):=fun b o hb e=>by
  simp only[xac,xao,or_false] at hb;rw[jak hb,jak (jal e ha)];exact e
 have ea:upd (upd H a (.lst [])) y (.ins Y dx (jd5 "past" (.ref a) (jeg sL pL))) a=some (.lst []):=by
  rw[jak (fun z=>nya z.symm),jaf]
 have sm:Same (rm M H) (rm (a::M) (upd (upd H a (.lst [])) y (.ins Y dx (jd5 "past" (.ref a) (jeg sL pL))))):=fun b o e=>by
  have g:=ja3 e;refine jc4 (sx b o (fun z=>g.2 ?_) g.1) fun z=>?_
  ·rw[xak.mp z];exact hY.yM
  ·rcases xac.mp z with z | z
   ·rw[z,ha] at g;cases g.1
   ·exact g.2 z
 refine q a _ ha sx ⟨.tail _ hY.yM,.head _,fun m hm=>?_,dx,sL,[],?_,ea,h3.keep sm,.nil⟩
 ·rcases xac.mp hm with z | z
  ·rw[z];exact⟨_,ea,fun xs h=>nomatch h⟩
  ·by_cases c:m=y
   ·rw[c];exact⟨_,jaf,fun xs h=>nomatch h⟩
   ·obtain⟨o,e,n⟩:=hY.mu m z;exact⟨o,sx m o (fun z=>c (xak.mp z)) e,n⟩
 ·rw[jaf];rfl
theorem jnK {b c:Bool}:(if true=true then b else c)=b:=rfl
def boD (b:List Pt):PyData:=.tuple (b.map fun p=>.tuple [.int p.x,.int p.y,.int p.z,.int p.w])
theorem jmo (h:Sps H rs ps):RdsAll K H (rs.map V.ref) (ps.map fun p=>.tuple [.int p.x,.int p.y,.int p.z,.int p.w]):=by
 induction h with
 | nil=>exact .nil
 | cons h _ ih=>exact .cons (.tup (SqT.of h.1) (.cons (.int _) (.cons (.int _) (.cons (.int _) (.cons (.int _) .nil))))) ih
theorem jjg {ts:List Addr} {bs:List (List Pt)} (h:All2 (BoAt H) ts bs):RdsAll K H (ts.map V.ref) (bs.map boD):=by
  induction h with
  | nil=>exact .nil
  | cons h _ ih =>
    obtain⟨rs,e,q⟩:=h;exact .cons (.tup (SqT.of e) (jmo q)) ih
theorem jch {H:Hp}:∀(xs:List Str),RdsAll K H (xs.map V.str) (xs.map PyData.str)
 | []=>.nil
 | x::xs=>.cons (.str x) (jch xs)
theorem lo_ok {x:Str} (h:Lo x):PyData.strOk x=true:=by
 unfold PyData.strOk;rw[Array.all_eq_true];intro i hi;have:=h x.cps[i] (by simp);exact decide_eq_true (by omega)
theorem jfy:∀{ds:List PyData},(∀d∈ds,PyData.canLay0 d=true)->PyData.canLayAll0 ds=true
  | [],_=>by simp [PyData.canLayAll0]
  | d :: ds, h => by
    rw[PyData.canLayAll0,h d (xav ..),jfy fun x hx=>h x (xaq _ hx)];rfl
theorem jfz {n:Nat}:∀{ds:List PyData},(∀d∈ds,PyData.depth d<=n)->PyData.depthAll ds<=n
  | [],_=>by rw[PyData.depthAll];omega
  | d :: ds, h => by
    rw[PyData.depthAll];have h1:=h d (xav ..);have h2:=jfz (ds:=ds) fun x hx=>h x (xaq _ hx);omega
theorem jlj (b:List Pt):PyData.canLay0 (boD b)=true/\PyData.depth (boD b)<=2:=by
 unfold boD;rw[PyData.canLay0,PyData.depth];refine⟨jfy fun d hd=>?_,Nat.succ_le_succ (jfz fun d hd=>?_)⟩
 ·obtain⟨p,_,rfl⟩:=xaA.mp hd;simp [PyData.canLay0,PyData.canLayAll0]
 ·obtain⟨p,_,rfl⟩:=xaA.mp hd;simp [PyData.depth,PyData.depthAll]
theorem jgD {st:Rws} (lo:∀it∈st,Lo it.1):SeqAt.shaped (.list ((nmL st).map PyData.str))=true:=by
 have c:PyData.canLayAll0 ((nmL st).map PyData.str)=true:=jfy fun d hd=>by
  obtain⟨x,hx,rfl⟩:=xaA.mp hd;obtain⟨it,hi,rfl⟩:=xaA.mp hx;rw[PyData.canLay0];exact lo_ok (lo it hi)
 have e:PyData.depthAll ((nmL st).map PyData.str)<=0:=jfz fun d hd=>by
  obtain⟨x,hx,rfl⟩:=xaA.mp hd;rw[PyData.depth];exact xae _
 unfold SeqAt.shaped;rw[PyData.canLay0,c,PyData.depth,decide_eq_true (by omega)];rfl
theorem jhk {x dx sL:Addr} (mu:∀m∈M,Mut H m) (nx:H x=none) (ndx:H dx=none) (ne:dx≠x) (n1:upd (upd H dx (.own x)) x (.ins Y dx []) sL=none) (n2:upd (upd H dx (.own x)) x (.ins Y dx []) pL=none) (n3:sL≠pL)
  (sx:SX [x] (upd (upd H dx (.own x)) x (.ins Y dx [])) H') (e1:H' x=some (.ins Y dx (jeg sL pL))) (e2:H' sL=some (.lst [])) (e3:H' pL=some (.lst [])):YardAt Y ([x,pL]++M) H' x pL [] []/\Same H H'/\H pL=none/\x≠pL:=by
 have hs:Same H H':=fun b o e=>by
  have bx:b≠x:=jal e nx;refine sx b o (fun z=>bx (xak.mp z)) ?_;rw[jak bx,jak (jal e ndx)];exact e
 have xp:x≠pL:=fun z=>by rw[<- z,jaf] at n2;cases n2
 have xs:x≠sL:=fun z=>by rw[<- z,jaf] at n1;cases n1
 have pn:H pL=none:=by
  rw[jak (Ne.symm xp)] at n2;by_cases c:pL=dx
  ·rw[c,jaf] at n2;cases n2
  ·rw[jak c] at n2;exact n2
 have sn:H sL=none:=by
  rw[jak (Ne.symm xs)] at n1;by_cases c:sL=dx
  ·rw[c,jaf] at n1;cases n1
  ·rw[jak c] at n1;exact n1
 refine⟨⟨by simp,by simp,fun m hm=>?_,dx,sL,[],e1,e3,⟨[],jc4 e2 fun z=>?_,.nil⟩,.nil⟩,hs,pn,xp⟩
 ·rcases xay.mp hm with h | h
  ·simp only[xac,xao,or_false] at h;rcases h with rfl | rfl
   ·exact Mut.is e1
   ·exact Mut.ls e3
  ·exact (mu m h).keep hs
 ·rcases xay.mp z with h | h
  ·simp only[xac,xao,or_false] at h;rcases h with h | h
   ·exact xs h.symm
   ·exact n3 h
  ·exact (mu sL h).nn sn
theorem SX.mono {S':List Addr} (s:SX S H H') (h:∀a∈S,a∈S'):SX S' H H':=fun b o n e=>s b o (fun z=>n (h b z)) e
theorem MethOk.calm {k:Nat} {C:Addr} {m:Str} {ps:List Str} {sp:Sp} (h:MethOk P w K mg base (XOk P w) k C m ps sp):MethOk P w K mg base CX0 k C m ps (fun vs H Q _=>sp vs H Q fun _ _ _=>False):=by
 obtain⟨f,fd,F,M,B⟩:=h;refine⟨f,fd,⟨fun vs H Q E z=>F.len vs H Q _ z,fun A outer s H args us vs Q E hr he hb hv z=>codeAny_mono (F.run A outer s H args us vs Q _ hr he hb hv z) fun r s' q=>?_⟩,M,B⟩;unfold CR at q |-
 split at q
 ·exact q
 ·exact q
 ·obtain⟨_,_,_,_,_,_,_,_,_,_,_,_,_,_,_,e⟩:=q;exact e.elim
theorem jnL:Str.ofString " "=⟨#[32]⟩:=by decide +kernel
theorem c_nl:Str.ofString "\n"=⟨#[10]⟩:=by decide +kernel
def ptT (p:Pt):Str:=jd7 (tx3 p.x p.y p.z) p.w
def wdT (it:Str × List Pt):List Str:=Str.ofString "board"::it.1::it.2.map ptT
def jeP (it:Str × List Pt):Str:=Txt.join (Str.ofString " ") (wdT it)
def yT (st:Rws):Str:=Txt.join (Str.ofString "\n") (st.map jeP)
structure PtB (p:Pt):Prop where
 x:TB p.x
 y:TB p.y
 z:TB p.z
 w:TB p.w
 w1:1<=p.w
 g1:gl [p.x,p.y,p.z,p.w]=1
structure NmB (x:Str):Prop where
 az:AZ x
 s1:1<=x.cps.size
 s8:x.cps.size<=8
structure ItB (it:Str × List Pt):Prop where
 n:NmB it.1
 p3:3<=it.2.length
 p8:it.2.length<=8
 p:∀p∈it.2,PtB p
theorem jjh {b:Int} {d:Nat} (h:d∈sg (tx3 a b c)):44<=d:=by
 rw[jhg] at h;simp only[xay,xac] at h;rcases h with h | h | h | h | h
 ·rcases jb1 h with h | h<;>omega
 ·omega
 ·rcases jb1 h with h | h<;>omega
 ·omega
 ·rcases jb1 h with h | h<;>omega
theorem jmp {d:Nat} (h:d∈sg (ptT p)):44<=d:=by
 unfold ptT jd7 at h;split at h
 ·exact jjh h
 ·rw[jbs,jbs] at h;simp only[xay] at h;rcases h with (h | h) | h
  ·exact jjh h
  ·have:d=47:=xak.mp h;omega
  ·rcases jb1 h with h | h<;>omega
theorem jmq (h:PtB p):(ptT p).length<=240:=by
 have l:=jeN h.x h.y h.z;have lw:=h.w.len;unfold ptT jd7;split
 ·omega
 ·rw[<- jaT,jbs,jbs,xaf,xaf,jaT,jaT,jaT];have:sl.length=1:=rfl;omega
theorem jfA {it:Str × List Pt} (h:ItB it):∀x∈wdT it,(∀d∈sg x,33<=d)/\x.length<=240:=fun x hx=>by
 rcases xac.mp hx with rfl | hx
 ·exact⟨by decide +kernel,by decide +kernel⟩
 rcases xac.mp hx with rfl | hx
 ·refine⟨fun d hd=>?_,by have:=h.n.s8;show it.1.cps.size<=240;omega⟩;have:=h.n.az d hd;omega
 ·obtain⟨p,hp,rfl⟩:=xaA.mp hx;exact⟨fun d hd=>by have:=jmp hd;omega,jmq (h.p p hp)⟩
theorem jgE {it:Str × List Pt}:(wdT it).length=it.2.length+2:=by
 unfold wdT;rw[xam,xam,xaa]
theorem jcL (z:Str) (x:Str) (r:List Str):Txt.join z (x::r)=Str.join z (x::r):=by
 unfold Txt.join;rw[StrLaws.glued_eq_join]
theorem jhQ {it:Str × List Pt} (h:ItB it):Txt.split (jeP it) (Str.ofString " ")=wdT it:=by
 unfold jeP;have e:wdT it=Str.ofString "board"::(it.1::it.2.map ptT):=rfl;rw[e,jcL,jnL];refine jdM (fun z=>?_) fun y hy z=>?_
 ·exact absurd z (by decide +kernel)
 ·have:=(jfA h y (.tail _ hy)).1 _ z;omega
theorem jji {it:Str × List Pt} (h:ItB it):JoinOk (Str.ofString " ") (wdT it)=true:=by
 unfold JoinOk;have l:=jgE (it:=it);have p8:=h.p8;rw[StrLaws.joinFits (B:=240) (fun w hw=>(jfA h w hw).2) (by rw[jnL];show (wdT it).length*240+(wdT it).length*1<=16777216;omega)];rfl
theorem jhl {α:Type} {B:Nat}:∀{l:List (List α)},(∀x∈l,x.length<=B)->l.flatten.length<=l.length*B
  | [],_=>xaG _
  | x :: l, h => by
    rw[List.flatten_cons,xaf,xam,Nat.succ_mul];have:=h x (.head _);have:=jhl (l:=l) fun y hy=>h y (.tail _ hy);omega
theorem jku (z:Str) {xs:List Str} {d:Nat} (h:d∈sg (Txt.join z xs)):d∈sg z\/∃x∈xs,d∈sg x:=by
  cases xs with
  | nil=>exact absurd h (by unfold Txt.join;rw[StrLaws.glued_eq_join];exact xao)
  | cons x r =>
    rw[jcL,jcI] at h;rcases xay.mp h with h | h
    . exact .inr ⟨x,.head _,h⟩
    . obtain⟨l,hl,hd⟩:=List.mem_flatten.mp h
      obtain⟨y,hy,rfl⟩:=xaA.mp hl;rcases xay.mp hd with hd | hd
      . exact .inl hd
      . exact .inr ⟨y,.tail _ hy,hd⟩
theorem jhm (c:Nat) {xs:List Str} {B:Nat} (h:∀x∈xs,x.length<=B):(Txt.join ⟨#[c]⟩ xs).length<=xs.length*(B+1):=by
  cases xs with
  | nil=>rw[<- jaT];unfold Txt.join;rw[StrLaws.glued_eq_join];exact xaG _
  | cons x r =>
    rw[jcL,<- jaT,jcI,xaf,jaT,xam,Nat.succ_mul];have h1:=h x (.head _);have h2:=jhl (B:=B+1) (l:=r.map fun y=>sg (⟨#[c]⟩:Str)++sg y) fun l hl=>by
      obtain⟨y,hy,rfl⟩:=xaA.mp hl;rw[xaf,jaT,jaT];have:=h y (.tail _ hy);show 1+y.length<=B+1;omega
    rw[xaa] at h2;omega
theorem jeh {it:Str × List Pt} (h:ItB it):(∀d∈sg (jeP it),32<=d)/\(jeP it).length<=2410:=by
 refine⟨fun d hd=>?_,?_⟩
 ·rcases jku _ hd with hd | ⟨x,hx,hd⟩
  ·rw[jnL] at hd;have:d=32:=xak.mp hd;omega
  ·have:=(jfA h x hx).1 d hd;omega
 ·unfold jeP;rw[jnL];have l:=jhm 32 (B:=240) (xs:=wdT it) fun x hx=>(jfA h x hx).2;have l2:=jgE (it:=it);have p8:=h.p8;omega
theorem jkv {it:Str × List Pt} {st:Rws} (h:∀i∈it::st,ItB i):Txt.split (yT (it::st)) (Str.ofString "\n")=(it::st).map jeP:=by
 unfold yT;rw[xaT,jcL,c_nl];refine jdM (fun z=>?_) fun y hy z=>?_
 ·have:=(jeh (h it (.head _))).1 _ z;omega
 ·obtain⟨i,hi,rfl⟩:=xaA.mp hy;have:=(jeh (h i (.tail _ hi))).1 _ z;omega
theorem jmr {st:Rws} (h:∀i∈st,ItB i) (l6:st.length<=6):JoinOk (Str.ofString "\n") (st.map jeP)=true/\(yT st).length<=16000:=by
 have m:∀x∈st.map jeP,x.length<=2410:=fun x hx=>by
  obtain⟨i,hi,rfl⟩:=xaA.mp hx;exact (jeh (h i hi)).2
 constructor
 ·unfold JoinOk;rw[StrLaws.joinFits (B:=2410) m (by rw[c_nl,xaa];show st.length*2410+st.length*1<=16777216;omega)];rfl
 ·unfold yT;rw[c_nl];have:=jhm 10 m;rw[xaa] at this;omega
theorem jhn {st:Rws} (h:∀i∈st,ItB i):yT st=Str.ofString ""↔st=[]:=by
  constructor
  . intro e
    cases st with
    | nil=>rfl
    | cons it st =>
      exfalso;have z:=congrArg sg e;unfold yT at z;rw[xaT,jcL,jcI] at z;have z2:sg (jeP it)=[]:=(List.append_eq_nil_iff.mp (z.trans (show sg (Str.ofString "")=[] by decide +kernel))).1;unfold jeP at z2;have e2:wdT it=Str.ofString "board"::(it.1::it.2.map ptT):=rfl;rw[e2,jcL,jcI] at z2;exact absurd (List.append_eq_nil_iff.mp z2).1 (by decide +kernel)
  . intro e
    rw[e];decide +kernel
theorem jlk (h:Sps H rs ps):∀{i:Nat} {r:Addr},rs[i]?=some r->∃p,ps[i]?=some p/\Is4 H r p:=by
  induction h with
  | nil=>intro i r z;cases z
  | cons h _ ih =>
    intro i r z;cases i with
    | zero=>cases z;exact⟨_,rfl,h⟩
    | succ i=>exact ih z
theorem jjj {ys:List V} (l:ys.length=ps.length) (h:∀(i:Nat) (y:V),ys[i]?=some y->∀p,ps[i]?=some p->y=.str (ptT p)):ys=(ps.map ptT).map V.str:=by
 apply xbw;intro i;rw[xad,xad];by_cases c:i<ys.length
 ·rw[xab c,xab (l▸c)];exact congrArg some (h i _ (xab c) _ (xab (l▸c)))
 ·rw[xaK (by omega),xaK (by omega)];rfl
theorem jll {t acc:Addr} {Z:Hp->Prop} (e:H t=some (.tup (rs.map V.ref))) (h:Sps H rs ps) (hb:∀p∈ps,PtB p) (l8:ps.length<=8) (hacc:H acc=none) (hd:∀H',Same H H'->H' acc=some (.lst ((ps.map ptT).map V.str))->Z H'):CompGo (Itt K t) ρ (jbt 0) jb3 (jfN jmH [] E0 (jfM (jjp 0) jgN)) acc Z H:=by
 have ln:=h.len;refine jna (zs:=rs.map V.ref) (fun i y _=>∀p,ps[i]?=some p->y=.str (ptT p)) (fun _ _ _ _ h _=>h) (by rw[xaa];omega) hacc (SqT.of e) (fun i z H3 R hz s3 hR=>?_) fun ys H' s' e' l' p'=>hd H' s' ?_
 ·rw[xad] at hz;obtain⟨r,hr,rfl⟩:=xau.mp hz;obtain⟨p,hp,h4⟩:=jlk h hr;have b:=hb p (xas hp);refine⟨_,rfl,r,p.x,p.y,p.z,p.w,rfl,s3 _ _ h4.1,b.x,b.y,b.z,b.w,b.w1,fun H4 s4=>hR _ H4 s4 fun p' hp'=>?_⟩;rw[hp] at hp';cases hp';rfl
 ·rw[e',jjj (by rw[l',xaa];omega) p']
theorem jnM {t acc:Addr} {Z:Hp->Prop} (e:H t=some (.lst (rs.map V.ref))) (h:Sps H rs ps) (hb:∀p∈ps,PtB p) (l8:ps.length<=8) (hacc:H acc=none) (hd:∀H',Same H H'->H' acc=some (.lst ((ps.map ptT).map V.str))->Z H'):CompGo (Itl K t) ρ (jbt 0) jb3 (jfN jmH [] E0 (jfM (jjp 0) jgN)) acc Z H:=by
 have ln:=h.len;refine jf0 (zs:=rs.map V.ref) (fun i y _=>∀p,ps[i]?=some p->y=.str (ptT p)) (fun _ _ _ _ h _=>h) (by rw[xaa];omega) hacc (SqL.of e) (fun i z H3 R hz s3 hR=>?_) fun ys H' s' e' l' p'=>hd H' s' ?_
 ·rw[xad] at hz;obtain⟨r,hr,rfl⟩:=xau.mp hz;obtain⟨p,hp,h4⟩:=jlk h hr;have b:=hb p (xas hp);refine⟨_,rfl,r,p.x,p.y,p.z,p.w,rfl,s3 _ _ h4.1,b.x,b.y,b.z,b.w,b.w1,fun H4 s4=>hR _ H4 s4 fun p' hp'=>?_⟩;rw[hp] at hp';cases hp';rfl
 ·rw[e',jjj (by rw[l',xaa];omega) p']
def spYT (Y:Addr):Sp:=fun vs H Q _=>∃(y dx sL pL:Addr) (st:Rws),vs=[.ref y]/\H y=some (.ins Y dx (jeg sL pL))/\StAt H sL st/\st.length<=6/\(∀it∈st,ItB it)/\∀H',Same H H'->Q (.str (yT st)) H'
theorem ok_yt (T:Tyd K mg t1 t2 cs SE Y) (F:At K mg "yard_text" jbL ["yard"] []) (de:MethOk P w K mg base CX0 1 Y "names" ["self"] (jeO Y)) (dm:MethOk P w K mg base CX0 1 Y "boards" ["self"] (jfw Y)) (Di:jap P w K mg base CX0 4 "spot_text" ["spot"] [] jmH):jap P w K mg base CX0 5 "yard_text" ["yard"] [] (spYT Y):=by
 refine F.ok jdU (fun vs H Q E h=>?_) (fun f cdv A outer s H vs Q E hr h=>?_)
 ·obtain⟨y,dx,sL,pL,st,rfl,_⟩:=h;rfl
 obtain⟨y,dx,sL,pL,st,rfl,h1,h3,l6,hB,q⟩:=h;have S:=jdU;refine⟨_,(jae (jas (i:=1) S.nd rfl (Or.inl rfl) (jaV jac))
  (jae (ja1 PassesOwn.never rfl (jne rfl T.m_zip (jaa (jaR de (pv 0) T.cl hr.m jav) (jaa (jaR dm (pv 0) T.cl hr.m jav) jac jaJ) jaJ)) (jeV rfl (jaK (jan (i:=2) S.nd rfl (Or.inl rfl)) (jaK (jan (i:=3) S.nd rfl (Or.inl rfl)) jcm)))
  (jag (jbi (jb2 PySem.F.plainAttrs_list PySem.F.slot_list_append PySem.F.type_list_append jbk (pv 1) (jaa (jb2 PySem.F.plainAttrs_str PySem.F.slot_str_join PySem.F.type_str_join jeu jaC (jaa (jao jcS (jaV (jaa jaC (jaa (pv 2) jac jah) jaj)) (jaU rfl (N':=["corner"]) (ix:=[]) ⟨rfl,rfl,by decide +kernel,by decide +kernel,by decide +kernel,(show ∀y:Str × NameKind,y∈_->y.2=NameKind.free->(jad jbL).names.lookup y.1=some .cell\/(jad jbL).names.lookup y.1=some .free from by decide +kernel),.nil⟩ (jeX (pv 3)) (fun _ _ _ _=>jan (i:=0) (show (["corner"]:List Str).Nodup from by decide +kernel) rfl (Or.inl rfl)) (fun _ _ _ _=>ja4) (fun _ _ _ _=>(jai Di hr.m rfl jav (jaa (pv 0) jac jah))))) jac jaX)) jac jaJ)))))
  (jag (jaq (jb2 PySem.F.plainAttrs_str PySem.F.slot_str_join PySem.F.type_str_join jeu jaC (jaa (pv 1) jac jah)))))),?_⟩
 walk_at "rf";refine⟨by decide,fun R hR=>ja6 hR fun J1 j1 k1=>?_⟩;rw[L2.jnf];refine⟨_,rfl,y,dx,_,rfl,j1 _ _ h1,ja0 (by decide +kernel) (by decide +kernel),y,dx,sL,pL,st,rfl,j1 _ _ h1,h3.keep j1,by omega,fun l1 H1 n1 s1 e1=>?_⟩;have s01:=j1.trans s1;refine⟨_,rfl,y,dx,_,rfl,s01 _ _ h1,ja0 (by decide +kernel) (by decide +kernel),y,dx,sL,pL,st,rfl,s01 _ _ h1,h3.keep s01,by omega,fun l2 ts H2 n2 s2 e2 a2=>?_⟩;refine⟨l1,l2,rfl,⟨_,SqL.of (s2 _ _ e1)⟩,⟨_,SqL.of e2⟩,?_⟩;have lt:=a2.len;rw[xaa] at lt;have m1:l1∉[R]:=fun z=>jal k1 n1 (xak.mp z).symm;have m2:l2∉[R]:=fun z=>jal (s1 _ _ k1) n2 (xak.mp z).symm;refine jlO (K:=K) (a:=l1) (b:=l2) (xs:=stV st) (ys:=ts.map V.ref) (by rw[jgC,xaa,lt]) (fun i σ Hh=>∃o2 o3:Option V,σ=[some (.ref y),some (.ref R),o2,o3]/\SX [R] H2 Hh/\Hh R=some (.lst (((st.take i).map jeP).map V.str))) ⟨_,_,rfl,SX.refl _ _,s2 _ _ (s1 _ _ k1)⟩ (fun i σ Hh _ ⟨_,_,_,sx,_⟩=>⟨SqL.of (sx _ _ m1 (s2 _ _ e1)),SqL.of (sx _ _ m2 e2)⟩) ?_ ?_
 ·rintro i v v' σ Hh Tt hv hv' ⟨o2,o3,rfl,sx,kR⟩ hTt;unfold stV nmL at hv;rw[xaW,xad] at hv;rw[xad] at hv';obtain⟨it,hit,rfl⟩:=xau.mp hv;obtain⟨t,ht,rfl⟩:=xau.mp hv';obtain⟨b,hb,bo⟩:=a2.getA ht;rw[xad,hit] at hb;cases hb;have iB:=hB it (xas hit);obtain⟨us,eu,su⟩:=bo;refine ja6 hTt fun G g kT=>?_;walk_at "rf";have sG:SX [R] H2 G:=sx.trans (Same.x g _);have kG:=g _ _ kR;have mt:t∉[R]:=fun z=>by rw[xak.mp z,s2 _ _ (s1 _ _ k1)] at eu;cases eu
  have sT:SameT H2 G:=fun b o e=>sG b _ (fun z=>by rw[xak.mp z,s2 _ _ (s1 _ _ k1)] at e;cases e) e;refine⟨_,SqT.of kT,rfl,_,_,rfl,_,_,rfl,rfl,.inl ⟨_,SqL.of kG⟩,by show 2<=sizeLine;decide,fun p hp=>ja6 hp fun G1 g1 q1=>⟨_,rfl,⟨_,SqT.of (g1 _ _ (sG _ _ mt eu))⟩,fun acc hacc=>jll (g1 _ _ (sG _ _ mt eu)) ((su.keep sT).keep g1.t) iB.p iB.p8 hacc fun G2 g2 q2=>?_⟩⟩;have p8:=iB.p8;refine⟨p,acc,_,_,rfl,rfl,g2 _ _ q1,q2,by show 2+_<=_;rw[xaa,xaa];exact xa1 (jaH (by show 2+it.2.length<1000;omega)),fun a3 n3=>ja6 n3 fun G3 g3 q3=>⟨a3,rfl,wdT it,SqL.of q3,jji iB,R,_,_,rfl,rfl,g3 _ _ (g2 _ _ (g1 _ _ kG)),?_,?_,?_⟩⟩
  ·rw[xaa,xaa,xat];exact jaH (by omega)
  ·refine sG.trans (fun b o hb e=>?_);rw[jak (fun z=>hb (by rw[z];exact .head _))];exact g3 _ _ (g2 _ _ (g1 _ _ e))
  ·rw[jaf,xaH,hit,xal,xal];rfl
 ·rintro σ Hh ⟨o2,o3,rfl,sx,kR⟩;rw[jgC,xaL] at kR;walk_at "rf";refine⟨st.map jeP,SqL.of kR,(jmr hB l6).1,q _ fun b o e=>?_⟩;exact sx b o (fun z=>by rw[xak.mp z,hR] at e;cases e) (s2 _ _ (s01 _ _ e))
def LTAt (H:Hp) (r:Addr) (ps:List Pt):Prop:=∃us,(H r=some (.lst (us.map V.ref))\/H r=some (.tup (us.map V.ref)))/\Sps H us ps
def spLR:Sp:=fun vs H Q _=>∃(n l:Addr) (xs:List Str) (rs:List Addr) (bs:List (List Pt)),vs=[.ref n,.ref l]/\H n=some (.lst (xs.map V.str))/\H l=some (.lst (rs.map V.ref))/\All2 (LTAt H) rs bs/\xs.length=bs.length/\xs.length<=6/\(∀it∈xs.zip bs,ItB it)/\∀H',Same H H'->Q (.str (yT (xs.zip bs))) H'
theorem jkw (T:Tyd K mg t1 t2 cs SE Y) (F:At K mg "_law_rows" jbO ["names","boards"] []) (dJ:jap P w K mg base CX0 1 "_law_spot_text" ["spot"] [] jmH):jap P w K mg base CX0 2 "_law_rows" ["names","boards"] [] spLR:=by
 refine F.ok jd2 (fun vs H Q E h=>?_) (fun f cdv A outer s H vs Q E hr h=>?_)
 ·obtain⟨n,l,xs,rs,bs,rfl,_⟩:=h;rfl
 obtain⟨n,l,xs,rs,bs,rfl,h1,h2,h3,lb,l6,hB,q⟩:=h;have S:=jd2;refine⟨_,(jae (jas (i:=2) S.nd rfl (Or.inl rfl) (jaV jac))
  (jae (ja1 PassesOwn.never rfl (jaG rfl T.m_range (jaa (jaz jaB rfl T.m_len PySem.boot_len (jaa (pv 0) jac jah)) jac jaJ)) (jan (i:=3) S.nd rfl (Or.inl rfl))
  (jae (jas (i:=4) S.nd rfl (Or.inl rfl) (jao jcS (jaV (jaa jaC (jaa (jar ix_list (pv 0) (pv 3)) jac jaD) jaj)) (jaU rfl (N':=["spot"]) (ix:=[]) ⟨rfl,rfl,by decide +kernel,by decide +kernel,by decide +kernel,(show ∀y:Str × NameKind,y∈_->y.2=NameKind.free->(jad jbO).names.lookup y.1=some .cell\/(jad jbO).names.lookup y.1=some .free from by decide +kernel),.nil⟩ (pi_lt (jar ix_list (pv 1) (pv 3))) (fun _ _ _ _=>jan (i:=0) (show (["spot"]:List Str).Nodup from by decide +kernel) rfl (Or.inl rfl)) (fun _ _ _ _=>ja4) (fun _ _ _ _=>(jai dJ hr.m rfl jav (jaa (pv 0) jac jah))))))
  (jag (jbi (jb2 PySem.F.plainAttrs_list PySem.F.slot_list_append PySem.F.type_list_append jbk (pv 2) (jaa (jb2 PySem.F.plainAttrs_str PySem.F.slot_str_join PySem.F.type_str_join jeu jaC (jaa (pv 4) jac jah)) jac jaJ))))))
  (jag (jaq (jb2 PySem.F.plainAttrs_str PySem.F.slot_str_join PySem.F.type_str_join jeu jaC (jaa (pv 2) jac jah)))))),?_⟩
 walk_at "rf";refine⟨by decide,fun R hR=>ja6 hR fun J1 j1 k1=>⟨_,.inl (SqL.of (j1 _ _ h1)),by rw[xaa];omega,by rw[xaa];omega,?_⟩⟩;rw[xaa,xa9];have lr:=h3.len;refine jaL (lo:=0) (n:=xs.length) (fun i σ Hh=>∃o3 o4:Option V,σ=[some (.ref n),some (.ref l),some (.ref R),o3,o4]/\SX [R] J1 Hh/\Hh R=some (.lst ((((xs.zip bs).take i).map jeP).map V.str))) ⟨_,_,rfl,SX.refl _ _,k1⟩ ?_ ?_;rotate_left
 ·rintro σ Hh ⟨o3,o4,rfl,sx,kR⟩;rw[xaM (by rw[xa3];omega)] at kR;walk_at "rf";refine⟨(xs.zip bs).map jeP,SqL.of kR,(jmr hB (by rw[xa3];omega)).1,q _ fun b o e=>?_⟩;exact sx b o (fun z=>by rw[xak.mp z,hR] at e;cases e) (j1 _ _ e)
 rintro i σ Hh hi ⟨o3,o4,rfl,sx,kR⟩;have ib:i<bs.length:=by omega
 have ir:i<rs.length:=by omega
 have hx:xs[i]?=some xs[i]:=xab hi;have hb:bs[i]?=some bs[i]:=xab ib;have hr':rs[i]?=some rs[i]:=xab ir;obtain⟨b,hb',us,eu,su⟩:=h3.getA hr';have hz:(xs.zip bs)[i]?=some (xs[i],b):=by rw[List.getElem?_zip_eq_some];exact⟨hx,hb'⟩
 generalize xs[i]=x at hx hz;generalize rs[i]=t at hr' eu;have iB:=hB _ (xas hz);have p8:b.length<=8:=iB.p8;have nR:∀{c:Addr} {o:HO},H c=some o->c∉[R]:=fun e z=>by rw[xak.mp z,hR] at e;cases e
 have kp:∀{c:Addr} {o:HO},H c=some o->Hh c=some o:=fun e=>sx _ _ (nR e) (j1 _ _ e);have sT:SameT H Hh:=fun c o e=>kp e;walk_at "rf";have ax:atI (xs.map V.str) (0+(i:Int))=some (.str x):=by rw[xbb];exact jaF (by rw[xad,hx];rfl)
 have ar:atI (rs.map V.ref) (0+(i:Int))=some (.ref t):=by rw[xbb];exact jaF (by rw[xad,hr'];rfl)
 refine ixL (SqL.of (kp h1)) ax ⟨by show 2<=sizeLine;decide,fun p hp=>ja6 hp fun G1 g1 q1=>?_⟩;have su1:=(su.keep sT).keep g1.t;refine⟨_,rfl,_,rfl,ixL (SqL.of (g1 _ _ (kp h2))) ar ⟨t,rfl,?_⟩⟩;rcases eu with eu | eu
 ·refine .inl ⟨⟨_,SqL.of (g1 _ _ (kp eu))⟩,fun acc hacc=>jnM (g1 _ _ (kp eu)) su1 iB.p p8 hacc fun G2 g2 q2=>?_⟩
  ·have lw:wdT (x,b)=[Str.ofString "board",x]++b.map ptT:=rfl;refine⟨p,acc,_,_,rfl,rfl,g2 _ _ q1,q2,by show 2+_<=_;rw[xaa,xaa];exact xa1 (jaH (by omega)),fun a3 n3=>ja6 n3 fun G3 g3 q3=>?_⟩;have kG:=g3 _ _ (g2 _ _ (g1 _ _ kR));refine⟨.inl ⟨_,SqL.of kG⟩,a3,rfl,wdT (x,b),SqL.of q3,jji iB,R,_,_,rfl,rfl,kG,?_,?_,?_⟩
   ·rw[xaa,xaa,xat,xa3];exact jaH (by omega)
   ·refine sx.trans (fun c o hc e=>?_);rw[jak (fun z=>hc (by rw[z];exact .head _))];exact g3 _ _ (g2 _ _ (g1 _ _ e))
   ·rw[jaf,xaH,hz,xal,xal];rfl
 ·refine .inr ⟨⟨_,SqT.of (g1 _ _ (kp eu))⟩,fun acc hacc=>jll (g1 _ _ (kp eu)) su1 iB.p p8 hacc fun G2 g2 q2=>?_⟩
  ·have lw:wdT (x,b)=[Str.ofString "board",x]++b.map ptT:=rfl;refine⟨p,acc,_,_,rfl,rfl,g2 _ _ q1,q2,by show 2+_<=_;rw[xaa,xaa];exact xa1 (jaH (by omega)),fun a3 n3=>ja6 n3 fun G3 g3 q3=>?_⟩;have kG:=g3 _ _ (g2 _ _ (g1 _ _ kR));refine⟨.inl ⟨_,SqL.of kG⟩,a3,rfl,wdT (x,b),SqL.of q3,jji iB,R,_,_,rfl,rfl,kG,?_,?_,?_⟩
   ·rw[xaa,xaa,xat,xa3];exact jaH (by omega)
   ·refine sx.trans (fun c o hc e=>?_);rw[jak (fun z=>hc (by rw[z];exact .head _))];exact g3 _ _ (g2 _ _ (g1 _ _ e))
   ·rw[jaf,xaH,hz,xal,xal];rfl
theorem cutV2 {a b:Str} {l:List Str}:jeR ((a::b::l).map V.str) (some 2) none=l.map V.str:=(jdp (f:=2)).trans rfl
theorem PtB.sm (h:PtB p):p.sm:=by
 have e:(10:Nat)^30<=2^200:=by decide +kernel
 exact⟨xah h.x e,xah h.y e,xah h.z e,xah h.w e⟩
theorem jjk {H:Hp}:∀{ps:List Pt} {ys:List V},ys.length=ps.length->(∀(i:Nat) (y:V),ys[i]?=some y->∀p,ps[i]?=some p->∃r,y=.ref r/\Is4 H r p)->∃rs:List Addr,ys=rs.map V.ref/\Sps H rs ps
  | [],[],_,_=>⟨[],rfl,.nil⟩
  | p :: ps, y :: ys, l, h => by
    obtain⟨r,rfl,h4⟩:=h 0 y rfl p rfl;obtain⟨rs,rfl,hs⟩:=jjk (ps:=ps) (ys:=ys) (Nat.succ.inj l) fun i y hy q hq=>h (i+1) y hy q hq;exact⟨r::rs,rfl,.cons h4 hs⟩
  | [],_::_,l,_=>nomatch l
  | _::_,[],l,_=>nomatch l
def spPR (Y:Addr):Sp:=fun vs H Q _=>∃(M:List Addr) (y pL:Addr) (st:Rws) (past:List Rws) (it:Str × List Pt),vs=[.ref y,.str (jeP it)]/\YardAt Y M H y pL st past/\ItB it/\GoodB it.2/\inN it.1 st=false/\st.length<6/\past.length<=900/\∀H',SX [y,pL] H H'->YardAt Y M H' y pL (st++[(it.1,frm it.2 it.2)]) (past++[st])->Q .non H'
theorem jms (T:Tyd K mg t1 t2 cs SE Y) (F:At K mg "put_row" jcy ["yard","row"] []) (Dn:jap P w K mg base CX0 4 "read_spot" ["text"] [] spRS) (di:MethOk P w K mg base (XOk P w) 7 Y "put" ["self","name","corners"] (jkt Y cs)):jap P w K mg base CX0 8 "put_row" ["yard","row"] [] (spPR Y):=by
 refine F.ok jfb (fun vs H Q E h=>?_) (fun f cdv A outer s H vs Q E hr h=>?_)
 ·obtain⟨M,y,pL,st,past,it,rfl,_⟩:=h;rfl
 obtain⟨M,y,pL,st,past,it,rfl,hY,iB,gB,nI,l6,l9,q⟩:=h;have S:=jfb;refine⟨_,(jae (jas (i:=2) S.nd rfl (Or.inl rfl) (jb2 PySem.F.plainAttrs_str PySem.F.slot_str_split PySem.F.type_str_split jfp (pv 1) (jaa jaC jac jaj)))
  (jae (jaQ (PW.pt (jd4 (jat jcn (jar ix_list (pv 2) jab) jaC (jaw _)) (jcP (jat jhs (jaz jaB rfl T.m_len PySem.boot_len (jaa (pv 2) jac jah)) jab (jaw _)))))
  jbj
  jax)
  (jag (jbi (jec di (pv 0) T.cl hr.m jjM (jaa (jar ix_list (pv 2) jab) (jaa (jaU rfl (N':=["word"]) (ix:=[]) ⟨rfl,rfl,by decide +kernel,by decide +kernel,by decide +kernel,(show ∀y:Str × NameKind,y∈_->y.2=NameKind.free->(jad jcy).names.lookup y.1=some .cell\/(jad jcy).names.lookup y.1=some .free from by decide +kernel),.nil⟩ (jbd (ja5 jbz (pv 2) (ja7 jab) jbe)) (fun _ _ _ _=>jan (i:=0) (show (["word"]:List Str).Nodup from by decide +kernel) rfl (Or.inl rfl)) (fun _ _ _ _=>ja4) (fun _ _ _ _=>(jai Dn hr.m rfl jav (jaa (pv 0) jac jah)))) jac jcr) jaD)))))),?_⟩
 walk_at "rf";have l:=(jeh iB).2;have p3:=iB.p3;have p8:=iB.p8;have wl:=jgE (it:=it);rw[jhQ iB];refine⟨by rw[jnL];rfl,xan l (by decide),xan (show (wdT it).length<=10 by omega) (by decide),?_,fun p hp=>ja6 hp fun J1 j1 k1=>?_⟩
 ·rw[length_partsBetween];have:=StrLaws.occ_length_le (jeP it) (Str.ofString " ") 0 (jeP it).length ((jeP it).length+1);exact xan (show _<=2412 by omega) (by decide)
 have qp:=SqL.of (K:=K) k1;refine ixL qp (jaF (j:=0) rfl) ⟨rfl,?_⟩;rw[if_pos rfl];refine⟨_,.inl qp,?_⟩;rw[if_neg (by rw[xaa];omega)];have hY1:=hY.keep j1;obtain⟨dx,sL,ss,h1,h2,h3,h4⟩:=hY1.ob;refine⟨_,rfl,y,dx,_,rfl,h1,ja0 (by decide +kernel) (by decide +kernel),?_⟩;walk_at "rf";refine ixL qp (jaF (j:=1) rfl) ?_;refine⟨p,_,rfl,qp,fun sl m0=>?_⟩;rw[show jeR ((wdT it).map V.str) (some 2) none=(it.2.map ptT).map V.str from cutV2];refine ja6 m0 fun J2 j2 k2=>⟨sl,rfl,⟨_,SqL.of k2⟩,fun acc hacc=>jf0 (zs:=(it.2.map ptT).map V.str) (fun i y H=>∀p,it.2[i]?=some p->∃r,y=.ref r/\Is4 H r p) (fun _ _ _ _ h s p hp=>?_) (by rw[xaa,xaa];omega) hacc (SqL.of k2) (fun i z H3 R hz s3 hR=>?_) fun ys J3 j3 e3 l3 p3'=>?_⟩
 ·obtain⟨r,e,h4⟩:=h p hp;exact⟨r,e,s _ _ h4.1,h4.2⟩
 ·rw[xad,xad] at hz;obtain⟨x,hx,rfl⟩:=xau.mp hz;obtain⟨p,hp,rfl⟩:=xau.mp hx;have b:=iB.p p (xas hp);refine⟨_,rfl,p.x,p.y,p.z,p.w,rfl,b.x,b.y,b.z,b.w,b.w1,b.g1,fun r H4 s4 e4=>hR _ H4 s4 fun p' hp'=>?_⟩;rw[hp] at hp';cases hp';exact⟨r,rfl,e4,b.sm⟩
 rw[xaa,xaa] at l3;obtain⟨rs,rfl,hs⟩:=jjk l3 p3';have s03:=j1.trans (j2.trans j3);have n1:nm it.1=true:=by rw[iB.n.az.nm];exact decide_eq_true ⟨iB.n.s1,iB.n.s8⟩
 have en:jb7 st it.1 true=none:=by
  unfold jb7;rw[if_neg (by rw[n1];decide),if_neg (by rw[nI];decide),if_neg (by decide),if_neg (by omega)]
 refine⟨M,y,pL,acc,rs,it.2,st,past,it.1,true,rfl,⟨fun _=>gB,fun _=>rfl⟩,hY.keep s03,by omega,l9,iB.n.az.lo,by have:=iB.n.s8;omega,⟨e3,hs⟩,fun _ H' s' y'=>q H' ((Same.x s03 _).trans s') y',fun i z=>?_⟩;rw[en] at z;cases z
theorem jmt {X:Cx} {body:List Stmt} {hd:ExceptHandler} {hds:List ExceptHandler} {tb:TSX} {pos:Pos} (hb:PSX X body tb):PS X (.Try body (hd::hds) [] [] pos) (fun D σ H=>tb D (fun _ _ _ _=>False) σ H):=by
 intro pins s σ H D I h;refine wpAny_Try_except (wpAny_mono (hb pins s σ H D _ I h) (fun f s1 q=>?_) fun ex s' ⟨σ1,H1,s1,I1,hx⟩=>?_)
 ·cases f with
  | next=>exact wpAny_execs_nil q
  | brk=>exact q
  | cont=>exact q
  | ret u=>exact q
 ·obtain⟨_,_,_,_,_,_,_,_,_,_,_,_,_,_,_,z⟩:=hx;exact z.elim
def Nms (st:Rws):Prop:=st.Pairwise fun a b=>a.1≠b.1
def frI (it:Str × List Pt):Str × List Pt:=(it.1,frm it.2 it.2)
theorem jho {st:Rws} {it:Str × List Pt} (h:Nms st) (hi:st[i]?=some it):inN it.1 ((st.take i).map frI)=false:=by
 unfold inN nmL;rw[xaW,xbv];intro z hz e;obtain⟨a,ha,rfl⟩:=xaA.mp hz;obtain⟨j,hj⟩:=List.getElem?_of_mem ha;have lj:=(xaj.mp hj).1;rw[xat] at lj;rw[List.getElem?_take_of_lt (by omega)] at hj;obtain⟨li,ei⟩:=xaj.mp hi;obtain⟨lj',ej⟩:=xaj.mp hj;have z:=xa6.mp h j i lj' li (by omega);rw[ei,ej] at z;exact z (eq_of_beq e)
def spRY (Y:Addr):Sp:=fun vs H Q _=>∃st:Rws,vs=[.str (yT st)]/\(∀it∈st,ItB it)/\(∀it∈st,GoodB it.2)/\Nms st/\st.length<=6/\∀(y pL:Addr) (M:List Addr) (H':Hp),Same H H'->(∀m∈M,H m=none)->YardAt Y M H' y pL (st.map frI) []->Q (.ref y) H'
theorem ok_ry (T:Tyd K mg t1 t2 cs SE Y) (F:At K mg "read_yard" jdb ["text"] []) (dj:MethOk P w K mg base CX0 1 Y "__init__" ["self"] (jgB Y)) (Dr:jap P w K mg base CX0 8 "put_row" ["yard","row"] [] (spPR Y)) (dS:MethOk P w K mg base CX0 1 Y "settle" ["self"] (jfx Y)):jap P w K mg base CX0 9 "read_yard" ["text"] [] (spRY Y):=by
  refine F.ok jdW (fun vs H Q E h=>?_) (fun f cdv A outer s H vs Q E hr h=>?_)
  . obtain⟨st,rfl,_⟩:=h
    rfl
  obtain⟨st,rfl,iB,gB,nB,l6,q⟩:=h;have S:=jdW;refine⟨_,(jae (jas (i:=1) S.nd rfl (Or.inl rfl) (jew dj T.mkY T.kpY hr.m rfl T.m_Yard jav))
    (jae (jas (i:=2) S.nd rfl (Or.inl rfl) (jd9 (jat jcN (pv 0) jaC (jaw _)) (jaV jac) (jb2 PySem.F.plainAttrs_str PySem.F.slot_str_split PySem.F.type_str_split jfp (pv 0) (jaa jaC jac jaj))))
    (jae (ja1 PassesOwn.never rfl (jlM rfl T.m_enumerate (jaa (pv 2) jac jah)) (jeV rfl (jaK (jan (i:=3) S.nd rfl (Or.inl rfl)) (jaK (jan (i:=4) S.nd rfl (Or.inl rfl)) jcm)))
    (jag (jmt (jgU (px_pe (jai Dr hr.m rfl jav (jaa (pv 1) (jaa (pv 4) jac jah) jah)))))))
    (jae (jbi (jaR dS (pv 1) T.cl hr.m jav))
    (jag (jaq (pv 1))))))),?_⟩
  walk_at "rf";refine fun x dx nx ndx ne=>⟨x,dx,rfl,jaf,fun sL pL H1 n1 n2 n3 sx e1 e3 e4=>⟨rfl,?_⟩⟩;obtain⟨Yd,s1,pn,xp⟩:=jhk (M:=[]) (fun _ z=>nomatch z) nx ndx ne n1 n2 n3 sx e1 e3 e4;clear n1 n2 n3 sx e1 e3 e4;have fin:∀(a:Addr) (H2:Hp),Same H1 H2->H1 a=none->H2 a=some (.lst ((st.map jeP).map V.str))->(∃a_1,V.ref a=V.ref a_1/\(∃xs,SqL K H2 a_1 xs)/\jjq (Ite K a_1) (jjw K 2 (jej (jbt 3) (jej (jbt 4) jkB))) (fun D σ H=>∃v,σ[1]?=some (some v)/\∃v_1,σ[4]?=some (some v_1)/\spPR Y [v,v_1] H (fun x H1=>D.nx σ H1) E0) { nx:=jlp (jgh (jhz Y "settle" (jfx Y) [] E0 (jjp 1) jgN)) (jmA (jjp 1)) { nx:=fun x H'=>Q V.non H',rt:=Q },rt:=Q } [some (V.str (yT st)),some (.ref x),some (.ref a),none,none] H2):=fun a H2 s2 na ka=>by
    refine⟨a,rfl,⟨_,SqL.of ka⟩,?_⟩;have ma:a∉[x,pL]:=fun z=>Yd.al a (xbk _ z) na;refine jjT (K:=K) (a:=a) (xs:=(st.map jeP).map V.str) (fun i σ Hh=>∃(o3 o4:Option V) (past:List Rws),σ=[some (V.str (yT st)),some (.ref x),some (.ref a),o3,o4]/\YardAt Y ([x,pL]++[]) Hh x pL ((st.take i).map frI) past/\past.length=i/\SX [x,pL] H2 Hh) ⟨_,_,[],rfl,Yd.keep s2,rfl,SX.refl _ _⟩ (fun i σ Hh _ ⟨_,_,_,_,_,_,sx⟩=>SqL.of (sx _ _ ma ka)) ?_ ?_
    . rintro i v σ Hh Tt hv ⟨o3,o4,past,rfl,hY,lp,sx⟩ hTt
      rw[xad,xad] at hv;obtain⟨z,hz,rfl⟩:=xau.mp hv;obtain⟨it,hit,rfl⟩:=xau.mp hz;have li:=(xaj.mp hit).1;have mi:=xas hit;refine ja6 hTt fun G g kT=>?_;walk_at "rf";refine⟨_,SqT.of kT,rfl,_,_,rfl,_,_,rfl,rfl,?_⟩;refine⟨_,x,pL,(st.take i).map frI,past,it,rfl,hY.keep g,iB it mi,gB it mi,jho nB hit,by rw[xaa,xat];omega,by omega,fun H' s' y'=>?_⟩;refine⟨past++[(st.take i).map frI],?_,by rw[xaf,lp];rfl,sx.trans ((Same.x g _).trans s')⟩;rw[xaH,hit,xal];exact y'
    . rintro σ Hh ⟨o3,o4,past,rfl,hY,lp,sx⟩
      rw[xaa,xaa,xaL] at hY;obtain⟨dx',sL',ss,h1,h2,h3,h4⟩:=hY.ob;refine⟨_,rfl,x,dx',_,rfl,h1,ja0 (by decide +kernel) (by decide +kernel),_,x,pL,_,past,rfl,hY,fun p' H' pn' s' y'=>⟨_,rfl,q x p' _ H' ?_ ?_ y'⟩⟩
      . intro b o e
        have nb:b∉[x,pL]:=fun z=>by
          simp only[xac,xao,or_false] at z;rcases z with rfl | rfl
          . rw[nx] at e
            cases e
          . rw[pn] at e
            cases e
        exact s' b o (fun z=>nb (by rw[xak.mp z];exact .head _)) (sx b o nb (s2 _ _ (s1 _ _ e)))
      . intro m hm
        rcases xac.mp hm with z | hm
        . rw[z]
          cases e:H p' with
          | none=>rfl
          | some o =>
            have nb:p'∉[x,pL]:=fun z=>by
              simp only[xac,xao,or_false] at z;rcases z with rfl | rfl
              . rw[nx] at e
                cases e
              . rw[pn] at e
                cases e
            rw[sx p' o nb (s2 _ _ (s1 _ _ e))] at pn';cases pn'
        . rw[xbA] at hm
          simp only[xac,xao,or_false] at hm;rcases hm with rfl | rfl
          . exact nx
          . exact pn
  unfold L2.tIf;walk_at "rf";have yo:=jmr iB l6;refine jcl (fun c=>?_) fun c=>?_
  . have es:=(jhn iB).mp c
    refine⟨by decide,fun p hp=>?_⟩;obtain⟨a1,ha1,r⟩:=fin p _ (Same.new hp (.lst [])) hp (by rw[jaf,es];rfl);cases ha1;exact r
  . have es:Txt.split (yT st) (Str.ofString "\n")=st.map jeP:=by
      cases st with
      | nil=>exact absurd ((jhn iB).mpr rfl) c
      | cons it st=>exact jkv iB
    rw[es];refine⟨by rw[c_nl];rfl,xan yo.2 (by decide),by rw[xaa];exact xan l6 (by decide),?_,fun p hp=>?_⟩
    . rw[length_partsBetween]
      have:=StrLaws.occ_length_le (yT st) (Str.ofString "\n") 0 (yT st).length ((yT st).length+1);have l2:=yo.2;exact xan (show _<=16002 by omega) (by decide)
    obtain⟨a1,ha1,r⟩:=fin p _ (Same.new hp (.lst ((st.map jeP).map V.str))) hp jaf;cases ha1;exact r
theorem jmu {x:Str} {j:Int} (h0:0<=j):(∀c∈(Txt.slice x none (some j)).cps.toList,c∈x.cps.toList)/\(Txt.slice x none (some j)).cps.size<=x.cps.size:=by
 by_cases h1:j<=x.cps.size
 ·exact jld h0 h1
 ·have e:Txt.slice x none (some j)=Txt.slice x none (some (x.cps.size:Int)):=by
   show StrLaws.sliceText x none (some j)=StrLaws.sliceText x none (some (x.cps.size:Int));have e2:Builtin.Str.strSliceIndices none (some j) 1 x.length=Builtin.Str.strSliceIndices none (some (x.cps.size:Int)) 1 x.length:=by
    have a:¬(j<0):=by omega
    have b:min j (x.length:Int)=(x.length:Int):=by unfold Str.length;omega
    have c:min (x.cps.size:Int) (x.length:Int)=(x.length:Int):=by unfold Str.length;omega
    have d:¬((x.cps.size:Int)<0):=by omega
    simp [Builtin.Str.strSliceIndices,a,b,c,d]
   unfold StrLaws.sliceText;rw[e2]
  rw[e];exact jld (by omega) (by omega)
theorem jmv {x y:Str} {c:Nat} (h:c∈(x++y).cps.toList):c∈x.cps.toList\/c∈y.cps.toList:=by
 have h':c∈(x.cps++y.cps).toList:=h;rw[Array.toList_append,xay] at h';exact h'
theorem jnN (h0:0<=k) (h1:k<26):∃c,abc.cps[k.toNat]?=some c/\AZ ⟨#[c]⟩/\k<((abc.cps.size:Nat):Int):=by
 have sz:abc.cps.size=26:=by decide +kernel
 have hlt:k.toNat<abc.cps.size:=by omega
 refine⟨_,Array.getElem?_eq_getElem hlt,fun d hd=>?_,by omega⟩;have:d=abc.cps[k.toNat]:=by simpa using hd
 rw[this];exact jnA (Array.getElem?_eq_getElem hlt)
theorem AZ.app {x y:Str} (h:AZ x) (h':AZ y):AZ (x++y):=fun c hc=>(jmv hc).elim (h c) (h' c)
theorem jgd (x y:Str):(x++y).cps.size=x.cps.size+y.cps.size:=by
 show (x.cps++y.cps).size=_;rw[Array.size_append]
def spND (Y:Addr):Sp:=fun vs H Q _=>∃(M:List Addr) (y pL:Addr) (st:Rws),vs=[.ref y]/\YardAt Y M H y pL st []/\∀H',Same H H'->Q (.bl true) H'
theorem ok_nd (T:Tyd K mg t1 t2 cs SE Y) (F:At K mg "_law_no_deed" jb0 ["yard"] []) (dv:MethOk P w K mg base (XOk P w) 1 Y "back" ["self"] (jje Y (cs 3))):jap P w K mg base CX0 2 "_law_no_deed" ["yard"] [] (spND Y):=by
 refine F.ok jcH (fun vs H Q E h=>?_) (fun f cdv A outer s H vs Q E hr h=>?_)
 ·obtain⟨M,y,pL,st,rfl,_⟩:=h;rfl
 obtain⟨M,y,pL,st,rfl,hY,q⟩:=h;have S:=jcH;refine⟨_,(jae (jm7 (jlz jgn) rfl T.m_NoDeed T.x_NoDeed (jgU (jiF dv (pv 0) T.cl hr.m)) (fun _=>(jag (jaq jcM))))
  (jag (jaq jcM))),?_⟩
 obtain⟨dx,sL,ss,h1,h2,h3,h4⟩:=hY.ob;walk_at "rf";refine⟨_,rfl,y,dx,_,rfl,h1,ja0 (by decide +kernel) (by decide +kernel),M,y,pL,st,[],rfl,hY,by decide,fun p0 s0 en H' s' y'=>?_,fun en H' s'=>⟨rfl,q H' s'⟩⟩;cases p0 with
 | nil=>cases en
 | cons _ _=>cases en
theorem jfB {X:Cx} {K:PySem.W.Frag} (h:X.K=K):OpR X (compareOp .NotIn) (rIn K true):=h▸jfT
theorem pig:∀{l f:List Str},l.Nodup->(∀x∈l,x∈f)->l.length<=f.length
  | [],_,_,_=>xaG _
  | x :: l, f, hn, h => by
    have hx:=h x (.head _);obtain⟨h1,h2⟩:=xbf.mp hn;have ih:=pig (l:=l) (f:=f.erase x) h2 fun y hy=>(List.mem_erase_of_ne (fun z=>h1 (by rw[<- z];exact hy))).mpr (h y (.tail _ hy));rw[List.length_erase_of_mem hx] at ih;have:=List.length_pos_of_mem hx;rw[xam];omega
def sevN:List Str:=[Str.ofString "board",Str.ofString "back",Str.ofString "a",Str.ofString "zz",Str.ofString "ring",Str.ofString "none"]
theorem jmw:sevN.Nodup:=by decide +kernel
def jfC (z y:Str):List Str:=[z,Str.ofString "board",Str.ofString "back",Str.ofString "a",Str.ofString "zz",y,z++Str.ofString "x",Str.ofString "ring",Str.ofString "none"]
theorem jkx (xs:List Str):(xs.map V.str).all jeS=true:=by
 rw[xaY];intro v hv;obtain⟨x,_,rfl⟩:=xaA.mp hv;rfl
theorem jmx (x:Str) (xs:List Str):inV (.str x) (xs.map V.str)=decide (x∈xs):=by
 unfold inV;rw[List.any_map];have e:(xs.any ((fun z=>eqV z (.str x))∘V.str))=xs.any fun z=>z==x:=rfl;rw[e];by_cases c:x∈xs
 ·rw[decide_eq_true c,List.any_eq_true];exact⟨x,c,beq_self_eq_true x⟩
 ·rw[decide_eq_false c,xbv];intro z hz e;exact c (by rw[<- eq_of_beq e];exact hz)
def NmL (x:Str):Prop:=NmB x/\x≠Str.ofString "newboard"
def spLN:Sp:=fun vs H Q _=>∃(L:Addr) (m:Nat),vs=[.ref L,.int (m:Nat)]/\Box H L/\m<=5/\∀(l:Addr) (xs:List Str) (H':Hp),SameB L H H'->Box H' L->H l=none->H' l=some (.lst (xs.map V.str))->xs.length=m->xs.Nodup->(∀x∈xs,NmL x)->Q (.ref l) H'
theorem ok_ln (T:Tx K mg t1 t2) (F:At K mg "_law_names" jby ["left","many"] []) (db:jap P w K mg base CX0 1 "_law_next" ["left","base"] [] jeG):jap P w K mg base CX0 2 "_law_names" ["left","many"] [] spLN:=by
  refine F.ok jdA (fun vs H Q E h=>?_) (fun f cdv A outer s H vs Q E hr h=>?_)
  . obtain⟨L,m,rfl,_⟩:=h
    rfl
  obtain⟨L,m,rfl,hL,m5,q⟩:=h;have S:=jdA;refine⟨_,(jae (jas (i:=2) S.nd rfl (Or.inl rfl) jaC)
    (jae (ja1 PassesOwn.never rfl (jaG rfl T.m_range (jaa (jao jbu jab (jai db hr.m rfl jav (jaa (pv 0) (jaa jab jac jaj) jah))) jac jaX)) (jan (i:=3) S.nd rfl (Or.inl rfl))
    (jag (jas (i:=2) S.nd rfl (Or.inl rfl) (jao jaP (pv 2) (jek jaC (jai db hr.m rfl jav (jaa (pv 0) (jaa jab jac jaj) jah)) (fun _ _=>rfl))))))
    (jae (jas (i:=4) S.nd rfl (Or.inl rfl) (jaV (jaa (pv 2) (jaa jaC (jaa jaC (jaa jaC (jaa jaC (jaa (jao jaP (jf2 (pv 2) jbe (ja7 jab)) jaC) (jaa (jao jaP (pv 2) jaC) (jaa jaC (jaa jaC jac jaj) jaj) jaX) jaX) jaj) jaj) jaj) jaj) jah)))
    (jae (jas (i:=5) S.nd rfl (Or.inr rfl) (jaV jac))
    (jae (ja1 PassesOwn.never rfl (jaG rfl T.m_range (jaa (pv 1) jac jah)) (jan (i:=3) S.nd rfl (Or.inl rfl))
    (jae (jc7 (i:=6) rfl S.nd rfl rfl (N':=["name","found"]) (ix:=[5]) ⟨rfl,rfl,by decide +kernel,by decide +kernel,by decide +kernel,(show ∀y:Str × NameKind,y∈_->y.2=NameKind.free->(jad jby).names.lookup y.1=some .cell\/(jad jby).names.lookup y.1=some .free from by decide +kernel),(.cons rfl (.inl rfl) rfl .nil)⟩ (jbd (pv 4)) (fun _ _ _ _=>jan (i:=0) (show (["name","found"]:List Str).Nodup from by decide +kernel) rfl (Or.inl rfl)) (fun _ _ _ _=>(jfh (jat (jfB (K:=K) rfl) (pv 0) (pv 1) rfl))) (fun _ _ _ _=>(pv 0)))
    (jag (jbi (jb2 PySem.F.plainAttrs_list PySem.F.slot_list_append PySem.F.type_list_append jbk (pv 5) (jaa (jar ix_list (pv 6) (jai db hr.m rfl jav (jaa (pv 0) (jaa (jaz jaB rfl T.m_len PySem.boot_len (jaa (pv 6) jac jah)) jac jaJ) jah))) jac jaD))))))
    (jag (jaq (pv 5)))))))),?_⟩
  walk_at "rf";obtain⟨n,hn⟩:=hL;have f7:Fit 7:=.o (by decide) (by decide);refine⟨L,7,n,rfl,hn,by decide,f7,?_⟩;have r0:=xaF n (show (7:Int)≠0 by decide);have r1:=xaB n (show (0:Int)<7 by decide);obtain⟨k7,ek,k1,k8⟩:∃k:Nat,1+n % 7=(k:Int)/\1<=k/\k<=7:=⟨(1+n % 7).toNat,by omega,by omega,by omega⟩;refine⟨_,rfl,by omega,by omega,?_⟩;rw[ek,xa9];have sb1:SameB L H (upd H L (.lst [.int (n / 7)])):=fun b o hb e=>by rw[jak hb];exact e
  have bx1:Box (upd H L (.lst [.int (n / 7)])) L:=⟨_,jaf⟩;generalize upd H L (.lst [.int (n / 7)])=H1 at sb1 bx1;refine jaL (lo:=0) (n:=k7) (fun i σ Hh=>∃(z:Str) (o3:Option V),σ=[some (.ref L),some (.int (m:Nat)),some (.str z),o3,none,none,none]/\AZ z/\z.cps.size=i/\SameB L H Hh/\Box Hh L) ⟨_,_,rfl,(fun c hc=>(nomatch hc)),rfl,sb1,bx1⟩ ?_ ?_
  . rintro i σ Hh hi ⟨z,o3,rfl,az,sz,sb,bx⟩
    obtain⟨n',hn'⟩:=bx;have q0:=xaF n' (show (26:Int)≠0 by decide);have q1:=xaB n' (show (0:Int)<26 by decide);obtain⟨c,hc,az',kl⟩:=jnN q0 q1;walk_at "rf";refine⟨L,26,n',rfl,hn',by decide,.o (by decide) (by decide),_,rfl,q0,by omega,kl,c,hc,?_,az.app az',?_,fun b o hb e=>?_,⟨_,jaf⟩⟩
    . have:z.length=i:=sz
      rw[this];exact xan (show i+1<=1000 by omega) (by decide)
    . rw[jgd,sz]
      rfl
    . rw[jak hb]
      exact sb b o hb e
  rintro σ Hh ⟨z,o3,rfl,az,sz,sb,bx⟩;clear sb1 bx1 hn;walk_at "rf";have zl:z.length<=sizeLine:=xan (show z.cps.size<=1000 by omega) (by decide);obtain⟨cm',cs'⟩:=jmu (x:=z) (j:=1) (by decide);refine⟨z,rfl,zl,.inl ⟨rfl,fun z=>nomatch z⟩,_,rfl,?_,?_,by show 9<=sizeLine;decide,fun p hp=>?_⟩
  . show (Txt.slice z none (some 1)).cps.size+1 <= sizeLine
    exact xan (show _<=1000 by omega) (by decide)
  . show z.cps.size+1 <= sizeLine
    exact xan (show _<=1000 by omega) (by decide)
  have az1:∀{c:Nat},97<=c->c<=122->AZ ⟨#[c]⟩:=fun h1 h2 d hd=>by
    have:d=_:=xak.mp hd;omega
  have hq:AZ (Str.ofString "q"):=by unfold AZ;decide +kernel
  have hx:AZ (Str.ofString "x"):=by unfold AZ;decide +kernel
  have nb:∀x∈jfC z (Txt.slice z none (some 1)++Str.ofString "q"),NmB x:=fun x hx'=>by
    unfold jfC at hx';simp only[xac,xao,or_false] at hx';rcases hx' with rfl | rfl | rfl | rfl | rfl | rfl | rfl | rfl | rfl
    . exact⟨az,by omega,by omega⟩
    . exact⟨by unfold AZ;decide +kernel,by decide +kernel,by decide +kernel⟩
    . exact⟨by unfold AZ;decide +kernel,by decide +kernel,by decide +kernel⟩
    . exact⟨by unfold AZ;decide +kernel,by decide +kernel,by decide +kernel⟩
    . exact⟨by unfold AZ;decide +kernel,by decide +kernel,by decide +kernel⟩
    . refine⟨AZ.app (fun d hd=>az d (cm' d hd)) hq,?_,?_⟩
      . rw[jgd]
        show 1<=_+1;omega
      . rw[jgd]
        show _+1<=8;omega
    . refine⟨az.app hx,?_,?_⟩
      . rw[jgd]
        omega
      . rw[jgd]
        show _+1<=8;omega
    . exact⟨by unfold AZ;decide +kernel,by decide +kernel,by decide +kernel⟩
    . exact⟨by unfold AZ;decide +kernel,by decide +kernel,by decide +kernel⟩
  have nd:∀(u:Str) (c:Nat),c≠100->u++(⟨#[c]⟩:Str)≠Str.ofString "newboard":=fun u c hc e=>by
    have z:=congrArg (fun s=>(sg s).getLast?) e;have z1:(sg (u++(⟨#[c]⟩:Str))).getLast?=some c:=by rw[jbs,List.getLast?_append];rfl
    have z2:(sg (Str.ofString "newboard")).getLast?=some 100:=by decide +kernel
    exact hc (Option.some.inj (z1.symm.trans (z.trans z2)))
  have nbL:∀x∈jfC z (Txt.slice z none (some 1)++Str.ofString "q"),NmL x:=fun x hx'=>⟨nb x hx',by
    unfold jfC at hx';simp only[xac,xao,or_false] at hx';rcases hx' with rfl | rfl | rfl | rfl | rfl | rfl | rfl | rfl | rfl
    . intro e
      have z:=congrArg (fun s:Str=>s.cps.size) e;have z2:(Str.ofString "newboard").cps.size=8:=by decide +kernel
      have z3:x.cps.size=(Str.ofString "newboard").cps.size:=z;omega
    . decide +kernel
    . decide +kernel
    . decide +kernel
    . decide +kernel
    . exact nd _ 113 (by decide)
    . exact nd _ 120 (by decide)
    . decide +kernel
    . decide +kernel⟩
  have n9:∀x∈sevN,x∈jfC z (Txt.slice z none (some 1)++Str.ofString "q"):=fun x hx'=>by
    unfold sevN at hx';unfold jfC;simp only[xac,xao,or_false] at hx' |-
    rcases hx' with rfl | rfl | rfl | rfl | rfl | rfl<;>simp
  have l9:(jfC z (Txt.slice z none (some 1)++Str.ofString "q")).length=9:=rfl;refine ja6 hp fun J1 j1 kp=>⟨by decide,fun pf hpf=>ja6 hpf fun J2 j2 kf=>⟨by omega,by omega,?_⟩⟩;have kp':J1 p=some (.lst ((jfC z (Txt.slice z none (some 1)++Str.ofString "q")).map V.str)):=kp;clear kp;clear nb;generalize jfC z (Txt.slice z none (some 1)++Str.ofString "q")=ws at nbL n9 l9 kp';rw[xa9];have np:p≠pf:=jal kp' hpf;have hL2:∀{b:Addr},Hh b=none->b≠L:=fun h e=>by
    obtain⟨_,z⟩:=bx;rw[e,z] at h;cases h
  have pL':=hL2 hp;have fL':=hL2 (j1.noneN hpf);refine jaL (lo:=0) (n:=m) (fun i σ Hk=>∃(o3 o6:Option V) (xs:List Str),σ=[some (.ref L),some (.int (m:Nat)),some (.str z),o3,some (.ref p),some (.ref pf),o6]/\Hk pf=some (.lst (xs.map V.str))/\xs.length=i/\xs.Nodup/\(∀x∈xs,NmL x)/\Hk p=some (.lst (ws.map V.str))/\SameB L H Hk/\Box Hk L) ⟨_,_,[],rfl,kf,rfl,List.nodup_nil,(fun _ z=>nomatch z),j2 _ _ kp',(fun b o hb e=>j2 _ _ (j1 _ _ (sb b o hb e))),?_⟩ ?_ ?_
  . obtain⟨n',hn'⟩:=bx
    exact⟨n',j2 _ _ (j1 _ _ hn')⟩
  . rintro i σ Hk hi ⟨o3,o6,xs,rfl,kf',lx,nd,nx,kk,sk,bk⟩
    walk_at "rf";refine⟨⟨_,SqL.of kk⟩,fun acc hacc=>jiy (zs:=ws.map V.str) (fun j=>.str (ws.getD j "")) (fun j=>!decide (ws.getD j ""∈xs)) (by rw[xaa];omega) hacc (SqL.of kk) (fun j v H3 R hv s3 hR=>?_) (fun j v H3 R hv hc s3 hR=>?_) fun H3 s3 e3=>?_⟩
    . rw[xad] at hv
      obtain⟨x,hx',rfl⟩:=xau.mp hv;have ex:ws.getD j ""=x:=by rw[xag,hx'];rfl
      refine⟨_,rfl,_,rfl,pf,_,rfl,.inl (SqL.of (s3 _ _ kf')),rfl,jkx xs,?_⟩;have z:=hR H3 (Same.refl _);rw[ex] at z;rw[show (if true=true then !inV (V.str x) (xs.map V.str) else inV (V.str x) (xs.map V.str))=!decide (x∈xs) from by rw[jnK,jmx]];exact⟨_,rfl,z⟩
    . rw[xad] at hv
      obtain⟨x,hx',rfl⟩:=xau.mp hv;have ex:ws.getD j ""=x:=by rw[xag,hx'];rfl
      have z:=hR H3 (Same.refl _);rw[ex] at z;exact⟨_,rfl,z⟩
    rw[xaa] at e3;obtain⟨j0,hj0,hc0⟩:∃j,j<ws.length/\(!decide (ws.getD j ""∈xs))=true:=by
      apply xap;intro hno;have al:∀x∈sevN,x∈xs:=fun x hx'=>xap fun nx'=>hno (by
        obtain⟨j,hj⟩:=List.getElem?_of_mem (n9 x hx');refine⟨j,(xaj.mp hj).1,?_⟩;rw[xag,hj];show (!decide (x∈xs))=true;rw[decide_eq_false nx'];rfl)
      have:=pig jmw al;have l7:sevN.length=6:=rfl;omega
    have mem:j0∈(List.range ws.length).filter fun j=>!decide (ws.getD j ""∈xs):=xa8.mpr ⟨xaN.mpr hj0,hc0⟩;have rl:∀j∈(List.range ws.length).filter fun j=>!decide (ws.getD j ""∈xs),j<ws.length/\ws.getD j ""∉xs:=fun j hj=>by
      obtain⟨h1,h2⟩:=xa8.mp hj;exact⟨xaN.mp h1,fun z=>by rw[decide_eq_true z] at h2;cases h2⟩
    have lle:((List.range ws.length).filter fun j=>!decide (ws.getD j ""∈xs)).length<=9:=xan (xbh _ _) (by rw[xa2];omega);generalize (List.range ws.length).filter (fun j=>!decide (ws.getD j ""∈xs))=js at e3 mem rl lle;have lp:=List.length_pos_of_mem mem;obtain⟨n',hn'⟩:=bk;refine⟨.inl ⟨_,SqL.of (s3 _ _ kf')⟩,_,.inl (SqL.of e3),L,_,n',rfl,s3 _ _ hn',?_,?_,?_⟩
    . rw[xaa]
      omega
    . rw[xaa]
      exact .o (by omega) (by omega)
    rw[xaa];have a0:=xaF n' (show ((js.length:Nat):Int)≠0 by omega);have a1:=xaB n' (show 0<((js.length:Nat):Int) by omega);obtain⟨k',ek'⟩:∃k:Nat,n' % ((js.length:Nat):Int)=(k:Int):=⟨(n' % ((js.length:Nat):Int)).toNat,by omega⟩;have kl:k'<js.length:=by omega
    obtain⟨jl,jn⟩:=rl js[k'] (xbo kl);have aL:acc≠L:=fun e=>by rw[e,hn'] at hacc;cases hacc
    rw[ek'];refine ixL (SqL.of (by rw[jak aL];exact e3)) (v:=.str (ws.getD js[k'] "")) (jaF (by rw[xad,xab kl];rfl)) ?_;have wm:ws.getD js[k'] ""∈ws:=by
      rw[xag,xab jl];exact xbo jl
    generalize ws.getD js[k'] ""=x at jn wm;refine⟨pf,_,_,rfl,rfl,by rw[jak fL'];exact s3 _ _ kf',by rw[xaa];exact jaH (by omega),xs++[x],?_,by rw[xaf,lx];rfl,?_,fun y hy=>?_,?_,fun b o hb e=>?_,?_⟩
    . rw[jaf,xal]
      rfl
    . exact List.nodup_append.mpr ⟨nd,xbf.mpr ⟨xao,List.nodup_nil⟩,fun a ha b hb=>by rw[xak.mp hb];exact fun z=>jn (by rw[<- z];exact ha)⟩
    . rcases xay.mp hy with h | h
      . exact nx y h
      . rw[xak.mp h]
        exact nbL x wm
    . rw[jak np,jak pL']
      exact s3 _ _ kk
    . have hb2:b≠pf:=fun z=>by
        rw[z] at e;rw[j1 _ _ (sb pf o fL' e)] at hpf;cases hpf
      rw[jak hb2,jak hb];exact s3 _ _ (sk b o hb e)
    . exact⟨_,by rw[jak (Ne.symm fL'),jaf]⟩
  . rintro σ Hk ⟨o3,o6,xs,rfl,kf',lx,nd,nx,kk,sk,bk⟩
    have hf:H pf=none:=by
      cases e:H pf with
      | none=>rfl
      | some o =>
        rw[j1 _ _ (sb pf o fL' e)] at hpf;cases hpf
    exact⟨_,rfl,q pf xs Hk sk bk hf kf' lx nd nx⟩
structure DrB (ps:List Pt):Prop where
 ex:∃(Z:Sht) (s t:Int) (ix:List Nat),ps=sps Z s t ix/\1<=Z.w/\Z.w<=100/\Z.s.bd 42/\Z.c.bd 42/\Z.d.bd 42/\Z.u.nz/\Ix ix/\1<=s/\s<=6/\1<=t/\t<=6
theorem Brd.good (h:Brd ps):GoodB ps:=by
 refine⟨h.n3,h.n8,h.na,h.flat,?_⟩;unfold axk;split
 ·rename_i c
  exact h.rnd 0 (by decide) (by decide) c
 ·rename_i c
  split
  ·rename_i c1
   exact h.rnd 1 (by decide) (by decide) c1
  ·rename_i c1
   refine h.rnd 2 (by decide) (by decide) fun z=>h.na ?_;exact⟨xap c,xap c1,z⟩
theorem DrB.good (h:DrB ps) (d:Dih ps qs):GoodB qs:=by
 obtain⟨Z,s,t,ix,rfl,w1,_,_,_,_,nz,hix,s1,s6,t1,t6⟩:=h.ex;exact (jmb w1 nz hix s1 s6 t1 t6 d).good
theorem DrB.len (h:DrB ps):3<=ps.length/\ps.length<=8:=by
 obtain⟨Z,s,t,ix,rfl,_,_,_,_,_,_,hix,_⟩:=h.ex;unfold sps;rw[xaa];exact⟨hix.1,hix.2.1⟩
theorem DrB.frm (h:DrB ps) (d:Dih ps qs):frm qs qs=My.frm ps ps:=by
 have l:=h.len;obtain⟨Z,s,t,ix,rfl,w1,_,_,_,_,nz,hix,s1,s6,t1,t6⟩:=h.ex;exact jl8 (jny w1 nz hix s1 s6 t1 t6) l.1 l.2 d
theorem DrB.pt (h:DrB ps):∀p∈ps,PtB p:=fun p hp=>by
 obtain⟨Z,s,t,ix,rfl,w1,w2,b1,b2,b3,nz,hix,s1,s6,t1,t6⟩:=h.ex;obtain⟨i,hi,rfl⟩:=xaA.mp hp;have pl:=jhb (i:=i) s1 s6 t1 t6;generalize plc s t i=v at pl;obtain⟨p0,p1,p2,p3,p4,p5⟩:=pl;have bw:Bd 7 Z.w:=bd7 (by omega) (by omega);have bp:Bd 7 v.x:=bd7 (by omega) (by omega);have bq:Bd 7 v.y:=bd7 (by omega) (by omega);have br:Bd 7 v.z:=bd7 (by omega) (by omega);have tb:∀{i g:Int},Bd 60 i->TB (i / g):=fun h=>xah (Bd.div h) (by decide +kernel);have ww:1<=(spt Z v).w:=jl9 w1 ⟨p0,p1,p2,p3,p4,p5⟩;have wp:0<Z.w*v.z:=xaP (by omega) (by omega);refine⟨tb (jfd b1.1 b2.1 b3.1 bw bp bq br),tb (jfd b1.2.1 b2.2.1 b3.2.1 bw bp bq br),tb (jfd b1.2.2 b2.2.2 b3.2.2 bw bp bq br),tb (Bd.mono (n:=14) (Bd.mul (n:=7) (m:=7) bw br)),ww,?_⟩;exact jkU (ns:=[rX Z v,rY Z v,rZ Z v,rW Z v]) fun e=>by
  have d:=ja2 (ns:=[rX Z v,rY Z v,rZ Z v,rW Z v]) (n:=rW Z v) (by simp);rw[e] at d;have z:rW Z v=0:=Int.zero_dvd.mp d;have:rW Z v=Z.w*v.z:=rfl;omega
def BLs (H:Hp) (r:Addr) (ps:List Pt):Prop:=∃us,Cor H r us ps
theorem jfD {α β:Type} {R R':α->β->Prop} {as:List α} {bs:List β} (h:All2 R as bs) (f:∀a b,a∈as->R a b->R' a b):All2 R' as bs:=by
 induction h with
 | nil=>exact .nil
 | cons h _ ih=>exact .cons (f _ _ (.head _) h) (ih fun a b ha hr=>f a b (.tail _ ha) hr)
def lb1:L2.St->Hp->L2.St->Hp->Prop:=fun σ H σ' H'=>∃(L t:Addr) (Z:Sht),σ[0]?=some (some (.ref L))/\SameB L H H'/\Box H' L/\σ'=σ.set 3 (some (.ref t))/\IsSh H' t Z
def spLB:Sp:=fun vs H Q _=>∃(L:Addr) (m:Nat),vs=[.ref L,.int (m:Nat)]/\Box H L/\m<=5/\∀(l:Addr) (rs:List Addr) (bs:List (List Pt)) (H':Hp),SameB L H H'->Box H' L->H l=none->(∀r∈rs,H r=none)->H' l=some (.lst (rs.map V.ref))->All2 (BLs H') rs bs->bs.length=m->(∀b∈bs,DrB b)->Q (.ref l) H'
theorem jnO (T:Tx K mg t1 t2) (F:At K mg "_law_boards" jbo ["left","many"] []) (dC:jap P w K mg base CX0 2 "_law_sheet" ["left"] [] jiP) (db:jap P w K mg base CX0 1 "_law_next" ["left","base"] [] jeG) (Dd:jap P w K mg base CX0 2 "_law_shape" ["left"] [] jiR) (Dm:jap P w K mg base CX0 3 "_law_spot" ["sheet","place"] [] jk5):jap P w K mg base CX0 4 "_law_boards" ["left","many"] [] spLB:=by
  refine F.ok jc2 (fun vs H Q E h=>?_) (fun f cdv A outer s H vs Q E hr h=>?_)
  . obtain⟨L,m,rfl,_⟩:=h
    rfl
  obtain⟨L,m,rfl,hL,m5,q⟩:=h;have S:=jc2;refine⟨_,(jae (jas (i:=2) S.nd rfl (Or.inl rfl) (jaV jac))
    (jae (jas (i:=3) S.nd rfl (Or.inr rfl) (jai dC hr.m rfl jav (jaa (pv 0) jac jah)))
    (jae (ja1 PassesOwn.never rfl (jaG rfl T.m_range (jaa (pv 1) jac jah)) (jan (i:=4) S.nd rfl (Or.inl rfl))
    (jgV lb1 (jaQ (jat jfK (jai db hr.m rfl jav (jaa (pv 0) (jaa jab jac jaj) jah)) jab (jaw _))
    (jag (jas (i:=3) S.nd rfl (Or.inr rfl) (jai dC hr.m rfl jav (jaa (pv 0) jac jah))))
    jax)
    (jag (jbi (jb2 PySem.F.plainAttrs_list PySem.F.slot_list_append PySem.F.type_list_append jbk (pv 2) (jaa (jaU rfl (N':=["place","sheet"]) (ix:=[3]) ⟨rfl,rfl,by decide +kernel,by decide +kernel,by decide +kernel,(show ∀y:Str × NameKind,y∈_->y.2=NameKind.free->(jad jbo).names.lookup y.1=some .cell\/(jad jbo).names.lookup y.1=some .free from by decide +kernel),(.cons rfl (.inl rfl) rfl .nil)⟩ (jbd (jai Dd hr.m rfl jav (jaa (pv 0) jac jah))) (fun _ _ _ _=>jan (i:=0) (show (["place","sheet"]:List Str).Nodup from by decide +kernel) rfl (Or.inl rfl)) (fun _ _ _ _=>ja4) (fun _ _ _ _=>(jai Dm hr.m rfl jav (jaa (pv 1) (jaa (pv 0) jac jah) jah)))) jac jcr))))))
    (jag (jaq (pv 2)))))),?_⟩
  walk_at "rf";refine⟨by decide,fun F hF=>ja6 hF fun J1 j1 k1=>?_⟩;have bx:Box J1 L:=by
    obtain⟨n,e⟩:=hL;exact⟨n,j1 _ _ e⟩
  have FL:F≠L:=fun e=>by
    obtain⟨n,z⟩:=hL;rw[e,z] at hF;cases hF
  refine⟨L,rfl,bx,fun t H1 Z sb1 bx1 hZ=>⟨by omega,by omega,?_⟩⟩;rw[xa9];refine jaL (lo:=0) (n:=m) (fun i σ Hh=>∃(t:Addr) (Z:Sht) (o4:Option V) (rs:List Addr) (bs:List (List Pt)),σ=[some (.ref L),some (.int (m:Nat)),some (.ref F),some (.ref t),o4]/\IsSh Hh t Z/\Hh F=some (.lst (rs.map V.ref))/\All2 (BLs Hh) rs bs/\bs.length=i/\(∀b∈bs,DrB b)/\(∀r∈rs,H r=none)/\(∀r∈rs,r≠F/\r≠L)/\SameB L H Hh/\Box Hh L) ⟨t,Z,_,[],[],rfl,hZ,sb1 _ _ FL k1,.nil,rfl,(fun _ z=>nomatch z),(fun _ z=>nomatch z),(fun _ z=>nomatch z),fun b o hb e=>sb1 b o hb (j1 _ _ e),bx1⟩ ?_ ?_
  . rintro i σ Hh hi ⟨t,Z,o4,rs,bs,rfl,hZ,kF,hA,lb,hD,hn,hne,sb,bx⟩
    refine⟨?_,?_⟩
    . obtain⟨n',hn'⟩:=bx
      walk_at "rf";refine⟨L,3,n',rfl,hn',by decide,.o (by decide) (by decide),?_⟩;have sb2:SameB L Hh (upd Hh L (.lst [.int (n' / 3)])):=fun b o hb e=>by rw[jak hb];exact e
      have bx2:Box (upd Hh L (.lst [.int (n' / 3)])) L:=⟨_,jaf⟩;refine⟨_,rfl,jcl (fun c=>?_) fun c=>?_⟩
      . exact⟨L,rfl,bx2,fun t2 H3 Z2 sb3 bx3 hZ2=>⟨L,t2,Z2,rfl,fun b o hb e=>sb3 b o hb (sb2 b o hb e),bx3,rfl,hZ2⟩⟩
      . exact⟨L,t,Z,rfl,sb2,bx2,rfl,hZ.keep (SameB.t sb2 ⟨n',hn'⟩)⟩
    rintro σ' H2 ⟨L',t',Z',hL',sb2,bx2,rfl,hZ'⟩;cases hL';walk_at "rf";have kF2:=sb2 _ _ FL kF;refine⟨.inl ⟨_,SqL.of kF2⟩,L,rfl,bx2,fun l H3 ps ix s' t2 sb3 bx3 hl hp hix sa sb' ta tb=>⟨l,rfl,⟨_,SqL.of hl⟩,fun acc hacc=>?_⟩⟩;have hZ3:=hZ'.keep (SameB.t sb3 bx2);obtain⟨za,zc,zd,_,⟨_,zb1⟩,⟨_,zb2⟩,⟨_,zb3⟩,w1,w2,nz⟩:=id hZ3;have lr:ps.length=ix.length:=by rw[hp.len,xaa]
    have lm:(ps.map V.ref).length=ix.length:=by rw[xaa,lr]
    have i8:=hix.2.1;refine jf0 (zs:=ps.map V.ref) (fun i y H'=>∃(r:Addr) (k:Nat),y=.ref r/\ix[i]?=some k/\Is4 H' r (spt Z' (plc s' t2 k))) (fun i y J J' ⟨r,k,h1,h2,h3⟩ st=>⟨r,k,h1,h2,st _ _ h3.1,h3.2⟩) (by omega) hacc (SqL.of hl) ?_ ?_
    . intro j z H6 R hj s6 hR
      have hj8:j<ix.length:=by have:=(xaj.mp hj).1;omega
      have ek:ix[j]?=some ix[j]:=xab hj8;generalize ix[j]=k at ek;have ev:(ix.map (plc s' t2))[j]?=some (plc s' t2 k):=by rw[xad,ek];rfl
      obtain⟨g1,g2⟩:=hp.get ev;rw[xad,g1] at hj;cases hj;exact⟨_,rfl,_,rfl,t',ad ps j,Z',plc s' t2 k,rfl,hZ3.keep s6.t,s6 _ _ g2,jhb sa sb' ta tb,fun g H7 s7 h7=>hR _ _ s7 ⟨g,k,rfl,ek,h7⟩⟩
    intro ys H6 s6 e6 l6 p6;obtain⟨us,rfl,hsp⟩:=jk9 (H:=H6) ys (sps Z' s' t2 ix) (by rw[l6,lm];exact (xaa _).symm) fun j y p h1 h2=>by
      obtain⟨r,k,rfl,hk,hr⟩:=p6 j y h1;have h3:(ix.map fun i=>spt Z' (plc s' t2 i))[j]?=some p:=h2;rw[xad,hk] at h3;cases h3;exact⟨r,rfl,hr⟩
    have kF6:=s6 _ _ (sb3 _ _ FL kF2);have aF:acc≠F:=fun e=>by rw[e,sb3 _ _ FL kF2] at hacc;cases hacc
    have aL:acc≠L:=fun e=>by
      obtain⟨n,z⟩:=bx3;rw[e,z] at hacc;cases hacc
    have sT:SameT H6 (upd H6 F (.lst (rs.map V.ref++[.ref acc]))):=fun b o e=>by
      rw[jak (fun z=>by rw[z,kF6] at e;cases e)];exact e
    have sT6:SameT Hh H6:=fun b o e=>s6 _ _ (SameB.t sb3 bx2 _ _ (SameB.t sb2 bx _ _ e));refine⟨F,_,_,rfl,rfl,kF6,?_,Z',(hZ3.keep s6.t).keep sT,rs++[acc],?_,bs++[sps Z' s' t2 ix],?_,?_,?_,?_,?_,?_,?_⟩
    . rw[xaa,hA.len]
      exact jaH (by omega)
    . rw[jaf,xal]
      rfl
    . have hA':All2 (BLs (upd H6 F (.lst (rs.map V.ref++[.ref acc])))) rs bs:=jfD hA fun r b hr ⟨us,c1,c2⟩=>by
        obtain⟨n1,n2⟩:=hne r hr;exact⟨us,by rw[jak n1];exact s6 _ _ (sb3 _ _ n2 (sb2 _ _ n2 c1)),(c2.keep sT6).keep sT⟩
      exact hA'.app (.cons ⟨us,by rw[jak aF];exact e6,hsp.keep sT⟩ .nil)
    . rw[xaf,lb]
      rfl
    . intro b hb
      rcases xay.mp hb with h | h
      . exact hD b h
      . rw[xak.mp h]
        exact⟨Z',s',t2,ix,rfl,w1,w2,zb1,zb2,zb3,nz,hix,sa,sb',ta,tb⟩
    . intro r hr
      rcases xay.mp hr with h | h
      . exact hn r h
      . rw[xak.mp h]
        cases e:H acc with
        | none=>rfl
        | some o =>
          rw[sb3 _ _ aL (sb2 _ _ aL (sb _ _ aL e))] at hacc;cases hacc
    . intro r hr
      rcases xay.mp hr with h | h
      . exact hne r h
      . rw[xak.mp h]
        exact⟨aF,aL⟩
    . intro b o hb e
      have bF:b≠F:=fun z=>by rw[z,hF] at e;cases e
      rw[jak bF];exact s6 _ _ (sb3 _ _ hb (sb2 _ _ hb (sb _ _ hb e)))
    . obtain⟨n,z⟩:=bx3
      exact⟨n,by rw[jak (Ne.symm FL)];exact s6 _ _ z⟩
  . rintro σ Hh ⟨t,Z,o4,rs,bs,rfl,hZ,kF,hA,lb,hD,hn,hne,sb,bx⟩
    exact⟨_,rfl,q F rs bs Hh sb bx hF hn kF hA lb hD⟩
def ow1:L2.St->Hp->L2.St->Hp->Prop:=fun σ H σ' H'=>∃(L r:Addr) (us:List V) (r':Addr) (us':List V),σ[0]?=some (some (.ref L))/\σ[5]?=some (some (.ref r))/\H r=some (.lst us)/\SameB L H H'/\Box H' L/\σ'=σ.set 5 (some (.ref r'))/\H' r'=some (.lst us')/\(us'=us/\r'=r\/us'=us.reverse/\H r'=none)
def spOW:Sp:=fun vs H Q _=>∃(L l:Addr) (rs:List Addr) (bs:List (List Pt)),vs=[.ref L,.ref l]/\Box H L/\H l=some (.lst (rs.map V.ref))/\All2 (BLs H) rs bs/\bs.length<=5/\(∀b∈bs,DrB b)/\(∀r∈rs,r≠L)/\l≠L/\∀(l':Addr) (rs':List Addr) (bs':List (List Pt)) (H':Hp),SameB L H H'->Box H' L->H' l'=some (.lst (rs'.map V.ref))->All2 (BLs H') rs' bs'->All2 Dih bs bs'->Q (.ref l') H'
theorem ok_ow (T:Tx K mg t1 t2) (F:At K mg "_law_other_way" jbD ["left","boards"] []) (db:jap P w K mg base CX0 1 "_law_next" ["left","base"] [] jeG):jap P w K mg base CX0 2 "_law_other_way" ["left","boards"] [] spOW:=by
 refine F.ok jb6 (fun vs H Q E h=>?_) (fun f cdv A outer s H vs Q E hr h=>?_)
 ·obtain⟨L,l,rs,bs,rfl,_⟩:=h;rfl
 obtain⟨L,l,rs,bs,rfl,hL,hl,hA,l5,hD,hne,lL,q⟩:=h;have S:=jb6;refine⟨_,(jae (jas (i:=2) S.nd rfl (Or.inl rfl) (jaV jac))
  (jae (ja1 PassesOwn.never rfl (jbd (pv 1)) (jan (i:=3) S.nd rfl (Or.inl rfl))
  (jae (jas (i:=4) S.nd rfl (Or.inl rfl) (jai db hr.m rfl jav (jaa (pv 0) (jaa (jaz jaB rfl T.m_len PySem.boot_len (jaa (pv 3) jac jah)) jac jaJ) jah)))
  (jae (jas (i:=5) S.nd rfl (Or.inl rfl) (jao jcS (ja5 jbz (pv 3) (ja7 (pv 4)) jbe) (ja5 jbz (pv 3) jbe (ja7 (pv 4)))))
  (jgV ow1 (jaQ (jat jcN (jai db hr.m rfl jav (jaa (pv 0) (jaa jab jac jaj) jah)) jab (jaw _))
  (jag (jas (i:=5) S.nd rfl (Or.inl rfl) (jgr (pv 5) (jfJ jdO jab))))
  jax)
  (jag (jbi (jb2 PySem.F.plainAttrs_list PySem.F.slot_list_append PySem.F.type_list_append jbk (pv 2) (jaa (pv 5) jac jah))))))))
  (jag (jaq (pv 2))))),?_⟩
 walk_at "rf";refine⟨by decide,fun F hF=>ja6 hF fun J1 j1 k1=>⟨⟨_,SqL.of (j1 _ _ hl)⟩,?_⟩⟩;have FL:F≠L:=fun e=>by
  obtain⟨n,z⟩:=hL;rw[e,z] at hF;cases hF
 have lr:=hA.len;refine jdk (K:=K) (a:=l) (xs:=rs.map V.ref) (fun i σ Hh=>∃(o3 o4 o5:Option V) (rs':List Addr) (bs':List (List Pt)),σ=[some (.ref L),some (.ref l),some (.ref F),o3,o4,o5]/\Hh F=some (.lst (rs'.map V.ref))/\All2 (BLs Hh) rs' bs'/\All2 Dih (bs.take i) bs'/\(∀r∈rs',r≠F/\r≠L)/\SameB L H Hh/\Box Hh L) ⟨_,_,_,[],[],rfl,k1,.nil,.nil,(fun _ z=>nomatch z),(fun b o _ e=>j1 _ _ e),?_⟩ (fun i σ Hh _ ⟨_,_,_,_,_,_,_,_,_,_,sb,_⟩=>SqL.of (sb _ _ lL hl)) ?_ ?_
 ·obtain⟨n,z⟩:=hL;exact⟨n,j1 _ _ z⟩
 ·rintro i v σ Hh hv ⟨o3,o4,o5,rs',bs',rfl,kF,hA',hd,hne',sb,bx⟩;rw[xad] at hv;obtain⟨r,hr',rfl⟩:=xau.mp hv;obtain⟨b,hb,us,c1,c2⟩:=hA.getA hr';have bD:=hD b (xas hb);obtain⟨b3,b8⟩:=bD.len;have rL:=hne r (xas hr');have lu:=c2.len;have ib:=(xaj.mp hb).1;have lb':=hd.len;rw[xat] at lb';have lr':=hA'.len;have cr:=sb _ _ rL c1;obtain⟨n',hn'⟩:=id bx;have a0:=xaF n' (show ((b.length:Nat):Int)≠0 by omega);have a1:=xaB n' (show 0<((b.length:Nat):Int) by omega);obtain⟨k',ek'⟩:∃k:Nat,n' % ((b.length:Nat):Int)=(k:Int):=⟨(n' % ((b.length:Nat):Int)).toNat,by omega⟩;have kl:k'<b.length:=by omega
  walk_at "rf";refine⟨_,.inl (SqL.of cr),L,_,n',rfl,hn',by rw[xaa];omega,by rw[xaa];exact .o (by omega) (by omega),?_⟩;rw[xaa,lu,ek'];have sb2:SameB L Hh (upd Hh L (.lst [.int (n' / (b.length:Nat))])):=fun b o hb e=>by rw[jak hb];exact e
  have bx2:Box (upd Hh L (.lst [.int (n' / (b.length:Nat))])) L:=⟨_,jaf⟩;generalize upd Hh L (.lst [.int (n' / (b.length:Nat))])=H2 at sb2 bx2;have kl2:=SqL.of (K:=K) (sb2 _ _ rL cr);refine⟨_,rfl,r,_,rfl,kl2,fun p1 h1=>?_⟩;rw[jdp];refine ja6 h1 fun J2 j2 e2=>⟨_,rfl,r,_,rfl,j2.seq kl2,fun p2 h2=>?_⟩;rw[jed];refine ja6 h2 fun J3 j3 e3=>⟨p1,p2,_,_,rfl,rfl,j3 _ _ e2,e3,?_,fun p3 h3=>ja6 h3 fun J4 j4 e4=>?_⟩
  ·rw[xaE,xat,xaa];exact xan (show _<=1000 by omega) (by decide)
  rw[show (us.map V.ref).drop k'++(us.map V.ref).take k'=(rot k' us).map V.ref from by unfold rot;rw[xal,xbL,xbM]] at e4;have s24:=j2.trans (j3.trans j4);have bx4:Box J4 L:=by
   obtain⟨n,z⟩:=bx2;exact⟨n,s24 _ _ z⟩
  have pL:p3≠L:=fun e=>by
   obtain⟨n,z⟩:=bx2;rw[e,j3 _ _ (j2 _ _ z)] at h3;cases h3
  refine⟨?_,?_⟩
  ·obtain⟨n4,hn4⟩:=bx4;walk_at "rf";refine⟨L,2,n4,rfl,hn4,by decide,.o (by decide) (by decide),rfl,jcl (fun c=>?_) fun c=>?_⟩
   ·have e5:upd J4 L (.lst [.int (n4 / 2)]) p3=some (.lst ((rot k' us).map V.ref)):=by rw[jak pL];exact e4
    refine⟨_,rfl,1,rfl,rfl,p3,_,rfl,SqL.of e5,fun a6 h6=>?_⟩;have a6L:a6≠L:=fun e=>by rw[e,jaf] at h6;cases h6
    rw[jak a6L] at h6;refine⟨L,p3,_,a6,_,rfl,rfl,e4,fun b o hb e=>?_,⟨_,by rw[jak (Ne.symm a6L),jaf]⟩,rfl,jaf,.inr ⟨?_,h6⟩⟩
    ·rw[jak (jal e h6),jak hb];exact e
    ·rfl
   ·exact⟨L,p3,_,p3,_,rfl,rfl,e4,(fun b o hb e=>by rw[jak hb];exact e),⟨_,jaf⟩,rfl,by rw[jak pL];exact e4,.inl ⟨rfl,rfl⟩⟩
  rintro σ' H5 ⟨L',p3',vs0,r5,us5,hL',hp3',e4',sb5,bx5,rfl,e5,h5⟩;cases hL';cases hp3';rw[e4] at e4';cases e4';have pF:p3≠F:=fun e=>by rw[e,j3 _ _ (j2 _ _ (sb2 _ _ FL kF))] at h3;cases h3
  have sT24:SameT Hh J4:=fun c o e=>s24 _ _ (SameB.t sb2 bx _ _ e);have sT5:SameT Hh H5:=fun c o e=>SameB.t sb5 bx4 _ _ (sT24 _ _ e);have kF5:=sb5 _ _ FL (s24 _ _ (sb2 _ _ FL kF));have cH:SameT H Hh:=SameB.t sb hL;obtain⟨b5,us6,rfl,hs6,hd6,r5F,r5L⟩:∃(b5:List Pt) (us6:List Addr),us5=us6.map V.ref/\Sps H5 us6 b5/\Dih b b5/\r5≠F/\r5≠L:=by
   have d0:Dih b (rot k' b):=(Dih.refl b3).rot b8 kl;have su:=(((c2.keep cH).keep sT5).rot k');rcases h5 with ⟨rfl,rfl⟩ | ⟨rfl,h6⟩
   ·exact⟨rot k' b,rot k' us,rfl,su,d0,pF,pL⟩
   ·refine⟨(rot k' b).reverse,(rot k' us).reverse,by rw[List.map_reverse],su.rev,d0.rev b8,fun e=>?_,fun e=>?_⟩
    ·rw[e,s24 _ _ (sb2 _ _ FL kF)] at h6;cases h6
    ·obtain⟨n,z⟩:=bx4;rw[e,z] at h6;cases h6
  have sTF:SameT H5 (upd H5 F (.lst (rs'.map V.ref++[.ref r5]))):=fun c o e=>by
   rw[jak (fun z=>by rw[z,kF5] at e;cases e)];exact e
  walk_at "rf";refine⟨.inl ⟨_,SqL.of kF5⟩,F,_,_,rfl,rfl,kF5,by rw[xaa];exact jaH (by omega),rs'++[r5],?_,bs'++[b5],?_,?_,?_,?_,?_⟩
  ·rw[jaf,xal];rfl
  ·refine (jfD hA' fun c d hc ⟨us,x1,x2⟩=>?_).app (.cons ⟨us6,by rw[jak r5F];exact e5,hs6.keep sTF⟩ .nil);obtain⟨n1,n2⟩:=hne' c hc;exact⟨us,by rw[jak n1];exact sb5 _ _ n2 (s24 _ _ (sb2 _ _ n2 x1)),(x2.keep sT5).keep sTF⟩
  ·rw[xaH,hb];exact hd.app (.cons hd6 .nil)
  ·intro c hc;rcases xay.mp hc with h | h
   ·exact hne' c h
   ·rw[xak.mp h];exact⟨r5F,r5L⟩
  ·intro c o hc e;have cF:c≠F:=fun z=>by rw[z,hF] at e;cases e
   rw[jak cF];exact sb5 _ _ hc (s24 _ _ (sb2 _ _ hc (sb _ _ hc e)))
  ·obtain⟨n,z⟩:=bx5;exact⟨n,by rw[jak (Ne.symm FL)];exact z⟩
 ·rintro σ Hh ⟨o3,o4,o5,rs',bs',rfl,kF,hA',hd,hne',sb,bx⟩;rw[xaa,lr,xaL] at hd;exact⟨_,rfl,q F rs' bs' Hh sb bx kF hA' hd⟩
theorem jnP {e:Expr} {env:Env} {pos:Pos} {v:Sem Value} (h:starEach (e::[]) env=(false,v)::starEach [] env):(backTo pos (starEach [e] env)).any (·.1)=false:=by
 rw[h];rfl
theorem jmy {X:Cx} {e:Expr} {pos:Pos} (he:WE X e te) (hs:swapsWith e none pos.line X.env=pure false:=by rfl):WS X (.Expr e pos) (jgh te):=⟨jbi he.h hs⟩
theorem jky {X:Cx} {CX:CXT} {k:Nat} {C:Addr} {ps:List Str} {sp:Sp} {E:XK} {m:Str} {pos apos:Pos} {e o:Expr} {es:List Expr} {ta:TE} {t:TA} {pl:Sem Bool} (D:MethOk X.prog X.w X.K X.mg X.base CX k C m ps sp) (he:PE X o ta) (c:Cls X.K C) (hr:Room k X.A) (hx:jbS CX X E) (ha:WA X (e::es) t)
  (hst:starEach (e::es) X.env=(false,eval e X.env)::starEach es X.env) (hpl:(backTo pos (starEach es X.env)).any (·.1)=false)
  (ht:eval (.Call (.Attribute o m apos) (e::es) [] pos) X.env=(do
   let ov <- eval o X.env
   standAt apos.atName
   let (f,first) <- holding [ov] (getMethod ov m pl)
   callWith pos f first (backTo pos (starEach (e::es) X.env)) (backToKw pos (keywordEach [] X.env))):=by rfl) :
  WE X (.Call (.Attribute o m apos) (e::es) [] pos) (jhz C m sp [] E ta t):=⟨jec D he c hr hx ha.h hst hpl ht⟩
theorem jmz (bs:List (List Pt)):SeqAt.shaped (.list (bs.map boD))=true/\PyData.eqv (.list (bs.map boD)) (.list (bs.map boD))=true:=by
 have c:PyData.canLayAll0 (bs.map boD)=true:=jfy fun d hd=>by
  obtain⟨b,_,rfl⟩:=xaA.mp hd;exact (jlj _).1
 have e:PyData.depthAll (bs.map boD)<=2:=jfz fun d hd=>by
  obtain⟨b,_,rfl⟩:=xaA.mp hd;exact (jlj _).2
 have c':PyData.canLay0 (.list (bs.map boD))=true:=by rw[PyData.canLay0,c]
 refine⟨?_,SeqAt.eqv_refl _ c'⟩;unfold SeqAt.shaped;rw[c',PyData.depth,decide_eq_true (by omega)];rfl
def newP:List Pt:=[⟨0,0,0,1⟩,⟨5,0,0,1⟩,⟨0,7,0,1⟩]
theorem jjl:GoodB newP:=by
 have l:newP.length=3:=rfl;refine⟨by decide,by decide,by unfold jdg;decide +kernel,fun i hi=>?_,fun i j hi j1 j2=>?_⟩
 ·have:i=0\/i=1\/i=2:=by omega
  rcases this with rfl | rfl | rfl<;>decide +kernel
 ·have:j=1:=by omega
  subst this;have:i=0\/i=1\/i=2:=by omega
  rcases this with rfl | rfl | rfl<;>decide +kernel
def spIs (Y:Addr):Sp:=fun vs H Q _=>∃(M:List Addr) (y pL nl fl:Addr) (st:Rws) (ts:List Addr),vs=[.ref y,.ref nl,.ref fl,.str (yT st)]/\YardAt Y M H y pL st []/\(∀it∈st,ItB it)/\inN (Str.ofString "newboard") st=false/\st.length<=5/\rm M H nl=some (.lst (stV st))/\rm M H fl=some (.lst (ts.map V.ref))/\All2 (BoAt (rm M H)) ts (st.map (·.2))/\∀H',SX [y,pL] H H'->Q (.bl true) H'
theorem ok_is (T:Tyd K mg t1 t2 cs SE Y) (F:At K mg "_law_is" jeB ["yard","names","forms","text"] []) (de:MethOk P w K mg base CX0 1 Y "names" ["self"] (jeO Y)) (dm:MethOk P w K mg base CX0 1 Y "boards" ["self"] (jfw Y)) (dh:MethOk P w K mg base CX0 1 Y "deeds" ["self"] (jgA Y)) (dP:jap P w K mg base CX0 2 "_law_no_deed" ["yard"] [] (spND Y)) (dg:jap P w K mg base CX0 5 "yard_text" ["yard"] [] (spYT Y)) (di:MethOk P w K mg base (XOk P w) 7 Y "put" ["self","name","corners"] (jkt Y cs)) (dv:MethOk P w K mg base (XOk P w) 1 Y "back" ["self"] (jje Y (cs 3))):jap P w K mg base CX0 8 "_law_is" ["yard","names","forms","text"] [] (spIs Y):=by
 refine F.okW jfc (fun vs H Q E h=>?_) (fun f cdv A outer s H vs Q E hr h=>?_)
 ·obtain⟨M,y,pL,nl,fl,st,ts,rfl,_⟩:=h;rfl
 obtain⟨M,y,pL,nl,fl,st,ts,rfl,hY,iB,nI,l5,hn,hf,ha,q⟩:=h;have S:=jfc;refine⟨_,(jdn ⟨(jaQ (PW.pt (jd4 (jat (je2 (jkL hr)) (jaR de (pv 0) T.cl hr.m jav) (pv 1) (jaw _)) (jd4 (jat (je2 (jkL hr)) (jaR dm (pv 0) T.cl hr.m jav) (pv 2) (jaw _)) (jd4 (jat jcn (jaR dh (pv 0) T.cl hr.m jav) jab (jaw _)) (jcP (jcQ (jbR (jai dP hr.m rfl jav (jaa (pv 0) jac jah)))))))))
  (jag (jaq jcM))
  jax)⟩
  (jdn ⟨(jaQ (jat jcn (jai dg hr.m rfl jav (jaa (pv 0) jac jah)) (pv 3) (jaw _))
  (jag (jaq jcM))
  jax)⟩
  (jdn (jmy (jky di (pv 0) T.cl hr.m jjM (jam ⟨jaC⟩ (jam (jix (jam (jbv (jam ⟨jab⟩ (jam ⟨jab⟩ (jam ⟨jab⟩ (jam ⟨jab⟩ jbb jaj) jaj) jaj) jaj)) (jam (jbv (jam ⟨jab⟩ (jam ⟨jab⟩ (jam ⟨jab⟩ (jam ⟨jab⟩ jbb jaj) jaj) jaj) jaj)) (jam (jbv (jam ⟨jab⟩ (jam ⟨jab⟩ (jam ⟨jab⟩ (jam ⟨jab⟩ jbb jaj) jaj) jaj) jaj)) jbb jbh) jbh) jbh)) jbb jkO) jaj) jaj (jnP jkO)))
  ⟨(jae (jaQ (PW.pt (jd4 (jat (je2 (jkL hr)) (jaR de (pv 0) T.cl hr.m jav) (jao jcS (pv 1) (jaV (jaa jaC jac jaj))) (jaw _)) (jcP (jat jcn (jaR dh (pv 0) T.cl hr.m jav) jab (jaw _)))))
  (jag (jaq jcM))
  jax)
  (jae (jbi (jaR dv (pv 0) T.cl hr.m jjM))
  (jag (jaq (jkA (jb8 jcN (jai dg hr.m rfl jav (jaa (pv 0) jac jah)) (pv 3) (jaw _)) (jkz (jb8 jcN (jaR dh (pv 0) T.cl hr.m jav) jab (jaw _))))))))⟩))),?_⟩
 obtain⟨dx,sL,ss,h1,h2,h3,h4⟩:=hY.ob;walk_at "rf";have lo:∀it∈st,Lo it.1:=fun it hi=>(iB it hi).n.az.lo;have z0:=jgD (st:=st) lo;obtain⟨b1,b2⟩:=jmz (st.map (·.2));have ss0:ss=[]:=xbu.mp h4.len;refine⟨_,rfl,y,dx,_,rfl,h1,ja0 (by decide +kernel) (by decide +kernel),y,dx,sL,pL,st,rfl,h1,h3.keep (jbV _ _),by omega,fun l1 H1 n1 s1 e1=>?_⟩;refine⟨_,_,.lst (SqL.of e1) (jch _),.lst (SqL.of (s1 _ _ (ja3 hn).1)) (jch _),z0,z0,_,rfl,?_⟩;rw[jnK,SeqAt.eqv_refl _ (SeqAt.canLay_of_shaped z0),if_neg (by decide)];refine⟨_,rfl,y,dx,_,rfl,s1 _ _ h1,ja0 (by decide +kernel) (by decide +kernel),y,dx,sL,pL,st,rfl,s1 _ _ h1,h3.keep ((jbV _ _).trans s1),by omega,fun l2 ts2 H2 n2 s2 e2 a2=>?_⟩;have s02:=s1.trans s2;refine⟨_,_,.lst (SqL.of e2) (jjg a2),.lst (SqL.of (s02 _ _ (ja3 hf).1)) (jjg (ha.mono fun _ _ b=>b.keep ((jbV _ _).trans s02))),b1,b1,_,rfl,?_⟩;rw[jnK,b2,if_neg (by decide)];refine⟨_,rfl,y,dx,_,rfl,s02 _ _ h1,ja0 (by decide +kernel) (by decide +kernel),y,pL,dx,sL,ss,rfl,s02 _ _ h1,s02 _ _ h2,rfl,?_⟩;rw[if_pos (by rw[ss0];rfl)];refine⟨M,y,pL,st,rfl,hY.keep s02,fun H3 s3=>⟨_,rfl,?_⟩⟩;rw[if_neg (by decide)];have s03:=s02.trans s3;refine⟨y,dx,sL,pL,st,rfl,s03 _ _ h1,h3.keep ((jbV _ _).trans s03),by omega,iB,fun H4 s4=>⟨rfl,?_⟩⟩;rw[if_pos rfl];have s04:=s03.trans s4;have hY4:=hY.keep s04;refine⟨_,rfl,y,dx,_,rfl,s04 _ _ h1,ja0 (by decide +kernel) (by decide +kernel),?_⟩;walk_at "rf";refine⟨by show 4<=sizeLine;decide,fun p hp=>ja6 hp fun G1 g1 k1=>⟨by show 4<=sizeLine;decide,fun p1 hp1=>ja6 hp1 fun G2 g2 k2=>⟨by show 4<=sizeLine;decide,fun p2 hp2=>ja6 hp2 fun G3 g3 k3=>⟨by show 3<=sizeLine;decide,fun p3 hp3=>ja6 hp3 fun G4 g4 k4=>?_⟩⟩⟩⟩;have gg:=g1.trans (g2.trans (g3.trans g4));have sG:=s04.trans gg;have sm1:∀{i:Int},i.natAbs<10->Sm2 i:=fun h=>xah h (by decide +kernel);have cor:Cor G4 p3 [p,p1,p2] newP:=⟨k4,.cons ⟨g4 _ _ (g3 _ _ (g2 _ _ k1)),sm1 (by decide),sm1 (by decide),sm1 (by decide),sm1 (by decide)⟩ (.cons ⟨g4 _ _ (g3 _ _ k2),sm1 (by decide),sm1 (by decide),sm1 (by decide),sm1 (by decide)⟩ (.cons ⟨g4 _ _ k3,sm1 (by decide),sm1 (by decide),sm1 (by decide),sm1 (by decide)⟩ .nil))⟩;have n1:nm (Str.ofString "newboard")=true:=by decide +kernel
 have en:jb7 st (Str.ofString "newboard") true=none:=by
  unfold jb7;rw[if_neg (by rw[n1];decide),if_neg (by rw[nI];decide),if_neg (by decide),if_neg (by omega)]
 have lN:Lo (Str.ofString "newboard"):=by unfold Lo;decide +kernel
 refine⟨M,y,pL,p3,[p,p1,p2],newP,st,[],Str.ofString "newboard",true,rfl,⟨fun _=>jjl,fun _=>rfl⟩,hY.keep sG,by omega,by decide,lN,by decide +kernel,cor,fun _ H5 s5 y5=>?_,fun i z=>by rw[en] at z;cases z⟩;have hM:∀a∈[y,pL],a∈M:=fun a ha=>by
  simp only[xac,xao,or_false] at ha;rcases ha with rfl | rfl
  ·exact hY.yM
  ·exact hY.pM
 have r5:Same (rm M H) (rm M H5):=(jdN sG).trans (s5.rm hM);obtain⟨dx5,sL5,ss5,a1,a2',a3,a4⟩:=y5.ob;have l5':(st++[(Str.ofString "newboard",frm newP newP)]).length<=900:=by rw[xaf];show st.length+1<=900;omega
 refine⟨_,rfl,y,dx5,_,rfl,a1,ja0 (by decide +kernel) (by decide +kernel),y,dx5,sL5,pL,_,rfl,a1,a3.keep (jbV _ _),l5',fun l6 H6 n6 s6 e6=>?_⟩;have en6:stV (st++[(Str.ofString "newboard",frm newP newP)])=stV st++[.str (Str.ofString "newboard")]:=by
  unfold stV nmL;rw[xal,xal];rfl
 refine⟨by show 1<=sizeLine;decide,fun p6 hp6=>ja6 hp6 fun G6 g6 k6=>⟨nl,p6,_,_,rfl,rfl,g6 _ _ (s6 _ _ (ja3 (r5 _ _ hn)).1),k6,?_,fun p7 hp7=>ja6 hp7 fun G7 g7 k7=>?_⟩⟩
 ·rw[jgC];exact xa1 (jaH (by show st.length+1<1000;omega))
 rw[<- en6] at k7;have lo':∀it∈st++[(Str.ofString "newboard",frm newP newP)],Lo it.1:=fun it hi=>by
  rcases xay.mp hi with h | h
  ·exact lo it h
  ·rw[xak.mp h];exact lN
 have z7:=jgD lo';refine⟨_,_,.lst (SqL.of (g7 _ _ (g6 _ _ e6))) (jch _),.lst (SqL.of k7) (jch _),z7,z7,_,rfl,?_⟩;rw[jnK,SeqAt.eqv_refl _ (SeqAt.canLay_of_shaped z7),if_neg (by decide)];have s57:=s6.trans (g6.trans g7);have l51:ss5.length=1:=a4.len;refine⟨_,rfl,y,dx5,_,rfl,s57 _ _ a1,ja0 (by decide +kernel) (by decide +kernel),y,pL,dx5,sL5,ss5,rfl,s57 _ _ a1,s57 _ _ a2',rfl,?_⟩;rw[if_pos (by rw[l51];rfl)];refine⟨_,rfl,y,dx5,_,rfl,s57 _ _ a1,ja0 (by decide +kernel) (by decide +kernel),M,y,pL,_,_,rfl,y5.keep s57,by show 1<=900;decide,fun p0 s0 e0 H8 s8 y8=>?_,fun z=>nomatch z⟩;obtain⟨rfl,rfl⟩:p0=[]/\s0=st:=by
  have e1:p0=[]:=by
   have l:=congrArg List.length e0;rw[xaf,xaf] at l;exact xbu.mp (Nat.succ.inj l).symm
  subst e1;exact⟨rfl,(List.cons.inj e0).1.symm⟩
 walk_at "rf";obtain⟨dx8,sL8,ss8,c1,c2,c3,c4⟩:=y8.ob;have ss8':ss8=[]:=xbu.mp c4.len;refine⟨y,dx8,sL8,pL,_,rfl,c1,c3.keep (jbV _ _),by omega,iB,fun H9 s9=>⟨rfl,?_⟩⟩;rw[if_pos rfl];refine⟨_,rfl,y,dx8,_,rfl,s9 _ _ c1,ja0 (by decide +kernel) (by decide +kernel),y,pL,dx8,sL8,ss8,rfl,s9 _ _ c1,s9 _ _ c2,rfl,?_⟩;rw[decide_eq_true (by rw[ss8'];rfl)];exact q _ ((Same.x sG _).trans (s5.trans ((Same.x s57 _).trans (s8.trans (Same.x s9 _)))))
theorem jge {β:Type} {R:Addr->β->Prop}:∀{bs:List β} {ys:List V},ys.length=bs.length->(∀(i:Nat) (y:V),ys[i]?=some y->∀b,bs[i]?=some b->∃t,y=.ref t/\R t b)->∃ts:List Addr,ys=ts.map V.ref/\All2 R ts bs
  | [],[],_,_=>⟨[],rfl,.nil⟩
  | b :: bs, y :: ys, l, h => by
    obtain⟨t,rfl,h4⟩:=h 0 y rfl b rfl;obtain⟨ts,rfl,hs⟩:=jge (bs:=bs) (ys:=ys) (Nat.succ.inj l) fun i y hy q hq=>h (i+1) y hy q hq;exact⟨t::ts,rfl,.cons h4 hs⟩
  | [],_::_,l,_=>nomatch l
  | _::_,[],l,_=>nomatch l
theorem jnQ {b:List Pt} (h:DrB b):Dih b (frm b b):=(Dih.refl h.len.1).frm h.len.1 h.len.2
theorem jnR {x:Str} {b q:List Pt} (hx:NmL x) (h:DrB b) (d:Dih b q):ItB (x,q):=⟨hx.1,by have:=h.len.1;have:=d.1;show 3<=q.length;omega,by have:=h.len.2;have:=d.1;show q.length<=8;omega,fun p hp=>h.pt p ((d.mem h.len.2).mp hp)⟩
theorem jjm {xs:List Str} {bs:List (List Pt)} (nd:xs.Nodup) (l:xs.length=bs.length):Nms (xs.zip bs):=by
 unfold Nms;rw[xa6];intro i j hi hj ij e;rw[List.getElem_zip,List.getElem_zip] at e;have li:i<xs.length:=by rw[xa3] at hi;omega
 have lj:j<xs.length:=by rw[xa3] at hj;omega
 exact xa6.mp nd i j li lj ij e
theorem jhp {α β γ:Type} {R:α->γ->Prop} {f:β->γ} {as:List α} {bs:List β} (h:All2 (fun a b=>R a (f b)) as bs):All2 R as (bs.map f):=by
 induction h with
 | nil=>exact .nil
 | cons h _ ih=>exact .cons h ih
theorem jgf:∀(xs:List Str) (bs:List (List Pt)),xs.zip (bs.map fun b=>frm b b)=(xs.zip bs).map frI
 | [],_=>rfl
 | _::_,[]=>rfl
 | x::xs,b::bs=>congrArg ((x,frm b b)::·) (jgf xs bs)
theorem jjn:∀{xs:List Str} {bs qs:List (List Pt)},(∀b∈bs,DrB b)->All2 Dih bs qs->(xs.zip qs).map frI=(xs.zip bs).map frI
  | [],_,_,_,_=>rfl
  | _::_,_,_,_,.nil=>rfl
  | x :: xs, b :: bs, q :: qs, h, .cons d r => by
    rw[xbG,xbG,xaT,xaT,jjn (fun b hb=>h b (.tail _ hb)) r];exact congrArg (fun z=>(x,z)::(xs.zip bs).map frI) ((h b (.head _)).frm d)
theorem jhq:∀{xs:List Str} {bs qs:List (List Pt)},(∀x∈xs,NmL x)->(∀b∈bs,DrB b)->All2 Dih bs qs->∀it∈xs.zip qs,ItB it/\GoodB it.2
  | [],_,_,_,_,_,_,hi=>nomatch hi
  | _::_,_,_,_,_,.nil,_,hi=>nomatch hi
  | x :: xs, b :: bs, q :: qs, hx, h, .cons d r, it, hi => by
    rw[xbG] at hi;rcases xac.mp hi with rfl | hi
    . exact⟨jnR (hx x (.head _)) (h b (.head _)) d,(h b (.head _)).good d⟩
    . exact jhq (fun y hy=>hx y (.tail _ hy)) (fun b hb=>h b (.tail _ hb)) r it hi
theorem jnS {bs:List (List Pt)} (h:∀b∈bs,DrB b):All2 Dih bs (bs.map fun b=>frm b b):=by
 induction bs with
 | nil=>exact .nil
 | cons b bs ih=>exact .cons (jnQ (h b (.head _))) (ih fun b hb=>h b (.tail _ hb))
theorem jeQ:∀{xs:List Str} {bs:List (List Pt)},xs.length=bs.length->nmL ((xs.zip bs).map frI)=xs
 | [],[],_=>rfl
 | x::xs,b::bs,l=>congrArg (x::·) (jeQ (Nat.succ.inj l))
 | [],_::_,l=>nomatch l
 | _::_,[],l=>nomatch l
theorem jjo:∀{xs:List Str} {bs:List (List Pt)},xs.length=bs.length->((xs.zip bs).map frI).map (·.2)=bs.map fun b=>frm b b
 | [],[],_=>rfl
 | x::xs,b::bs,l=>congrArg (frm b b::·) (jjo (Nat.succ.inj l))
 | [],_::_,l=>nomatch l
 | _::_,[],l=>nomatch l
theorem jnT {e:Addr} {ed:FuncData} (T:Tyd K mg t1 t2 cs SE Y) (F:FunD K "law" "law" jeC e ed .none) (Dj:jap P w K mg base CX0 1 "_law_left" ["cell"] [] jk0) (db:jap P w K mg base CX0 1 "_law_next" ["left","base"] [] jeG) (De:jap P w K mg base CX0 2 "_law_names" ["left","many"] [] spLN) (dU:jap P w K mg base CX0 4 "_law_boards" ["left","many"] [] spLB) (Dk:jap P w K mg base CX0 2 "_law_form" ["spots"] [] jee) (dj:MethOk P w K mg base CX0 1 Y "__init__" ["self"] (jgB Y)) (di:MethOk P w K mg base (XOk P w) 7 Y "put" ["self","name","corners"] (jkt Y cs)) (dE:jap P w K mg base CX0 2 "_law_rows" ["names","boards"] [] spLR) (dg:jap P w K mg base CX0 5 "yard_text" ["yard"] [] (spYT Y)) (dI:jap P w K mg base CX0 2 "_law_other_way" ["left","boards"] [] spOW) (dF:jap P w K mg base CX0 9 "read_yard" ["text"] [] (spRY Y)) (Dp:jap P w K mg base CX0 8 "_law_is" ["yard","names","forms","text"] [] (spIs Y)) (de:MethOk P w K mg base CX0 1 Y "names" ["self"] (jeO Y)) (dh:MethOk P w K mg base CX0 1 Y "deeds" ["self"] (jgA Y)):FnOk P w K mg base CX0 10 e ed ["script"] (jjY K):=by
 refine F.ok jkZ (fun vs H Q E h=>?_) (fun cdv A outer s H vs Q E hr h=>?_)
 ·obtain⟨a,ns,rfl,_⟩:=h;rfl
 obtain⟨a,ns,rfl,hS,h63,q⟩:=h;have S:=jkZ;refine⟨_,(jae (ja1 PassesOwn.never rfl (jbd (jao jlI (jaV (jaa jab jac jaj)) (pv 0))) (jan (i:=1) S.nd rfl (Or.inl rfl))
  (jae (jas (i:=2) S.nd rfl (Or.inl rfl) (jai Dj hr.m rfl jav (jaa (pv 1) jac jah)))
  (jae (jas (i:=3) S.nd rfl (Or.inl rfl) (jai db hr.m rfl jav (jaa (pv 2) (jaa jab jac jaj) jah)))
  (jae (jas (i:=4) S.nd rfl (Or.inl rfl) (jai De hr.m rfl jav (jaa (pv 2) (jaa (pv 3) jac jah) jah)))
  (jae (jas (i:=5) S.nd rfl (Or.inl rfl) (jai dU hr.m rfl jav (jaa (pv 2) (jaa (pv 3) jac jah) jah)))
  (jae (jc7 (i:=6) rfl S.nd rfl rfl (N':=["spots"]) (ix:=[]) ⟨rfl,rfl,by decide +kernel,by decide +kernel,by decide +kernel,(show ∀y:Str × NameKind,y∈_->y.2=NameKind.free->(jad jeC).names.lookup y.1=some .cell\/(jad jeC).names.lookup y.1=some .free from by decide +kernel),.nil⟩ (jbd (pv 5)) (fun _ _ _ _=>jan (i:=0) (show (["spots"]:List Str).Nodup from by decide +kernel) rfl (Or.inl rfl)) (fun _ _ _ _=>ja4) (fun _ _ _ _=>(jai Dk hr.m rfl jav (jaa (pv 0) jac jah))))
  (jae (jas (i:=7) S.nd rfl (Or.inl rfl) (jew dj T.mkY T.kpY hr.m rfl T.m_Yard jav))
  (jae (ja1 PassesOwn.never rfl (jaG rfl T.m_range (jaa (pv 3) jac jah)) (jan (i:=8) S.nd rfl (Or.inl rfl))
  (jag (jbi (jec di (pv 7) T.cl hr.m jjM (jaa (jar ix_list (pv 4) (pv 8)) (jaa (jaE jco rfl T.m_list boot_list (jaa (jar ix_list (pv 5) (pv 8)) jac jaD)) jac jaJ) jaD)))))
  (jae (jas (i:=9) S.nd rfl (Or.inl rfl) (jai dE hr.m rfl jav (jaa (pv 4) (jaa (pv 6) jac jah) jah)))
  (jae (jaQ (PW.pt (jd4 (jat jcn (jai dg hr.m rfl jav (jaa (pv 7) jac jah)) (pv 9) (jaw _)) (jcP (jcQ (jbR (jaz jet rfl T.m_isinstance boot_isinstance (jaa (jai dg hr.m rfl jav (jaa (pv 7) jac jah)) (jaa (jhS (v:=.ty "str") rfl T.m_str boot_str rfl) jac jah) jaJ)))))))
  (jag (jaq jcM))
  jax)
  (jae (ja1 PassesOwn.never rfl (jbd (jaV (jaa (pv 9) (jaa (jai dE hr.m rfl jav (jaa (pv 4) (jaa (jai dI hr.m rfl jav (jaa (pv 2) (jaa (pv 5) jac jah) jah)) jac jaJ) jah)) jac jaJ) jah))) (jan (i:=10) S.nd rfl (Or.inl rfl))
  (jag (jaQ (jcQ (jbR (jai Dp hr.m rfl jav (jaa (jai dF hr.m rfl jav (jaa (pv 10) jac jah)) (jaa (pv 4) (jaa (pv 6) (jaa (pv 9) jac jah) jah) jah) jaJ))))
  (jag (jaq jcM))
  jax)))
  (jag (jaQ (PW.pt (jd4 (jat (je2 (jkL hr)) (jaR de (pv 7) T.cl hr.m jav) (pv 4) (jaw _)) (jcP (jat jcn (jaR dh (pv 7) T.cl hr.m jav) (pv 3) (jaw _)))))
  (jag (jaq jcM))
  jax)))))))))))))
  (jag (jaq (jkA (jb8 (jkK (jkL hr)) (jaR de (jai dF hr.m rfl jav (jaa jaC jac jaj)) T.cl hr.m jav) (jaV jac) (jaw _)) (jkz (jb8 jcN (jai dg hr.m rfl jav (jaa (jew dj T.mkY T.kpY hr.m rfl T.m_Yard jav) jac jaJ)) jaC (jaw _))))))),?_⟩
 walk_at "rf";refine⟨by show 1<=sizeLine;decide,fun l0 h_l0=>ja6 h_l0 fun H0 s_0 e_0=>?_⟩;have el:(ns.map V.int).length=ns.length:=xaa _;refine⟨l0,a,_,_,rfl,rfl,SqL.of e_0,s_0.seq hS,?_,fun l1 h_l1=>ja6 h_l1 fun Hz s_1 e_1=>⟨l1,rfl,⟨_,SqL.of e_1⟩,?_⟩⟩
 ·rw[el];exact xan (show 1+ns.length<=1000 by omega) (by decide)
 have k1:SqL K Hz l1 ((0::ns).map V.int):=SqL.of e_1;refine jdk (K:=K) (a:=l1) (xs:=(0::ns).map V.int) (fun i σ Hs=>∃o1 o2 o3 o4 o5 o6 o7 o8 o9 o10:Option V,σ=[some (.ref a),o1,o2,o3,o4,o5,o6,o7,o8,o9,o10]/\Same Hz Hs) ⟨_,_,_,_,_,_,_,_,_,_,rfl,Same.refl _⟩ (fun i σ Hs _ ⟨_,_,_,_,_,_,_,_,_,_,_,sz⟩=>sz.seq k1) ?_ ?_
 ·rintro i v σ Hs hi ⟨o1,o2,o3,o4,o5,o6,o7,o8,o9,o10,rfl,sz⟩;obtain⟨c,rfl,_⟩:=jg0 hi;walk_at "rf";refine⟨c,rfl,fun L H3 m0 hL0 s3 hL=>⟨L,6,m0,rfl,hL,by decide,.o (by decide) (by decide),?_⟩⟩;obtain⟨k,ek⟩:∃k:Nat,m0 % 6=(k:Int):=⟨(m0 % 6).toNat,by have:=xaF m0 (show (6:Int)≠0 by decide);omega⟩;have k5:k<=5:=by have:=xaB m0 (show (0:Int)<6 by decide);omega
  rw[ek];have s4:Same Hs (upd H3 L (.lst [.int (m0 / 6)])):=fun b o e=>by
   rw[jak (jal e hL0)];exact s3 _ _ e
  have bx4:Box (upd H3 L (.lst [.int (m0 / 6)])) L:=⟨_,jaf⟩;generalize upd H3 L (.lst [.int (m0 / 6)])=H4 at s4 bx4;refine⟨L,k,rfl,bx4,k5,fun nl xs H5 sb5 bx5 n5 e5 lx nd nb=>?_⟩;refine⟨L,k,rfl,bx5,k5,fun bl rs bs H6 sb6 bx6 n6 nr6 e6 hA lb hD=>?_⟩;walk_at "rf";have clL:∀{b:Addr},H5 b=none->b≠L:=fun h e=>by
   obtain⟨n,z⟩:=bx5;rw[e,z] at h;cases h
  have blL:=clL n6;have rsL:∀r∈rs,r≠L:=fun r hr=>clL (nr6 r hr);have nlL:nl≠L:=fun e=>by
   obtain⟨n,z⟩:=bx4;rw[e,z] at n5;cases n5
  refine⟨⟨_,SqL.of e6⟩,fun fl hfl=>jf0 (zs:=rs.map V.ref) (fun i y H=>∀b,bs[i]?=some b->∃t,y=.ref t/\BoAt H t (frm b b)) (fun _ _ _ _ h s b hb=>?_) (by rw[xaa,hA.len];omega) hfl (SqL.of e6) (fun i z H7 R hz s7 hR=>?_) fun ys H7 s7 e7 l7 p7=>?_⟩
  ·obtain⟨t,e,us,e1,e2⟩:=h b hb;exact⟨t,e,us,s _ _ e1,e2.keep s⟩
  ·rw[xad] at hz;obtain⟨r,hr',rfl⟩:=xau.mp hz;obtain⟨b,hb,us,c1,c2⟩:=hA.getA hr';have bD:=hD b (xas hb);refine⟨_,rfl,r,us,b,rfl,⟨s7 _ _ c1,c2.keep s7.t⟩,bD.len.1,bD.len.2,fun t H8 s8 e8=>hR _ H8 s8 fun b' hb'=>?_⟩;rw[hb] at hb';cases hb';exact⟨t,rfl,_,e8,((c2.keep s7.t).keep s8.t).frm⟩
  rw[xaa] at l7;obtain⟨ts,rfl,hts⟩:=jge (R:=fun t b=>BoAt H7 t (frm b b)) (by rw[l7,hA.len]) p7;have flL:fl≠L:=fun e=>by
   obtain⟨n,z⟩:=bx6;rw[e,z] at hfl;cases hfl
  have mu7:∀m∈[L],Mut H7 m:=fun m hm=>by
   rw[xak.mp hm];obtain⟨n,z⟩:=bx6;exact Mut.ls (s7 _ _ z)
  refine fun x dx nx ndx ne=>⟨x,dx,rfl,jaf,fun sL pL H8 n1 n2 n3 sx e1 e3 e4=>⟨rfl,by omega,by omega,?_⟩⟩;obtain⟨Yd,s8,pn,xp⟩:=jhk (M:=[L]) mu7 nx ndx ne n1 n2 n3 sx e1 e3 e4;clear n1 n2 n3 sx e1 e3 e4;rw[xa9];have out:∀{b:Addr} {o:HO},H7 b=some o->b≠L->rm ([x,pL]++[L]) H8 b=some o:=fun h hb=>jc4 (s8 _ _ h) fun z=>by
   rcases xay.mp z with z | z
   ·simp only[xac,xao,or_false] at z;rcases z with rfl | rfl
    ·rw[nx] at h;cases h
    ·rw[pn] at h;cases h
   ·exact hb (xak.mp z)
  have knl:=out (s7 _ _ (sb6 _ _ nlL e5)) nlL;have kbl:=out (s7 _ _ e6) blL;have kfl:=out e7 flL;have kbs:All2 (fun r b=>∃us,Cor (rm ([x,pL]++[L]) H8) r us b) rs bs:=jfD hA fun r b hr' ⟨us,c1,c2⟩=>⟨us,out (s7 _ _ c1) (rsL r hr'),jjd Yd.mu (c2.keep (s7.trans s8).t)⟩;have kts:All2 (fun t b=>BoAt (rm ([x,pL]++[L]) H8) t (frm b b)) ts bs:=hts.mono fun _ _ b=>bo_rm Yd.mu (b.keep s8);have sHs8:Same Hs H8:=fun b o e=>s8 _ _ (s7 _ _ (sb6 _ _ (jal e hL0) (sb5 _ _ (jal e hL0) (s4 _ _ e))));have kL8:Box H8 L:=by
   obtain⟨n,z⟩:=bx6;exact⟨n,s8 _ _ (s7 _ _ z)⟩
  have LxL:L∉[x,pL]:=fun z=>by
   obtain⟨n,z'⟩:=bx6;simp only[xac,xao,or_false] at z;rcases z with rfl | rfl
   ·rw[s7 _ _ z'] at nx;cases nx
   ·rw[s7 _ _ z'] at pn;cases pn
  have nHs:∀{b:Addr} {o:HO},Hs b=some o->b∉[x,pL]/\b≠L:=fun {b o} e=>by
   have e7':=s7 _ _ (sb6 _ _ (jal e hL0) (sb5 _ _ (jal e hL0) (s4 _ _ e)));refine⟨fun z=>?_,jal e hL0⟩;simp only[xac,xao,or_false] at z;rcases z with rfl | rfl
   ·rw[nx] at e7';cases e7'
   ·rw[pn] at e7';cases e7'
  clear nx ndx ne pn xp mu7 hts hA e6 e5 e7 sb5 sb6 s7 s8 bx4 bx5 bx6 p7 l7 hfl nr6 n6 n5 s4 out;have nms:=jjm nd (bs:=bs) (by omega);have M0:∀a∈[x,pL],a∈[x,pL]++[L]:=fun a ha=>xbk _ ha;have lz:(xs.zip bs).length=k:=by rw[xa3];omega
  refine jaL (lo:=0) (n:=k) (fun i σ Hh=>∃(o8:Option V) (past:List Rws),σ=[some (V.ref a),some (V.int c),some (V.ref L),some (V.int (k:Nat)),some (V.ref nl),some (V.ref bl),some (V.ref fl),some (.ref x),o8,o9,o10]/\YardAt Y ([x,pL]++[L]) Hh x pL (((xs.zip bs).take i).map frI) past/\past.length=i/\SX [x,pL] H8 Hh) ⟨_,[],rfl,Yd,rfl,SX.refl _ _⟩ ?_ ?_
  ·rintro i σ Hh hi ⟨o8,past,rfl,hY,lp,sx⟩;have hx:xs[i]?=some xs[i]:=xab (by omega);have hb:bs[i]?=some bs[i]:=xab (by omega);have hz:(xs.zip bs)[i]?=some (xs[i],bs[i]):=by rw[List.getElem?_zip_eq_some];exact⟨hx,hb⟩
   generalize xs[i]=z at hx hz;generalize bs[i]=b at hb hz;obtain⟨r,hr',us,c1,c2⟩:=kbs.get hb;have rr:=sx.rm M0;have zN:=nb z (xas hx);have bD:=hD b (xas hb);obtain⟨dx',sL',ss,h1,h2,h3,h4⟩:=hY.ob;refine⟨_,rfl,x,dx',_,rfl,h1,ja0 (by decide +kernel) (by decide +kernel),?_⟩;walk_at "rf";have az:atI (xs.map V.str) (0+(i:Int))=some (.str z):=by rw[xbb];exact jaF (by rw[xad,hx];rfl)
   have ar:atI (rs.map V.ref) (0+(i:Int))=some (.ref r):=by rw[xbb];exact jaF (by rw[xad,hr'];rfl)
   refine ixL (SqL.of (ja3 (rr _ _ knl)).1) az (ixL (SqL.of (ja3 (rr _ _ kbl)).1) ar ⟨r,rfl,_,.inl (SqL.of (ja3 (rr _ _ c1)).1),fun l hl=>ja6 hl fun G g kg=>?_⟩);have n1:nm z=true:=by rw[zN.1.az.nm];exact decide_eq_true ⟨zN.1.s1,zN.1.s8⟩
   have nI:=jho nms hz;have lt:(((xs.zip bs).take i).map frI).length<=5:=by rw[xaa,xat];omega
   have en:jb7 (((xs.zip bs).take i).map frI) z true=none:=by
    unfold jb7;rw[if_neg (by rw[n1];decide),if_neg (by rw[nI];decide),if_neg (by decide),if_neg (by omega)]
   refine⟨_,x,pL,l,us,b,_,past,z,true,rfl,⟨fun _=>bD.good (Dih.refl bD.len.1),fun _=>rfl⟩,hY.keep g,by omega,by omega,zN.1.az.lo,by have:=zN.1.s8;omega,⟨kg,(c2.keep (rr.trans ((jbV _ _).trans g)).t)⟩,fun _ H' s' y'=>?_,fun j w=>by rw[en] at w;cases w⟩;refine⟨past++[((xs.zip bs).take i).map frI],?_,by rw[xaf,lp];rfl,sx.trans ((Same.x g _).trans s')⟩;rw[xaH,hz,xal];exact y'
  rintro σ Hh ⟨o8,past,rfl,hY,lp,sx⟩;rw[xaM (by omega)] at hY;have rr:=sx.rm M0;have fd:=jnS hD;have iBf:=jhq (xs:=xs) nb hD fd;rw[jgf] at iBf;have lI:((xs.zip bs).map frI).length=k:=by rw[xaa];exact lz
  obtain⟨dx',sL',ss,h1,h2,h3,h4⟩:=hY.ob;have lss:ss.length=k:=by rw[h4.len];exact lp
  have lxb:xs.length=bs.length:=by omega
  have vN:stV ((xs.zip bs).map frI)=xs.map V.str:=by unfold stV;rw[jeQ lxb]
  have kn:=rr _ _ knl;have kf:=rr _ _ kfl;have kb:=rr _ _ kbl;have kt:=kts.mono fun _ _ b=>b.keep rr;have kLh:Box Hh L:=by
   obtain⟨n,z⟩:=kL8;exact⟨n,sx _ _ LxL z⟩
  walk_at "rf";refine⟨nl,fl,xs,ts,bs.map fun b=>frm b b,rfl,(ja3 kn).1,(ja3 kf).1,jhp (kt.mono fun _ _ ⟨us,u1,u2⟩=>⟨us,.inr (ja3 u1).1,u2.keep (jbV _ _).t⟩),by rw[xaa];exact lxb,by omega,by rw[jgf];exact fun it hi=>(iBf it hi).1,fun H9 s9=>?_⟩;rw[jgf];refine⟨x,dx',sL',pL,_,rfl,s9 _ _ h1,h3.keep ((jbV _ _).trans s9),by omega,fun it hi=>(iBf it hi).1,fun H10 s10=>⟨rfl,?_⟩⟩;rw[if_pos rfl];have s910:=s9.trans s10;refine⟨x,dx',sL',pL,_,rfl,s910 _ _ h1,h3.keep ((jbV _ _).trans s910),by omega,fun it hi=>(iBf it hi).1,fun H11 s11=>⟨_,.str _,true,rfl,?_⟩⟩;rw[if_neg (by decide)];have s911:=s910.trans s11;have kL11:Box H11 L:=by
   obtain⟨n,z⟩:=kLh;exact⟨n,s911 _ _ z⟩
  refine⟨L,bl,rs,bs,rfl,kL11,s911 _ _ (ja3 kb).1,kbs.mono fun _ _ ⟨us,c⟩=>⟨us,c.keep (rr.trans ((jbV _ _).trans s911))⟩,by omega,hD,rsL,blL,fun l' rs' qs H12 sb12 bx12 e12 hA12 hd12=>?_⟩;have iB12:=jhq (xs:=xs) nb hD hd12;have lq:=hd12.len;have tL:∀{c:Addr} {o:HO},c≠L->H11 c=some o->H12 c=some o:=fun hc h=>sb12 _ _ hc h;have sT12:=SameB.t sb12 kL11;refine⟨nl,l',xs,rs',qs,rfl,tL nlL (s911 _ _ (ja3 kn).1),e12,hA12.mono fun _ _ ⟨us,c⟩=>⟨us,.inl c.1,c.2⟩,by omega,by omega,fun it hi=>(iB12 it hi).1,fun H13 s13=>⟨by show 2<=sizeLine;decide,fun pp hpp=>ja6 hpp fun H14 s14 e14=>⟨⟨_,SqL.of e14⟩,?_⟩⟩⟩;have s1214:=s13.trans s14;have up:∀{c:Addr} {o:HO},c≠L->Hh c=some o->H14 c=some o:=fun hc h=>s1214 _ _ (tL hc (s911 _ _ h));have kn14:=up nlL (ja3 kn).1;have kf14:=up flL (ja3 kf).1;have sT14:SameT Hh H14:=fun c o h=>s1214 _ _ (sT12 _ _ (s911 _ _ h));have kt14:All2 (fun t b=>BoAt H14 t (frm b b)) ts bs:=kt.mono fun _ _ ⟨us,u1,u2⟩=>⟨us,sT14 _ _ (ja3 u1).1,(u2.keep (jbV _ _).t).keep sT14⟩;have nN:inN (Str.ofString "newboard") ((xs.zip bs).map frI)=false:=by
   unfold inN;rw[jeQ lxb,xbv];intro z hz e;exact (nb z hz).2 (eq_of_beq e)
  refine jdk (K:=K) (a:=pp) (xs:=[V.str (yT (List.map frI (xs.zip bs))),V.str (yT (xs.zip qs))]) (fun i σ Hk=>∃o10:Option V,σ=[some (V.ref a),some (V.int c),some (V.ref L),some (V.int (k:Nat)),some (V.ref nl),some (V.ref bl),some (V.ref fl),some (V.ref x),o8,some (V.str (yT (List.map frI (xs.zip bs)))),o10]/\Same H14 Hk) ⟨_,rfl,Same.refl _⟩ (fun i σ Hk _ ⟨_,_,sk⟩=>sk.seq (SqL.of e14)) ?_ ?_
  ·rintro i v σ Hk hv ⟨o10,rfl,sk⟩;obtain⟨q',rfl,hq'⟩:∃q',v=V.str (yT (xs.zip q'))/\All2 Dih bs q':=by
    match i,hv with
    | 0,hv=>cases hv;exact⟨_,by rw[jgf],fd⟩
    | 1,hv=>cases hv;exact⟨qs,rfl,hd12⟩
    | i+2,hv=>cases hv
   have iBq:=jhq (xs:=xs) nb hD hq';have lq':=hq'.len;walk_at "rf";refine⟨xs.zip q',rfl,fun it hi=>(iBq it hi).1,fun it hi=>(iBq it hi).2,jjm nd (by omega),by rw[xa3];omega,fun y' pL' M' H15 s15 hM' hY'=>?_⟩;rw[jjn hD hq'] at hY';have oM:∀{c:Addr} {o:HO},H14 c=some o->rm M' H15 c=some o:=fun h=>jc4 (s15 _ _ (sk _ _ h)) fun z=>by
    have:=hM' _ z;rw[sk _ _ h] at this;cases this
   refine⟨M',y',pL',nl,fl,_,ts,rfl,hY',fun it hi=>(iBf it hi).1,nN,by omega,by rw[vN];exact oM kn14,oM kf14,?_,fun H16 s16=>⟨_,rfl,?_⟩⟩
   ·rw[jjo lxb];exact jhp (kt14.mono fun _ _ ⟨us,u1,u2⟩=>⟨us,oM u1,u2.keep fun c o h=>oM h⟩)
   rw[if_neg (by decide)];intro b o e;have e15:=s15 _ _ (sk _ _ e);refine s16 b o (fun z=>?_) e15;have hm:b∈M':=by
    simp only[xac,xao,or_false] at z;rcases z with rfl | rfl
    ·exact hY'.yM
    ·exact hY'.pM
   have:=hM' b hm;rw[sk _ _ e] at this;cases this
  rintro σ Hk ⟨o10',rfl,sk⟩;have xL:x≠L:=fun z=>LxL (by rw[<- z];exact .head _);have pL':pL≠L:=fun z=>LxL (by rw[<- z];exact .tail _ (.head _));have h1k:=sk _ _ (up xL h1);have h2k:=sk _ _ (up pL' h2);have h3k:StAt Hk sL' ((xs.zip bs).map frI):=h3.keep fun b o e=>sk _ _ (up (fun z=>(ja3 e).2 (by rw[z];exact xaD _ (.head _))) (ja3 e).1);have kn':Hk nl=some (.lst (stV ((xs.zip bs).map frI))):=by rw[vN];exact sk _ _ kn14
  have z0:=jgD (st:=(xs.zip bs).map frI) fun it hi=>(iBf it hi).1.n.az.lo;walk_at "rf";refine⟨_,rfl,x,dx',_,rfl,h1k,ja0 (by decide +kernel) (by decide +kernel),x,dx',sL',pL,_,rfl,h1k,h3k,by omega,fun l5 H17 n17 s17 e17=>?_⟩;refine⟨_,_,.lst (SqL.of e17) (jch _),.lst (SqL.of (s17 _ _ kn')) (jch _),z0,z0,_,rfl,?_⟩;rw[jnK,SeqAt.eqv_refl _ (SeqAt.canLay_of_shaped z0),if_neg (by decide)];refine⟨_,rfl,x,dx',_,rfl,s17 _ _ h1k,ja0 (by decide +kernel) (by decide +kernel),x,pL,dx',sL',ss,rfl,s17 _ _ h1k,s17 _ _ h2k,rfl,?_⟩;rw[if_pos (by rw[lss])];intro b o e;have eS:=sz _ _ e;obtain⟨m1,m2⟩:=nHs eS;exact s17 _ _ (sk _ _ (up m2 (sx _ _ m1 (sHs8 _ _ eS))))
 ·rintro σ Hs ⟨o1,o2,o3,o4,o5,o6,o7,o8,o9,o10,rfl,sz⟩;have y0:Str.ofString ""=yT []:=by decide +kernel
  walk_at "rf";refine⟨[],by rw[y0];rfl,(fun _ z=>nomatch z),(fun _ z=>nomatch z),List.Pairwise.nil,by decide,fun y pL M H1 s1 hM hY=>?_⟩;obtain⟨dx,sL,ss,h1,h2,h3,h4⟩:=hY.ob;refine⟨y,dx,_,rfl,h1,ja0 (by decide +kernel) (by decide +kernel),y,dx,sL,pL,[],rfl,h1,h3.keep (jbV _ _),by decide,fun l H2 n2 s2 e2=>⟨by decide,fun p hp=>ja6 hp fun J j kj=>⟨.list [],.list [],.lst (SqL.of (j _ _ e2)) .nil,.lst (SqL.of kj) .nil,by decide,by decide,?_⟩⟩⟩;refine⟨_,rfl,?_⟩;rw[if_pos (by rfl)];refine fun x dx nx ndx ne=>⟨x,dx,rfl,jaf,fun sL pL H3 n1 n2 n3 sx e1 e3 e4=>⟨rfl,?_⟩⟩;refine⟨x,dx,sL,pL,[],rfl,e1,⟨[],e3,.nil⟩,by decide,(fun _ z=>nomatch z),fun H5 s5=>⟨rfl,?_⟩⟩;rw[decide_eq_true (by rw[<- y0])];exact q _
end
def xcOk (K:PySem.W.Frag) (C:Addr):Bool:=(PySem.W.clsIn K C).isSome&&PySem.W.findIn K (.ref C) "__getattribute__"==some (some (.builtin "BaseException.__getattribute__"))&&PySem.W.findIn K (.ref C) "__getattr__"==some none
 && PySem.W.subIn K (.ref C) (.type "BaseException")==some true&&PySem.W.findIn K (.ref C) "__class__"==some (some (.builtin "object.__class__"))&&PySem.W.specialIn K (.builtin "object.__class__") "__get__"==some (some (.builtin "getset_descriptor.__get__"))
 && PySem.W.takesIn K (.builtin "object.__class__")==some true&&PySem.W.mroIn K C (.type "object")==some true
theorem xcOk.to {K:PySem.W.Frag} {C:Addr} (h:xcOk K C=true):XCls K C:=by
 unfold xcOk at h;simp only[xaJ,beq_iff_eq] at h;obtain⟨⟨⟨⟨⟨⟨⟨h1,h2⟩,h3⟩,h4⟩,h5⟩,h6⟩,h7⟩,h8⟩:=h;exact⟨h1,h2,h3,h4,h5,h6,h7,h8⟩
def clsY (K:PySem.W.Frag) (S:Addr) (cs:List Addr):Bool:=((List.range 4).all fun i=>xcOk K (cs.getD i 0)&&PySem.W.exmOne K (.ref (cs.getD i 0)) (.ref S)==some true)&&(List.range 4).all fun i=>(List.range 4).all fun j=>PySem.W.kitOne K (.ref (cs.getD i 0)) (.ref (cs.getD j 0))==some (decide (i=j))
theorem clsY.to {K:PySem.W.Frag} {S:Addr} {cs:List Addr} (h:clsY K S cs=true):(∀i,i<4->XCls K (cs.getD i 0))/\(∀i,i<4->PySem.W.exmOne K (.ref (cs.getD i 0)) (.ref S)=some true)/\∀i j,i<4->j<4->PySem.W.kitOne K (.ref (cs.getD i 0)) (.ref (cs.getD j 0))=some (decide (i=j)):=by
 unfold clsY at h;rw[xaJ,xaY,xaY] at h;refine⟨fun i hi=>?_,fun i hi=>?_,fun i j hi hj=>?_⟩
 ·have z:=h.1 i (xaN.mpr hi);rw[xaJ] at z;exact xcOk.to z.1
 ·have z:=h.1 i (xaN.mpr hi);rw[xaJ] at z;exact beq_iff_eq.mp z.2
 ·exact beq_iff_eq.mp (xaY.mp (h.2 i (xaN.mpr hi)) j (xaN.mpr hj))
def yardOk (K:PySem.W.Frag) (C:Addr):Bool:=PySem.W.plainGet K C Str.empty&&PySem.W.hasDictIn K C&&PySem.W.plainOver K C&&PySem.W.findIn K (.ref C) "__setattr__"==some (some (.builtin "object.__setattr__"))&&PySem.W.findIn K (.ref C) "standing"==some none&&PySem.W.findIn K (.ref C) "past"==some none&&PySem.W.makesIn K C&&PySem.W.keepIn K (.ref C)
theorem yardOk.to {K:PySem.W.Frag} {C:Addr} (h:yardOk K C=true):Cls K C/\NoAttr K C "standing"/\NoAttr K C "past"/\PySem.W.makesIn K C=true/\PySem.W.keepIn K (.ref C)=true:=by
 unfold yardOk at h;simp only[xaJ,beq_iff_eq] at h;obtain⟨⟨⟨⟨⟨⟨⟨h1,h2⟩,h3⟩,h4⟩,h5⟩,h6⟩,h7⟩,h8⟩:=h;exact⟨⟨h1,h2,h3,h4⟩,h5,h6,h7,h8⟩
@[elab_as_elim] theorem len1 {P:List Value->Prop} (us:List Value) (hl:us.length=1) (h:∀a,P [a]):P us:=by
  cases us with
  | nil=>exact absurd hl (by decide)
  | cons a r =>
    cases r with
    | nil=>exact h a
    | cons b r=>exact absurd (Nat.succ.inj hl) (Nat.succ_ne_zero _)
@[elab_as_elim] theorem len2 {P:List Value->Prop} (us:List Value) (hl:us.length=2) (h:∀a0 a1,P [a0,a1]):P us:=by
 cases us with
 | nil=>exact absurd hl (by decide)
 | cons a0 r=>exact len1 (P:=fun r=>P (a0::r)) r (Nat.succ.inj hl) fun a1=>h a0 a1
@[elab_as_elim] theorem len3 {P:List Value->Prop} (us:List Value) (hl:us.length=3) (h:∀a0 a1 a2,P [a0,a1,a2]):P us:=by
 cases us with
 | nil=>exact absurd hl (by decide)
 | cons a0 r=>exact len2 (P:=fun r=>P (a0::r)) r (Nat.succ.inj hl) fun a1 a2=>h a0 a1 a2
@[elab_as_elim] theorem len4 {P:List Value->Prop} (us:List Value) (hl:us.length=4) (h:∀a0 a1 a2 a3,P [a0,a1,a2,a3]):P us:=by
 cases us with
 | nil=>exact absurd hl (by decide)
 | cons a0 r=>exact len3 (P:=fun r=>P (a0::r)) r (Nat.succ.inj hl) fun a1 a2 a3=>h a0 a1 a2 a3
@[elab_as_elim] theorem len5 {P:List Value->Prop} (us:List Value) (hl:us.length=5) (h:∀a0 a1 a2 a3 a4,P [a0,a1,a2,a3,a4]):P us:=by
 cases us with
 | nil=>exact absurd hl (by decide)
 | cons a0 r=>exact len4 (P:=fun r=>P (a0::r)) r (Nat.succ.inj hl) fun a1 a2 a3 a4=>h a0 a1 a2 a3 a4
inductive AtK (K:PySem.W.Frag) (x:Str) (st:Stmt):Prop
 | mk (f:Addr) (oc kV dc pm cd ct:Value) (od an:Option Addr) (sl:Array (Option Value)) (a:PySem.W.nsIn K mainGlobals x=some (some (.ref f))) (l:K.lookup f=some ⟨oc,od,.func (PySem.W.fnOf x x (jbH st) (jaZ st) (jad st) .none kV dc pm an cd ct),sl⟩) (c:PySem.W.codeIn K cd x=true) (k:PySem.W.keepIn K (.ref f)=true)
local macro_rules | `(tactic| walk_at "bn") => `(tactic| first | exact fun _ _ _ _ _ _ us hl => len1 us hl fun _ => rfl | exact fun _ _ _ _ _ _ us hl => len2 us hl fun _ _ => rfl | exact fun _ _ _ _ _ _ us hl => len3 us hl fun _ _ _ => rfl | exact fun _ _ _ _ _ _ us hl => len4 us hl fun _ _ _ _ => rfl | exact fun _ _ _ _ _ _ us hl => len5 us hl fun _ _ _ _ _ => rfl)
theorem AtK.go {K:PySem.W.Frag} {h:Heap} {mg:Str->Option Value} {x:Str} {st:Stmt} {ps:List Str} (H:AtK K x st) (X:K.In h) (G:h.Ns mainGlobals mg) (hb:∀(kV doc pm:Value) (an:Option Addr) (cdv ct:Value) (us:List Value),us.length=ps.length->bindArgs (PySem.W.fnOf x x (jbH st) (jaZ st) (jad st) .none kV doc pm an cdv ct) ⟨us,[]⟩=pure (ps.zip us):=by walk_at "bn"):At K mg x st ps [] :=
 let ⟨_,_,_,_,_,_,_,_,_,_,a,l,c,k⟩:=H
 at_mk X G hb a l c k
inductive AtMK (K:PySem.W.Frag) (C:Addr) (m q:Str) (st:Stmt):Prop
 | mk (f:Addr) (oc kV dc pm cd ct:Value) (od an:Option Addr) (sl:Array (Option Value)) (a:PySem.W.findIn K (.ref C) m=some (some (.ref f))) (l:K.lookup f=some ⟨oc,od,.func (PySem.W.fnOf m q (jbH st) (jaZ st) (jad st) .none kV dc pm an cd ct),sl⟩) (c:PySem.W.codeIn K cd q=true) (k:PySem.W.keepIn K (.ref f)=true) (n:PySem.W.isFn K (.ref f)=true)
theorem AtMK.go {K:PySem.W.Frag} {C:Addr} {m q:Str} {st:Stmt} {ps:List Str} (H:AtMK K C m q st) (hb:∀(kV doc pm:Value) (an:Option Addr) (cdv ct:Value) (us:List Value),us.length=ps.length->bindArgs (PySem.W.fnOf m q (jbH st) (jaZ st) (jad st) .none kV doc pm an cdv ct) ⟨us,[]⟩=pure (ps.zip us):=by walk_at "bn"):AtM K C m q st ps :=
 let ⟨f,_,kV,dc,pm,cd,ct,_,an,_,a,l,c,k,n⟩:=H
 ⟨f,_,.none,jgo l c k,⟨a,n,k⟩,.all (hb kV dc pm an cd ct)⟩
theorem jnU {l:PySem.W.OpenLaw} {w:World} {K:PySem.W.Frag} {h:Heap} {mg:Str->Option Value} {fa YC c0 c1 c2 c3:Addr} {t1 t2:Tok} (X:K.In h) (G:h.Ns mainGlobals mg) (hfa:mg "law"=some (.ref fa))
  {f50:Addr} {od50 an50:Option Addr} {sl50:Array (Option Value)} {oc50 kV50 dc50 pm50 cd50 ct50:Value}
  (kSE:PySem.W.nsIn K mainGlobals "SightError"=some (some (.ref SE))) (kYC:PySem.W.nsIn K mainGlobals "Yard"=some (some (.ref YC)))
  (kc0:PySem.W.nsIn K mainGlobals "NoName"=some (some (.ref c0))) (qc0:PySem.W.excIn K c0 [.type "ValueError",.type "Exception",.type "BaseException",.type "object"] "ValueError.__new__"=true)
  (kc1:PySem.W.nsIn K mainGlobals "NoBoard"=some (some (.ref c1))) (qc1:PySem.W.excIn K c1 [.type "ValueError",.type "Exception",.type "BaseException",.type "object"] "ValueError.__new__"=true)
  (kc2:PySem.W.nsIn K mainGlobals "TooMany"=some (some (.ref c2))) (qc2:PySem.W.excIn K c2 [.type "ValueError",.type "Exception",.type "BaseException",.type "object"] "ValueError.__new__"=true)
  (kc3:PySem.W.nsIn K mainGlobals "NoDeed"=some (some (.ref c3))) (qc3:PySem.W.excIn K c3 [.type "ValueError",.type "Exception",.type "BaseException",.type "object"] "ValueError.__new__"=true)
  (rC:clsY K SE [c0,c1,c2,c3]=true) (rY:yardOk K YC=true)
  (b___init__:AtMK K YC "__init__" "Yard.__init__" jbM)
  (b_names:AtMK K YC "names" "Yard.names" jbx)
  (b_do_deed:AtMK K YC "do_deed" "Yard.do_deed" jbY)
  (b_put:AtMK K YC "put" "Yard.put" jdJ)
  (b_boards:AtMK K YC "boards" "Yard.boards" jbm)
  (b_settle:AtMK K YC "settle" "Yard.settle" jcg)
  (b_deeds:AtMK K YC "deeds" "Yard.deeds" jcz)
  (b_back:AtMK K YC "back" "Yard.back" jdc)
  {tC0:Tok} (kC0:PySem.W.nsIn K mainGlobals "MOST_LETTERS"=some (some (.int 8 tC0)))
  {tC1:Tok} (kC1:PySem.W.nsIn K mainGlobals "MOST_BOARDS"=some (some (.int 6 tC1)))
  {tC2:Tok} (kC2:PySem.W.nsIn K mainGlobals "MOST_FIGURES"=some (some (.int 30 tC2)))
  {tC3:Tok} (kC3:PySem.W.nsIn K mainGlobals "PIECE_FIGURES"=some (some (.int 64 tC3)))
  {tC4:Tok} (kC4:PySem.W.nsIn K mainGlobals "FIGURES"=some (some (.str "0123456789" tC4)))
  (aS0:PySem.W.nsIn K mainGlobals "SHORT_BITS"=some (some (.int 2000 t1)))
  (aS1:PySem.W.nsIn K mainGlobals "MOST_CORNERS"=some (some (.int 8 t2)))
  (a0:AtK K "_law_left" jde)
  (a1:AtK K "_law_next" jdd)
  (a2:AtK K "_law_names" jby)
  (a3:AtK K "_law_cross" jcA)
  (a4:AtK K "_law_sheet" jaS)
  (a5:AtK K "_law_shape" ja8)
  (a6:AtK K "_law_divisor" jbZ)
  (a7:AtK K "_law_lowest" jbn)
  (a8:AtK K "_law_spot" jdf)
  (a9:AtK K "_law_boards" jbo)
  (a10:AtK K "_law_first" jcB)
  (a11:AtK K "_law_form" jbN)
  (a12:AtK K "is_name" jcw)
  (a13:AtK K "without" jct)
  (a14:AtK K "crossed" jey)
  (a15:AtK K "determinant" jcb)
  (a16:AtK K "minor_of" jdH)
  (a17:AtK K "in_line" jez)
  (a18:AtK K "rough_plane" jcc)
  (a19:AtK K "greatest_divisor" jbl)
  (a20:AtK K "in_lowest_terms" jaW)
  (a21:AtK K "made_plane" jcu)
  (a22:AtK K "is_plain" jdI)
  (a23:AtK K "turned_about" jbc)
  (a24:AtK K "plane_through" jbJ)
  (a25:AtK K "sign_of" jex)
  (a26:AtK K "height_over" jcd)
  (a27:AtK K "side_of" jeA)
  (a28:AtK K "flat_axis" jc8)
  (a29:AtK K "side_of_edge" jbX)
  (a30:AtK K "is_convex" jc9)
  (a31:AtK K "stands_first" jbW)
  (a32:AtK K "formed" jfq)
  (a33:AtK K "made_board" jcv)
  (a34:AtK K "_law_spot_text" jbC)
  (a35:AtK K "_law_rows" jbO)
  (a36:AtK K "padded_figures" jbB)
  (a37:AtK K "whole_text" jcx)
  (a38:AtK K "over_bottom" jce)
  (a39:AtK K "spot_text" jbK)
  (a40:AtK K "yard_text" jbL)
  (a41:AtK K "_law_other_way" jbD)
  (a42:AtK K "read_whole" jbw)
  (a43:AtK K "with_bottom" jcf)
  (a44:AtK K "read_three_wholes" jaO)
  (a45:AtK K "read_spot" jda)
  (a46:AtK K "put_row" jcy)
  (a47:AtK K "read_yard" jdb)
  (a48:AtK K "_law_no_deed" jb0)
  (a49:AtK K "_law_is" jeB)
  (a50:PySem.W.nsIn K mainGlobals "law"=some (some (.ref f50))) (l50:K.lookup f50=some ⟨oc50,od50,.func (PySem.W.fnOf "law" "law" (jbH jeC) (jaZ jeC) (jad jeC) .none kV50 dc50 pm50 an50 cd50 ct50),sl50⟩) (c50:PySem.W.codeIn K cd50 "law"=true) (k50:PySem.W.keepIn K (.ref f50)=true)
  (z0:PySem.W.nsIn K mainGlobals "abs"=some none) (z1:PySem.W.nsIn K mainGlobals "max"=some none) (z2:PySem.W.nsIn K mainGlobals "min"=some none) (z3:PySem.W.nsIn K mainGlobals "len"=some none) (z4:PySem.W.nsIn K mainGlobals "all"=some none) (z5:PySem.W.nsIn K mainGlobals "range"=some none) (z6:PySem.W.nsIn K mainGlobals "tuple"=some none) (z7:PySem.W.nsIn K mainGlobals "list"=some none) (z8:PySem.W.nsIn K mainGlobals "str"=some none) (z9:PySem.W.nsIn K mainGlobals "isinstance"=some none) (z10:PySem.W.nsIn K mainGlobals "reversed"=some none) (z11:PySem.W.nsIn K mainGlobals "int"=some none) (z12:PySem.W.nsIn K mainGlobals "sum"=some none) (z13:PySem.W.nsIn K mainGlobals "enumerate"=some none) (z14:PySem.W.nsIn K mainGlobals "zip"=some none) :
  ∃fd:FuncData,(∀(s:Shared) (v:Value),BindsTo s fd ⟨[v],[]⟩ [("script",v)])/\∀base:Heap,K.In base->base.Ns mainGlobals mg->FnOk l.prog w K mg base CX0 10 fa fd ["script"] (jjY K):=by
 have e:=hfa.symm.trans (PySem.W.mg_of X G a50);cases e;have T:Tx K mg t1 t2:=⟨PySem.W.mg_none_of X G z0,PySem.W.mg_none_of X G z1,PySem.W.mg_none_of X G z2,PySem.W.mg_none_of X G z3,PySem.W.mg_none_of X G z4,PySem.W.mg_none_of X G z5,PySem.W.mg_none_of X G z6,PySem.W.mg_none_of X G z7,PySem.W.mg_none_of X G z8,PySem.W.mg_none_of X G z9,PySem.W.mg_none_of X G z10,PySem.W.mg_none_of X G z11,PySem.W.mg_none_of X G z12,PySem.W.mg_none_of X G z13,PySem.W.mg_none_of X G z14,PySem.W.mg_of X G aS0,PySem.W.mg_of X G aS1,⟨_,PySem.W.mg_of X G kC0,⟨_,rfl⟩⟩,⟨_,PySem.W.mg_of X G kC1,⟨_,rfl⟩⟩,⟨_,PySem.W.mg_of X G kC2,⟨_,rfl⟩⟩,⟨_,PySem.W.mg_of X G kC3,⟨_,rfl⟩⟩,⟨_,PySem.W.mg_of X G kC4,⟨_,rfl⟩⟩⟩;have RC:=clsY.to rC;have RY:=yardOk.to rY;have TC:Tyd K mg t1 t2 (fun i=>[c0,c1,c2,c3].getD i 0) SE YC:={ toTx:=T,m_SightError:=PySem.W.mg_of X G kSE,m_NoName:=PySem.W.mg_of X G kc0,m_NoBoard:=PySem.W.mg_of X G kc1,m_TooMany:=PySem.W.mg_of X G kc2,m_NoDeed:=PySem.W.mg_of X G kc3,x_NoName:=⟨qc0,PySem.F.excBase_ValueError⟩,x_NoBoard:=⟨qc1,PySem.F.excBase_ValueError⟩,x_TooMany:=⟨qc2,PySem.F.excBase_ValueError⟩,x_NoDeed:=⟨qc3,PySem.F.excBase_ValueError⟩,xc:=RC.1,em:=RC.2.1,kt:=RC.2.2,m_Yard:=PySem.W.mg_of X G kYC,cl:=RY.1,nS:=RY.2.1,nP:=RY.2.2.1,mkY:=RY.2.2.2.1,kpY:=RY.2.2.2.2 };have FL:=jgo (st:=jeC) l50 c50 k50;refine⟨PySem.W.fnOf "law" "law" (jbH jeC) (jaZ jeC) (jad jeC) .none kV50 dc50 pm50 an50 cd50 ct50,fun s v=>.of_eq rfl,fun base _ _=>?_⟩;have D0:=jlY (P:=l.prog) (w:=w) (base:=base) T (a0.go X G);have D1:=jlX (P:=l.prog) (w:=w) (base:=base) T (a1.go X G);have D2:=ok_ln (P:=l.prog) (w:=w) (base:=base) T (a2.go X G) D1;have D3:=jiO (P:=l.prog) (w:=w) (base:=base) T (a3.go X G);have D4:=jj8 (P:=l.prog) (w:=w) (base:=base) T (a4.go X G) D1 D3;have D5:=jj9 (P:=l.prog) (w:=w) (base:=base) T (a5.go X G) D1;have D6:=jlZ (P:=l.prog) (w:=w) (base:=base) T (a6.go X G);have D7:=jl0 (P:=l.prog) (w:=w) (base:=base) T (a7.go X G) D6;have D8:=jl4 (P:=l.prog) (w:=w) (base:=base) T (a8.go X G) D7;have D9:=jnO (P:=l.prog) (w:=w) (base:=base) T (a9.go X G) D4 D1 D5 D8;have D10:=jiS (P:=l.prog) (w:=w) (base:=base) T (a10.go X G);have D11:=jl5 (P:=l.prog) (w:=w) (base:=base) T (a11.go X G) D10;have D12:=jkr (P:=l.prog) (w:=w) (base:=base) TC b___init__.go;have D13:=jmd (P:=l.prog) (w:=w) (base:=base) T (a12.go X G);have D14:=jkp (P:=l.prog) (w:=w) (base:=base) TC b_names.go;have D15:=jhL (P:=l.prog) (w:=w) (base:=base) T (a13.go X G);have D16:=jhK (P:=l.prog) (w:=w) (base:=base) T (a14.go X G);have D17:=jnm (P:=l.prog) (w:=w) (base:=base) T (a15.go X G) D16;have D18:=jjZ (P:=l.prog) (w:=w) (base:=base) T (a16.go X G) D15 D17;have D19:=jlR (P:=l.prog) (w:=w) (base:=base) T (a17.go X G) D18;have D20:=jj2 (P:=l.prog) (w:=w) (base:=base) T (a18.go X G) D18;have D21:=ok_gd (P:=l.prog) (w:=w) (base:=base) T (a19.go X G);have D22:=jnl (P:=l.prog) (w:=w) (base:=base) T (a20.go X G) D21;have D23:=jj3 (P:=l.prog) (w:=w) (base:=base) T (a21.go X G) D22;have D24:=jj1 (P:=l.prog) (w:=w) (base:=base) T (a22.go X G);have D25:=jiL (P:=l.prog) (w:=w) (base:=base) T (a23.go X G);have D26:=jhM (P:=l.prog) (w:=w) (base:=base) T (a24.go X G) D20 D23 D24 D25;have D27:=jlS (P:=l.prog) (w:=w) (base:=base) T (a25.go X G);have D28:=ok_ht (P:=l.prog) (w:=w) (base:=base) T (a26.go X G);have D29:=jlT (P:=l.prog) (w:=w) (base:=base) T (a27.go X G) D27 D28;have D30:=jlU (P:=l.prog) (w:=w) (base:=base) T (a28.go X G);have D31:=jlV (P:=l.prog) (w:=w) (base:=base) T (a29.go X G) D27 D18;have D32:=jmc (P:=l.prog) (w:=w) (base:=base) T (a30.go X G) D31;have D33:=jj4 (P:=l.prog) (w:=w) (base:=base) T (a31.go X G);have D34:=jiM (P:=l.prog) (w:=w) (base:=base) T (a32.go X G) D33;have D35:=ji8 (P:=l.prog) (w:=w) (base:=base) TC (a33.go X G) D19 D26 D29 D30 D32 D34;have D36:=ok_do (P:=l.prog) (w:=w) (base:=base) TC b_do_deed.go;have D37:=jnJ (P:=l.prog) (w:=w) (base:=base) TC b_put.go D13 D14 D35 D36;have D38:=jnF (P:=l.prog) (w:=w) (base:=base) T (a34.go X G);have D39:=jkw (P:=l.prog) (w:=w) (base:=base) TC (a35.go X G) D38;have D40:=jjc (P:=l.prog) (w:=w) (base:=base) TC b_boards.go;have D41:=jnE (P:=l.prog) (w:=w) (base:=base) T (a36.go X G);have D42:=jkn (P:=l.prog) (w:=w) (base:=base) T (a37.go X G) D41;have D43:=jmj (P:=l.prog) (w:=w) (base:=base) T (a38.go X G) D42;have D44:=ok_st (P:=l.prog) (w:=w) (base:=base) T (a39.go X G) D43 D42;have D45:=ok_yt (P:=l.prog) (w:=w) (base:=base) TC (a40.go X G) D14 D40 D44;have D46:=ok_ow (P:=l.prog) (w:=w) (base:=base) T (a41.go X G) D1;have D47:=ok_rw (P:=l.prog) (w:=w) (base:=base) T (a42.go X G);have D48:=ok_wb (P:=l.prog) (w:=w) (base:=base) T (a43.go X G) D47 D22;have D49:=ok_r3 (P:=l.prog) (w:=w) (base:=base) T (a44.go X G) D47;have D50:=ok_rs (P:=l.prog) (w:=w) (base:=base) T (a45.go X G) D48 D49;have D51:=jms (P:=l.prog) (w:=w) (base:=base) TC (a46.go X G) D50 D37;have D52:=jjf (P:=l.prog) (w:=w) (base:=base) TC b_settle.go;have D53:=ok_ry (P:=l.prog) (w:=w) (base:=base) TC (a47.go X G) D12 D51 D52;have D54:=jkq (P:=l.prog) (w:=w) (base:=base) TC b_deeds.go;have D55:=jmn (P:=l.prog) (w:=w) (base:=base) TC b_back.go;have D56:=ok_nd (P:=l.prog) (w:=w) (base:=base) TC (a48.go X G) D55;have D57:=ok_is (P:=l.prog) (w:=w) (base:=base) TC (a49.go X G) D14 D40 D54 D56 D45 D37 D55;exact jnT TC FL D0 D1 D2 D9 D11 D12 D37 D39 D45 D46 D53 D57 D14 D54
theorem walk {l:PySem.W.OpenLaw} {q:Program} {loose:List Str} {XP:(Str->Option Value)->Heap->Prop} {YP:World->Heap->Prop} {d:DefRec} {K:Params->PySem.W.Frag} (hn:l.most=some 63) (hdf:d.params.defaults=[])
  (hY:∀(w:World) (h:Heap),YP w h->(K w.params).In h)
  (F:∀(w:World) (mg:Str->Option Value) (fa:Addr) (h:Heap),(K w.params).In h->h.Ns mainGlobals mg->mg d.name=some (.ref fa) ->
   ∃fd:FuncData,(∀(s:Shared) (u:Value),BindsTo s fd ⟨[u],[]⟩ [("script",u)])/\∀base:Heap,(K w.params).In base->base.Ns mainGlobals mg->FnOk l.prog w (K w.params) mg base CX0 10 fa fd ["script"] (jjY (K w.params))) :
  PySem.W.WalkO q loose XP YP l.row.toRowW d [] (fun f vs=>PySem.call f vs) :=
 L2.jly (n:=63) (k:=10) (x:="script") (CX:=fun _=>CX0) (sp:=fun w=>jjY (K w.params)) hn (by decide) hdf ⟨rfl,by decide,by decide⟩ hY F (fun _ _ a ns hl _ hS=>⟨a,ns,rfl,hS,hl,fun _=>rfl⟩) fun _ _ _ _ _ z=>z
end My
namespace PySem.W.Fast
def tw10217281450943292414:=0
def tw10228434132727405448:=0
def tw10241314687210198103:=0
def tw10255280519532140954:=0
def tw10280779817066469238:=0
def tw10422541051494509100:=0
def tw10613476552732141826:=0
def tw10776856415456076220:=0
def tw10813245084064863348:=0
def tw11054904374940471998:=0
def tw11085320137128418173:=0
def tw111464519687637502:=0
def tw1128168109892828542:=0
def tw11376224963437996688:=0
def tw11424092728554696356:=0
def tw11482574524162845595:=0
def tw11483732573049820764:=0
def tw11551255910152424229:=0
def tw11557529499897325013:=0
def tw11601708650906234744:=0
def tw11690630180239175406:=0
def tw11750879487495541928:=0
def tw12008161571568836363:=0
def tw12072619155245979591:=0
def tw12248624208704149702:=0
def tw12250190143685001696:=0
def tw1226530385263244459:=0
def tw12292108339229955482:=0
def tw12389253837078626953:=0
def tw12420082546975996647:=0
def tw12509722791247626055:=0
def tw12557489585742930052:=0
def tw12645470520165881962:=0
def tw12993247299231975386:=0
def tw13378194961671649913:=0
def tw13398935955895371291:=0
def tw13411534495971692162:=0
def tw13520803609785694658:=0
def tw13624174615612994797:=0
def tw13773297845699860962:=0
def tw13794943468674291471:=0
def tw14059276806292162036:=0
def tw14151578128562399264:=0
def tw14322576838655004938:=0
def tw14350803968290723638:=0
def tw14361766756512976516:=0
def tw1443979287430978007:=0
def tw1462819863470509492:=0
def tw14714899512988507166:=0
def tw14727365095566300798:=0
def tw14734906138763528898:=0
def tw14852586335407849387:=0
def tw14875987562277364610:=0
def tw14878013980591205813:=0
def tw15086370079898283948:=0
def tw15237522910954191030:=0
def tw15485482286117377112:=0
def tw15750691074720460873:=0
def tw15929349550077229857:=0
def tw15993669133236871697:=0
def tw16094932130000063181:=0
def tw16274726636585246806:=0
def tw16330108721931232728:=0
def tw16509397293314980616:=0
def tw16513336047970601219:=0
def tw16546894067368333255:=0
def tw16634621219163361499:=0
def tw16654820732372673574:=0
def tw16763855264425391893:=0
def tw16831869855356681624:=0
def tw16900924668844812308:=0
def tw16940984097996133325:=0
def tw17025948706490275875:=0
def tw17039611918078710178:=0
def tw17219300323373371286:=0
def tw17225938342880798948:=0
def tw17238097553308096733:=0
def tw17324797877022464036:=0
def tw17335385309827282337:=0
def tw17555744350690041234:=0
def tw17825247243683242382:=0
def tw17862894655996605538:=0
def tw1796279577951569428:=0
def tw17987062772919957169:=0
def tw18325248305972119805:=0
def tw18334985418206038392:=0
def tw18388285621428484901:=0
def tw187688932369831853:=0
def tw2026030058273683631:=0
def tw2203684914132113433:=0
def tw2372523329755600870:=0
def tw2565661132102823627:=0
def tw2590714662291309561:=0
def tw2990212580214813112:=0
def tw3037556386090395418:=0
def tw3137179532534976295:=0
def tw3396621984938793152:=0
def tw3403512792144626470:=0
def tw3682561689372382838:=0
def tw3708720352687083382:=0
def tw3825684905849405162:=0
def tw3907420783787320357:=0
def tw40972882775858897:=0
def tw4371038276060816238:=0
def tw4689681091371073281:=0
def tw4782114782079129232:=0
def tw4797179328647316264:=0
def tw4964108102302921823:=0
def tw514615650148489681:=0
def tw5204413739165755445:=0
def tw5471230307780771807:=0
def tw5674338378755581416:=0
def tw573600464576397067:=0
def tw5911638096381372982:=0
def tw5932214173742731929:=0
def tw6012442797900965345:=0
def tw6029475181614220067:=0
def tw6176916455725888273:=0
def tw6216097151416413341:=0
def tw6227197903533696689:=0
def tw6244833002605615351:=0
def tw6455263643593610955:=0
def tw6626508217275326395:=0
def tw6670880144288604791:=0
def tw6859305510211807791:=0
def tw6947759444895264780:=0
def tw6976961628058371712:=0
def tw7127217903744808018:=0
def tw7257233455155924967:=0
def tw72698228832471702:=0
def tw7441746264035506168:=0
def tw7512264481047745517:=0
def tw7540658064864192005:=0
def tw7572950375693652628:=0
def tw757927401174950208:=0
def tw7660604812748831566:=0
def tw7952214343352703121:=0
def tw7971980143765818988:=0
def tw7996132095392983494:=0
def tw8090510609699712825:=0
def tw8269977384497961392:=0
def tw8282393030555781887:=0
def tw8428388760036021755:=0
def tw8472353117222761314:=0
def tw8483087047816574392:=0
def tw8494221689119384418:=0
def tw8842076545228263585:=0
def tw8909528753978992631:=0
def tw907579192294968802:=0
def tw9087915497786940885:=0
def tw9096548967493424362:=0
def tw9149694257245449639:=0
def tw915943863327229942:=0
def tw9354517126910581235:=0
def tw9516881224864650633:=0
def tw9524464855418080923:=0
def tw9583683425564420889:=0
def tw9678614073561139457:=0
def tw9773824617504480074:=0
def tw977671687642345055:=0
def tw9879409263237014982:=0
def tw9968913595950224747:=0
end PySem.W.Fast
open PySem PySem.W PyProof.Rows
set_option maxRecDepth 100000 in
set_option maxHeartbeats 0 in
theorem PySem.Challenge.cw_boardsight_k86_yards_written_and_read_holds : PySem.Challenge.rw_boardsight_k86_yards_written_and_read.Holds := by
  w_on;o_law;k_head;(case hw=>w_witness2)
  k_fill
  refine My.walk (l:=PySem.Challenge.rw_boardsight_k86_yards_written_and_read) rfl rfl (fun w h Y=>PySem.W.kIn_of Y) ?F
  case F =>
    intro w mg fa h KX G hmg
    refine' My.jnU KX G hmg ?kSE ?kYC ?kc0 ?qc0 ?kc1 ?qc1 ?kc2 ?qc2 ?kc3 ?qc3 ?rC ?rY ?b___init__ ?b_names ?b_do_deed ?b_put ?b_boards ?b_settle ?b_deeds ?b_back ?kC0 ?kC1 ?kC2 ?kC3 ?kC4 ?aS0 ?aS1 ?a0 ?a1 ?a2 ?a3 ?a4 ?a5 ?a6 ?a7 ?a8 ?a9 ?a10 ?a11 ?a12 ?a13 ?a14 ?a15 ?a16 ?a17 ?a18 ?a19 ?a20 ?a21 ?a22 ?a23 ?a24 ?a25 ?a26 ?a27 ?a28 ?a29 ?a30 ?a31 ?a32 ?a33 ?a34 ?a35 ?a36 ?a37 ?a38 ?a39 ?a40 ?a41 ?a42 ?a43 ?a44 ?a45 ?a46 ?a47 ?a48 ?a49 ?a50 ?l50 ?c50 ?k50 ?z0 ?z1 ?z2 ?z3 ?z4 ?z5 ?z6 ?z7 ?z8 ?z9 ?z10 ?z11 ?z12 ?z13 ?z14
    (case kSE=>k_is)
    (case kYC=>k_is)
    (case kc0=>k_is)
    (case qc0=>first | k_exc | kernel_rfl | k_is)
    (case kc1=>k_is)
    (case qc1=>first | k_exc | kernel_rfl | k_is)
    (case kc2=>k_is)
    (case qc2=>first | k_exc | kernel_rfl | k_is)
    (case kc3=>k_is)
    (case qc3=>first | k_exc | kernel_rfl | k_is)
    (case rC=>first | kernel_rfl | k_is)
    (case rY=>first | kernel_rfl | k_is)
    (case b___init__=>apply My.AtMK.mk;k_is;k_is;k_is;k_is;k_is)
    (case b_names=>apply My.AtMK.mk;k_is;k_is;k_is;k_is;k_is)
    (case b_do_deed=>apply My.AtMK.mk;k_is;k_is;k_is;k_is;k_is)
    (case b_put=>apply My.AtMK.mk;k_is;k_is;k_is;k_is;k_is)
    (case b_boards=>apply My.AtMK.mk;k_is;k_is;k_is;k_is;k_is)
    (case b_settle=>apply My.AtMK.mk;k_is;k_is;k_is;k_is;k_is)
    (case b_deeds=>apply My.AtMK.mk;k_is;k_is;k_is;k_is;k_is)
    (case b_back=>apply My.AtMK.mk;k_is;k_is;k_is;k_is;k_is)
    (case kC0=>k_is)
    (case kC1=>k_is)
    (case kC2=>k_is)
    (case kC3=>k_is)
    (case kC4=>k_is)
    (case aS0=>k_is)
    (case aS1=>k_is)
    (case a50=>k_is)
    (case l50=>k_is)
    (case c50=>k_is)
    (case k50=>k_is)
    (case z0=>k_is)
    (case z1=>k_is)
    (case z2=>k_is)
    (case z3=>k_is)
    (case z4=>k_is)
    (case z5=>k_is)
    (case z6=>k_is)
    (case z7=>k_is)
    (case z8=>k_is)
    (case z9=>k_is)
    (case z10=>k_is)
    (case z11=>k_is)
    (case z12=>k_is)
    (case z13=>k_is)
    (case z14=>k_is)
    all_goals (apply My.AtK.mk;k_is;k_is;k_is;k_is)

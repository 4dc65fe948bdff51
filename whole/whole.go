// Package whole has no program in it: its tests ask what is promised of whole chains, which no single layer can answer for.
package whole

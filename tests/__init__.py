"""Tests of calledbest."""

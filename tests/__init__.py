"""Tests of seeall."""

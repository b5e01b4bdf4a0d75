"""Waiting rooms: switches with watchers, chains, meeting points and doors."""
